import PyProof.Rows.All
import Wide.All
import OpenK.AllK
import Wide.FinOn
import Lean
import PyProof.EqAt
import PyProof.EqKinds
import PyProof.TupleCall
import KE.KDictIter
import KE.KDictList
import KE.KEqDict
import KE.KLam
import KE.KMinKey
import KE.KRevIter
import PyProof.AutoSeq1
import PyProof.ListRange
import PyProof.NeKinds
import PyProof.Rows.InDataRows
import PyProof.Rows.StrStrike
import PyProof.StrCalls6
import PyProof.ToksMono
import PySem.Challenge.RW_weighwalk_k74_whole_no_word_is_cheaper
set_option Elab.async false
set_option linter.all false
set_option maxRecDepth 100000
namespace L2
open PySem PySem.Spec PyProof.Rows
abbrev Key:=Sum Int Str
def keyIs:Key→Value→Bool
  | .inl k,v=>Value.isInt k v
  | .inr x,v=>Value.isStrOf x v
def keyH(w:World):Key→Int
  | .inl k=>hashInt k
  | .inr x=>hashStr w x
theorem keyIs_shape:∀{k:Key} {v:Value},keyIs k v=true→(∃i t,k=Sum.inl i∧v=Value.int i t)∨(∃x t,k=Sum.inr x∧v=Value.str x t)
  | .inl i,v,h=>by
    obtain⟨t,e⟩:=Value.isInt_shape (k:=i) (v:=v) h
    exact .inl ⟨i,t,rfl,e⟩
  | .inr x,v,h=>by
    obtain⟨t,e⟩:=Value.isStrOf_shape (x:=x) (v:=v) h
    exact .inr ⟨x,t,rfl,e⟩
theorem keyIs_int(i:Int)(t:Tok):keyIs (.inl i) (.int i t)=true:=by simp[keyIs,Value.isInt]
theorem keyIs_str(x:Str)(t:Tok):keyIs (.inr x) (.str x t)=true:=by simp[keyIs,Value.isStrOf]
theorem key_ll(a b:Int):decide ((Sum.inl a:Key)=Sum.inl b)=(a == b):=by
  by_cases e:a=b
  · subst e;simp
  · have h:¬(Sum.inl a:Key)=Sum.inl b:=fun q=>e (Sum.inl.inj q)
    rw[decide_eq_false h]
    exact(beq_eq_false_iff_ne.mpr e).symm
theorem key_rr(a b:Str):decide ((Sum.inr a:Key)=Sum.inr b)=decide (a=b):=by
  by_cases e:a=b
  · subst e;simp
  · have h:¬(Sum.inr a:Key)=Sum.inr b:=fun q=>e (Sum.inr.inj q)
    rw[decide_eq_false h,decide_eq_false e]
theorem key_lr(a:Int)(b:Str):decide ((Sum.inl a:Key)=Sum.inr b)=false:=decide_eq_false (fun q=>nomatch q)
theorem key_rl(a:Str)(b:Int):decide ((Sum.inr a:Key)=Sum.inl b)=false:=decide_eq_false (fun q=>nomatch q)
def mixKind(prog:Program)(w:World):PySem.KeyKind prog w Key where
  is:=keyIs
  hash:=keyH w
  inj:=fun v a b ha hb=>by
    rcases keyIs_shape ha with ⟨i,t,rfl,rfl⟩ | ⟨x,t,rfl,rfl⟩
    · rcases keyIs_shape hb with ⟨j,u,rfl,e⟩ | ⟨y,u,rfl,e⟩
      · injection e with e1 _;rw[e1]
      · exact nomatch e
    · rcases keyIs_shape hb with ⟨j,u,rfl,e⟩ | ⟨y,u,rfl,e⟩
      · exact nomatch e
      · injection e with e1 _;rw[e1]
  byValue:=fun k v h=>by
    rcases keyIs_shape h with ⟨i,t,rfl,rfl⟩ | ⟨x,t,rfl,rfl⟩ <;>rfl
  pyHash:=fun hv h=>by
    rcases keyIs_shape hv with ⟨i,t,rfl,rfl⟩ | ⟨x,t,rfl,rfl⟩
    · exact wpAny_pyHash_int h
    · exact wpAny_pyHash_str h
  eqBool:=fun hu hv h=>by
    rcases keyIs_shape hu with ⟨i,t,rfl,rfl⟩ | ⟨x,t,rfl,rfl⟩
    · rcases keyIs_shape hv with ⟨j,u,rfl,rfl⟩ | ⟨y,u,rfl,rfl⟩
      · rw[key_ll]at h;exact wpAny_eqBool_int h
      · rw[key_lr]at h;exact SeqAt.EqAt.int_str i t y u _ _ _ _ h
    · rcases keyIs_shape hv with ⟨j,u,rfl,rfl⟩ | ⟨y,u,rfl,rfl⟩
      · rw[key_rl]at h;exact SeqAt.EqAt.str_int x t j u _ _ _ _ h
      · rw[key_rr]at h;exact wpAny_eqBool_str h
  «strs»:=fun k x t v h=>by
    rcases keyIs_shape h with ⟨i,u,rfl,e⟩ | ⟨y,u,rfl,e⟩
    · exact nomatch e
    · injection e with e1 _
      subst e1
      cases v <;>rfl
theorem mixKind_int(prog:Program)(w:World)(i:Int)(t:Tok):(mixKind prog w).is (.inl i) (.int i t)=true:=keyIs_int i t
theorem mixKind_str(prog:Program)(w:World)(x:Str)(t:Tok):(mixKind prog w).is (.inr x) (.str x t)=true:=keyIs_str x t
end L2
namespace L2
open PySem PySem.Spec PyProof.Rows
inductive V where
  | non | bl (b:Bool) | int (i:Int) | str (x:Str) | byt (b:Array UInt8) | flt (b:UInt64) | ref (a:Addr) | ty (n:String)
  deriving DecidableEq
def RelV:V→Value→Prop
  | .non,u=>u=Value.none
  | .bl b,u=>u=Value.bool b
  | .int i,u=>∃t,u=Value.int i t
  | .str x,u=>∃t,u=Value.str x t
  | .byt b,u=>∃t,u=Value.bytes b t
  | .flt b,u=>∃t,u=Value.float b t
  | .ref a,u=>u=Value.ref a
  | .ty n,u=>u=Value.type n
abbrev Vals:List V→List Value→Prop:=Paired RelV
theorem Vals.length{xs:List V}{us:List Value}(r:Vals xs us):xs.length=us.length:=Paired.length r
theorem Vals.get:∀{xs:List V} {us:List Value} {i:Nat} {x:V},Vals xs us→xs[i]? = some x→∃u,us[i]? = some u∧RelV x u
  | _,_,_,_,.nil,e=>by simp at e
  | _,_,0,_,.cons r _,e=>by simp at e;subst e;exact⟨_,rfl,r⟩
  | _,_,i+1,x,.cons _ t,e=>by
    obtain⟨u,h1,h2⟩:=Vals.get (i:=i) (x:=x) t (by simpa using e)
    exact⟨u,by simpa using h1,h2⟩
theorem Vals.set{x:V}{u:Value}(r:RelV x u):∀{xs:List V} {us:List Value} (i:Nat),Vals xs us→Vals (xs.set i x) (us.set i u)
  | _,_,_,.nil=>.nil
  | _,_,0,.cons _ t=>.cons r t
  | _,_,i+1,.cons q t=>.cons q (Vals.set r i t)
theorem Vals.append:∀{xs ys:List V} {us ws:List Value},Vals xs us→Vals ys ws→Vals (xs++ys) (us++ws)
  | _,_,_,_,.nil,s=>s
  | _,_,_,_,.cons r t,s=>.cons r (Vals.append t s)
theorem Vals.take:∀{xs:List V} {us:List Value} (n:Nat),Vals xs us→Vals (xs.take n) (us.take n)
  | _,_,0,_=>.nil
  | _,_,_+1,.nil=>.nil
  | _,_,n+1,.cons r t=>.cons r (Vals.take n t)
theorem Vals.drop:∀{xs:List V} {us:List Value} (n:Nat),Vals xs us→Vals (xs.drop n) (us.drop n)
  | _,_,0,r=>r
  | _,_,_+1,.nil=>.nil
  | _,_,n+1,.cons _ t=>Vals.drop n t
theorem Vals.none_of:∀{xs:List V} {us:List Value} {i:Nat},Vals xs us→xs[i]? = none→us[i]? = none:=fun{xs us i} r e=>by
  have h1:=r.length
  have h2:xs.length≤i:=List.getElem?_eq_none_iff.mp e
  exact List.getElem?_eq_none_iff.mpr (by omega)
def RelO:Option V→Option Value→Prop
  | some v,some u=>RelV v u
  | none,none=>True
  | _,_=>False
def KV{κ:Type}:List (κ × V)→List (κ × Value)→Prop:=Paired fun(p:κ × V) (q:κ × Value)=>p.1=q.1∧RelV p.2 q.2
def kV:Key→V
  | .inl i=>.int i
  | .inr x=>.str x
inductive HO where
  | lst (xs:List V)
  | tup (xs:List V)
  | dK (kvs:List (Key × V)) | dT (kvs:List (List Key × V))
  | set (S:Int→Bool) (n:Nat)
  | ins (C dx:Addr) (fs:List (Str × V))
  | own (x:Addr)
  | xd (fs:List (Str × V))
  | met (f x:Addr)
  | rng (lo hi:Int)
  | frz (o:Obj) (u:HO)
  | tbl (ps:Array Value)
  | ext (φ:Heap→Prop)
abbrev Hp:=Addr→Option HO
def upd(H:Hp)(a:Addr)(o:HO):Hp:=fun b=>if b=a then some o else H b
theorem upd_same{H:Hp}{a:Addr}{o:HO}:upd H a o a=some o:=by unfold upd;rw[if_pos rfl]
theorem upd_ne{H:Hp}{a b:Addr}{o:HO}(h:b≠a):upd H a o b=H b:=by unfold upd;rw[if_neg h]
theorem ne_of{H:Hp}{a b:Addr}{o u:HO}(h:H a=some o)(h':H b=some u)(d:o≠u):a≠b:=by
  intro e;subst e;rw[h]at h';exact d (Option.some.inj h')
theorem ne_of_none{H:Hp}{a b:Addr}{o:HO}(h:H a=some o)(h':H b=none):a≠b:=by
  intro e;subst e;rw[h]at h';cases h'
section
variable(P:Program)(w:World)
def ObjOk(H:Hp)(h:Heap)(a:Addr):HO→Prop
  | .lst xs=>xs.length≤sizeLine∧∃(its:List Value) (n:Nat),Vals xs its∧h.get? a=some { cls:=.type "list",data:=.seq its.toArray n }
  | .tup xs=>xs.length≤sizeLine∧∃its:List Value,Vals xs its∧IsTup h a its.toArray∧((∀i y,xs≠[.int i,y])→∃o,h.get? a=some o∧o.dict=none)
  | .dK kvs=>kvs.length≤sizeLine∧(a == sysModules)=false∧∃vs,KV kvs vs∧h.DictOf (mixKind P w) a vs
  | .dT kvs=>kvs.length≤sizeLine∧(a == sysModules)=false∧∃xs:List (List Key × Addr × Value),
      Paired (fun(p:List Key × V) (q:List Key × Addr × Value)=>p.1=q.1∧H q.2.1=some (.tup (p.1.map kV))∧RelV p.2 q.2.2) kvs xs∧
      ∃o es ep,h.get? a=some o∧o.ExactDict∧o.data=.dict es ep∧es.toList=xs.map (entryOfKey (tupleKind (mixKind P w)))∧(xs.map (·.1)).Nodup
  | .set S n=>h.SetOf (intKind P w) a S n
  | .ins C dx fs=>H dx=some (.own a)∧fs.length≤1000∧dx≠a∧h.get? a=some (PySem.W.instObj C dx)∧
      ∃mA,h.Ns1 dx mA∧(∀f,RelO (fs.lookup f) (mA f))∧PySem.Within mA (fs.map (·.1))
  | .own _=>∃o,h.get? a=some o
  | .xd fs=>∃mA,h.Ns1 a mA∧∀f,RelO (fs.lookup f) (mA f)
  | .rng lo hi=>∃t u v,h.get? a=some { cls:=.type "range",data:=.fields #[.int lo t,.int hi u,.int 1 v] }
  | .frz o u=>h.get? a=some o∧ObjOk H h a u
  | .tbl ps=>h.get? a=some { cls:=.none,data:=.fields ps }
  | .met f x=>h.get? a=some (PySem.W.methodObj (.ref f) (.ref x))
  | .ext φ=>φ h∧(∃o,h.get? a=some o)∧∀h1 h2:Heap,φ h1→(∀o,h1.get? a=some o→h2.get? a=some o)→φ h2
def HOk(H:Hp)(h:Heap):Prop:=∀a o,H a=some o→ObjOk P w H h a o
end
section
variable{P:Program}{w:World}{H H':Hp}{h h':Heap}{a:Addr}{o:HO}
theorem ObjOk.lt(x:ObjOk P w H h a o):a < h.objs.size:=by
  cases o with
  | lst xs=>obtain⟨_,_,_,_,e⟩:=x;exact Heap.lt_size e
  | tup xs=>obtain⟨_,_,_,p,_⟩:=x;exact p.lt
  | dK kvs=>obtain⟨_,_,_,_,o,_,_,e,_⟩:=x;exact Heap.lt_size e
  | dT kvs=>obtain⟨_,_,_,_,o,_,_,e,_⟩:=x;exact Heap.lt_size e
  | set S n=>obtain⟨o,_,_,_,e,_⟩:=x;exact Heap.lt_size e
  | ins C dx fs=>obtain⟨_,_,_,e,_⟩:=x;exact Heap.lt_size e
  | own y=>obtain⟨_,e⟩:=x;exact Heap.lt_size e
  | xd fs=>obtain⟨_,⟨_,_,_,e,_⟩,_⟩:=x;exact Heap.lt_size e
  | rng lo hi=>obtain⟨_,_,_,e⟩:=x;exact Heap.lt_size e
  | frz ob u=>obtain⟨e,_⟩:=x;exact Heap.lt_size e
  | tbl ps=>exact Heap.lt_size (show h.get? a=some _ from x)
  | met f y=>exact Heap.lt_size (show h.get? a=some _ from x)
  | ext φ=>obtain⟨_,⟨_,e⟩,_⟩:=x;exact Heap.lt_size e
theorem Paired.mapP{α β:Type}{F G:α→β→Prop}:∀{l₁:List α} {l₂:List β},Paired F l₁ l₂→(∀a b,F a b→G a b)→Paired G l₁ l₂
  | _,_,.nil,_=>.nil
  | _,_,.cons r t,f=>.cons (f _ _ r) (Paired.mapP t f)
theorem ObjOk.stay(x:ObjOk P w H h a o)(k:∀b u,(b=a∨H b=some (.own a))→h.get? b=some u→h'.get? b=some u)
    (ho:∀b,H b=some (.own a)→H' b=some (.own a)) (ht:∀b xs,H b=some (.tup xs)→H' b=some (.tup xs)):ObjOk P w H' h' a o:=by
  induction o with
  | lst xs=>obtain⟨z,its,n,r,e⟩:=x;exact⟨z,its,n,r,k _ _ (.inl rfl) e⟩
  | tup xs=>obtain⟨z,its,r,⟨ob,e,c⟩,d⟩:=x;exact⟨z,its,r,⟨ob,k _ _ (.inl rfl) e,c⟩,fun nx=>let⟨o,e2,d2⟩:=d nx;⟨o,k _ _ (.inl rfl) e2,d2⟩⟩
  | dK kvs=>obtain⟨z,y,vs,r,ob,es,ep,e,c⟩:=x;exact⟨z,y,vs,r,ob,es,ep,k _ _ (.inl rfl) e,c⟩
  | dT kvs=>
    obtain⟨z,y,xs,r,ob,es,ep,e,c⟩:=x
    exact⟨z,y,xs,Paired.mapP r fun p q z=>⟨z.1,ht _ _ z.2.1,z.2.2⟩,ob,es,ep,k _ _ (.inl rfl) e,c⟩
  | set S n=>obtain⟨ob,es,ep,t,e,c⟩:=x;exact⟨ob,es,ep,t,k _ _ (.inl rfl) e,c⟩
  | ins C dx fs=>
    obtain⟨d,z,ne,e,mA,⟨od,es,ep,e2,c⟩,r⟩:=x
    exact⟨ho _ d,z,ne,k _ _ (.inl rfl) e,mA,⟨od,es,ep,k _ _ (.inr d) e2,c⟩,r⟩
  | own y=>obtain⟨ob,e⟩:=x;exact⟨ob,k _ _ (.inl rfl) e⟩
  | xd fs=>obtain⟨mA,⟨od,es,ep,e,c⟩,r⟩:=x;exact⟨mA,⟨od,es,ep,k _ _ (.inl rfl) e,c⟩,r⟩
  | rng lo hi=>obtain⟨t,u,v,e⟩:=x;exact⟨t,u,v,k _ _ (.inl rfl) e⟩
  | frz ob u ih=>obtain⟨e,q⟩:=x;exact⟨k _ _ (.inl rfl) e,ih q⟩
  | tbl ps=>
    have e:h.get? a=some { cls:=.none,data:=.fields ps }:=x
    show h'.get? a=some { cls:=.none,data:=.fields ps }
    exact k a _ (.inl rfl) e
  | met f y=>
    have e:h.get? a=some (PySem.W.methodObj (.ref f) (.ref y)):=x
    show h'.get? a=some (PySem.W.methodObj (.ref f) (.ref y))
    exact k a _ (.inl rfl) e
  | ext φ=>obtain⟨p,⟨o,e⟩,st⟩:=x;exact⟨st _ _ p fun o q=>k _ _ (.inl rfl) q,⟨o,k _ _ (.inl rfl) e⟩,st⟩
theorem HOk.lt(x:HOk P w H h)(e:H a=some o):a < h.objs.size:=(x a o e).lt
theorem HOk.fresh(x:HOk P w H h)(e:h.objs.size≤a):H a=none:=by
  cases q:H a with
  | none=>rfl
  | some u=>exact absurd (Nat.lt_of_lt_of_le (x.lt q) e) (Nat.lt_irrefl _)
theorem HOk.kept(x:HOk P w H h)(k:∀b u,h.get? b=some u→h'.get? b=some u):HOk P w H h':=fun a o e=>
  (x a o e).stay (fun b u _ q=>k b u q) (fun _ q=>q) fun _ _ q=>q
theorem HOk.laid(x:HOk P w H h)(k:∀b u,h.get? b=some u→h'.get? b=some u)(hp:h.objs.size≤a)(new:ObjOk P w (upd H a o) h' a o):HOk P w (upd H a o) h':=fun b u e=>by
  have hn:=x.fresh hp
  by_cases hb:b=a
  · subst hb;rw[upd_same]at e;cases e;exact new
  · rw[upd_ne hb]at e
    exact(x b u e).stay (fun c v _ q=>k c v q) (fun c q=>by rw[upd_ne (ne_of_none q hn)];exact q) fun c xs q=>by rw[upd_ne (ne_of_none q hn)];exact q
end
def Rd(H:Hp)(a:Addr)(u:HO):Prop:=H a=some u∨∃o,H a=some (.frz o u)
theorem Rd.of{H:Hp}{a:Addr}{u:HO}(h:H a=some u):Rd H a u:=.inl h
theorem Rd.ok{P:Program}{w:World}{H:Hp}{h:Heap}{a:Addr}{u:HO}(r:Rd H a u)(x:HOk P w H h):ObjOk P w H h a u:=by
  rcases r with r | ⟨o,r⟩
  · exact x a u r
  · obtain⟨_,q⟩:=x a _ r
    exact q
def Mut:Option HO→Prop
  | some (.lst _)=>True
  | some (.dK _)=>True
  | some (.dT _)=>True
  | some (.set _ _)=>True
  | some (.ins _ _ _)=>True
  | some (.ext _)=>True
  | _=>False
section
variable{P:Program}{w:World}{H:Hp}{h h':Heap}{x e:Addr}{o':HO}
theorem HOk.write(ok:HOk P w H h)(mu:Mut (H x))(he:e=x∨H e=some (.own x))(k:∀b u,b≠e→h.get? b=some u→h'.get? b=some u)(heo:∃u,h'.get? e=some u)
    (new:ObjOk P w (upd H x o') h' x o'):HOk P w (upd H x o') h':=fun b u q=>by
  have nown:∀c y,H c=some (.own y)→c≠x:=fun c y r z=>by subst z;rw[r]at mu;exact mu
  have ntup:∀c xs,H c=some (.tup xs)→c≠x:=fun c xs r z=>by subst z;rw[r]at mu;exact mu
  by_cases hb:b=x
  · subst hb;rw[upd_same]at q;cases q;exact new
  · rw[upd_ne hb]at q
    by_cases hbe:b=e
    · have q':H b=some (.own x):=by
        rcases he with z | z
        · exact absurd (hbe.trans z) hb
        · rw[hbe];exact z
      rw[q]at q';cases q'
      obtain⟨v,hv⟩:=heo
      exact⟨v,by rw[hbe];exact hv⟩
    · refine(ok b u q).stay (fun c v hc r=>k c v ?_ r) (fun c r=>by rw[upd_ne (nown c b r)];exact r) fun c xs r=>by rw[upd_ne (ntup c xs r)];exact r
      rcases hc with rfl | hc
      · exact hbe
      · rintro rfl
        rcases he with z | z
        · exact nown c b hc z
        · rw[hc]at z;cases z;exact hb rfl
end
structure Un(fs ex:List Addr)(H H':Hp)(h h':Heap):Prop where
  keep:∀b o,h.get? b=some o→H b=none→b ∉ fs→b ∉ ex→h'.get? b=some o
  slot:∀b o,h.get? b=some o→H b=none→b∈fs→b ∉ ex→∃sl,h'.get? b=some { o with slots:=sl }
  free:∀b o,h.get? b=some o→H b=none→b ∉ ex→H' b=none
  there:∀b o,h.get? b=some o→b ∉ ex→∃o',h'.get? b=some o'
  tups:∀b xs,H b=some (.tup xs)→H' b=some (.tup xs)
  frzs:∀b o u,H b=some (.frz o u)→H' b=some (.frz o u)
  tbls:∀b ps,H b=some (.tbl ps)→∃more,H' b=some (.tbl (ps++more))
section
variable{fs fs' ex ex':List Addr}{H H1 H2:Hp}{h h1 h2 h':Heap}{a x e:Addr}{o:HO}
theorem Un.any(u:Un fs ex H H1 h h1){b:Addr}{ob:Obj}(q:h.get? b=some ob)(n:H b=none)(hx:b ∉ ex):∃sl,h1.get? b=some { ob with slots:=sl }:=by
  by_cases hb:b∈fs
  · exact u.slot b ob q n hb hx
  · exact⟨ob.slots,u.keep b ob q n hb hx⟩
theorem Un.trans(a:Un fs ex H H1 h h1)(b:Un fs ex H1 H2 h1 h2):Un fs ex H H2 h h2 where
  keep:=fun c ob q n hc hx=>b.keep c ob (a.keep c ob q n hc hx) (a.free c ob q n hx) hc hx
  slot:=fun c ob q n hc hx=>by
    obtain⟨sl,e1⟩:=a.slot c ob q n hc hx
    obtain⟨sl',e2⟩:=b.slot c _ e1 (a.free c ob q n hx) hc hx
    exact⟨sl',e2⟩
  free:=fun c ob q n hx=>by
    obtain⟨o',e1⟩:=a.there c ob q hx
    exact b.free c o' e1 (a.free c ob q n hx) hx
  there:=fun c ob q hx=>by
    obtain⟨o',e1⟩:=a.there c ob q hx
    exact b.there c o' e1 hx
  tups:=fun c xs q=>b.tups c xs (a.tups c xs q)
  frzs:=fun c ob xs q=>b.frzs c ob xs (a.frzs c ob xs q)
  tbls:=fun c ps q=>by
    obtain⟨m1,e1⟩:=a.tbls c ps q
    obtain⟨m2,e2⟩:=b.tbls c _ e1
    exact⟨m1++m2,by rw[e2,Array.append_assoc]⟩
theorem Un.kept(k:∀b u,h.get? b=some u→h'.get? b=some u):Un fs ex H H h h':=
  ⟨fun b ob q _ _ _=>k b ob q,fun b ob q _ _ _=>⟨ob.slots,k b ob q⟩,fun _ _ _ n _=>n,fun b ob q _=>⟨ob,k b ob q⟩,fun _ _ q=>q,fun _ _ _ q=>q,fun _ ps q=>⟨#[],by rw[q];simp⟩⟩
theorem Un.refl:Un fs ex H H h h:=Un.kept fun _ _ q=>q
theorem Un.laid(k:∀b u,h.get? b=some u→h'.get? b=some u)(hp:h.objs.size≤a)(hn:H a=none):Un fs ex H (upd H a o) h h' where
  keep:=fun b u q _ _ _=>k b u q
  slot:=fun b u q _ _ _=>⟨u.slots,k b u q⟩
  free:=fun b u q n _=>by rw[upd_ne (Nat.ne_of_lt (Nat.lt_of_lt_of_le (Heap.lt_size q) hp))];exact n
  there:=fun b u q _=>⟨u,k b u q⟩
  tups:=fun b xs q=>by rw[upd_ne (ne_of_none q hn)];exact q
  frzs:=fun b u xs q=>by rw[upd_ne (ne_of_none q hn)];exact q
  tbls:=fun b ps q=>⟨#[],by rw[upd_ne (ne_of_none q hn),q];simp⟩
theorem Un.write(mu:Mut (H x))(he:e=x∨H e=some (.own x))(k:∀b u,b≠e→h.get? b=some u→h'.get? b=some u)(heo:∃u,h'.get? e=some u):Un fs ex H (upd H x o) h h':=by
  have hx:∀b,H b=none→b≠x:=fun b n z=>by subst z;rw[n]at mu;exact mu
  have hb:∀b,H b=none→b≠e:=fun b n z=>by
    subst z
    rcases he with r | r
    · exact hx b n r
    · rw[n]at r;cases r
  have hm:∀b u,H b=some u→¬Mut (some u)→b≠x:=fun b u q nm z=>by subst z;rw[q]at mu;exact nm mu
  refine⟨fun b u q n _ _=>k b u (hb b n) q,fun b u q n _ _=>⟨u.slots,k b u (hb b n) q⟩,fun b u q n _=>by rw[upd_ne (hx b n)];exact n,fun b u q _=>?_,
    fun b xs q=>by rw[upd_ne (hm b _ q fun z=>z)];exact q,fun b u xs q=>by rw[upd_ne (hm b _ q fun z=>z)];exact q,fun b ps q=>⟨#[],by rw[upd_ne (hm b _ q fun z=>z),q];simp⟩⟩
  by_cases hbe:b=e
  · subst hbe;exact heo
  · exact⟨u,k b u hbe q⟩
theorem Un.mono(u:Un fs ex H H1 h h1)(hs:∀b∈fs,b∈fs')(hx:∀b∈ex,b∈ex'):Un fs' ex' H H1 h h1:=
  ⟨fun b ob q n hb he=>u.keep b ob q n (fun z=>hb (hs b z)) fun z=>he (hx b z),fun _ _ q n _ he=>u.any q n fun z=>he (hx _ z),fun b ob q n he=>u.free b ob q n fun z=>he (hx b z),fun b ob q he=>u.there b ob q fun z=>he (hx b z),u.tups,u.frzs,u.tbls⟩
end
def trk(h:Heap)(H:Hp):List Addr:=(List.range h.objs.size).filter fun a=>(H a).isSome
def hidT(h:Heap)(H:Hp):Heap:=PySem.W.hideAll h (trk h H)
theorem hidT_size(h:Heap)(H:Hp):(hidT h H).objs.size=h.objs.size:=PySem.W.hideAll_size _ _
theorem hidT_get{h:Heap}{H:Hp}{b:Addr}{o:Obj}(e:h.get? b=some o)(n:H b=none):(hidT h H).get? b=some o:=
  PySem.W.hideAll_get _ e fun hm=>by
    have q:(H b).isSome=true:=(List.mem_filter.mp hm).2
    rw[n]at q;simp at q
theorem of_hidT{h:Heap}{H:Hp}{b:Addr}{o:Obj}(e:(hidT h H).get? b=some o):h.get? b=some o∧H b=none:=by
  have e':h.get? b=some o:=PySem.W.of_hideAll (trk h H) e
  refine⟨e',?_⟩
  cases q:H b with
  | none=>rfl
  | some x=>
    have hm:b∈trk h H:=List.mem_filter.mpr ⟨List.mem_range.mpr (Heap.lt_size e'),by simp[q]⟩
    have z:(hidT h H).get? b=none:=PySem.W.hideAll_none (trk h H) hm
    rw[z]at e;cases e
def allNews(g h:Heap)(L:Addr):List (Addr × Obj):=(List.range h.objs.size).filterMap fun a=>if a=L∨(g.get? a).isSome=true then none else(h.get? a).map fun o=>(a,o)
def rest(g h:Heap)(L d:Addr):List (Addr × Obj):=(allNews g h L).filter fun p=>decide (p.1≠d)
end L2
namespace L2
open PySem PySem.Spec PyProof.Rows
structure Mod(K:PySem.W.Frag)(mg:Str→Option Value)(base:Heap):Prop where
  kin:K.In base
  glob:base.Ns mainGlobals mg
  blt:∃mb,base.Ns builtinsNs mb∧∀x:Str,x≠"__name__"→mb x=bootBuiltins x
  nolimit:base.NoLimit
  seer:base.NoSeer
set_option genInjectivity false in
set_option genSizeOfSpec false in
structure Cx where
  prog:Program
  w:World
  K:PySem.W.Frag
  mg:Str→Option Value
  base:Heap
  A:Around
  N:List Str
  s₀:Shared
  H₀:Hp
  env:Env
  outer:List Env
  stack:List Env
  ex:List Addr
  fn:Str→Bool
  calm:Bool
  pn:List (Addr × Obj)
  xe:Value→Shared→Prop
def frs(l:List Env):List Addr:=l.filterMap (·.frame)
abbrev Cx.fs(X:Cx):List Addr:=frs X.outer
def Vis(sc:Scope)(x:Str):Prop:=sc.names.lookup x=some .local∨sc.names.lookup x=some .cell∨sc.names.lookup x=some .free
def Loc(sc:Scope)(x:Str):Prop:=sc.names.lookup x=some .local∨sc.names.lookup x=some .cell
def Look(env:Env)(h:Heap)(m:Str→Option Value)(x:Str)(u:Value):Prop:=
  (env.kindOf x=some .local∧m x=some u)∨((env.kindOf x=some .cell∨env.kindOf x=some .free)∧∃c,env.cells.lookup x=some c∧h.IsCell c (some u))
structure Cx.Ok(X:Cx):Prop where
  mod:Mod X.K X.mg X.base
  kind:X.env.scope.kind=.function
  glob:X.env.globals=mainGlobals
  blt:X.env.builtins=builtinsNs
  above:X.s₀.heap.objs.size≤X.env.locals
  inj:∀x y c,X.env.cells.lookup x=some c→X.env.cells.lookup y=some c→x=y
  has:∀x,(X.env.kindOf x=some .cell∨X.env.kindOf x=some .free)→∃c,X.env.cells.lookup x=some c
  cab:∀x c,X.fn x=true→X.env.cells.lookup x=some c→X.s₀.heap.objs.size≤c
  hd:X.calm=true→X.A.handled=none
  frames:X.A.frames=some X.stack
  stk:X.stack=X.outer∨(X.stack=X.env::X.outer∧X.env.frame=some X.env.locals)
  exf:∀b∈X.ex,b≠X.env.locals∧∀x c,X.env.cells.lookup x=some c→c≠b
  bs:∀b o,X.base.get? b=some o→X.s₀.heap.get? b=some o∧X.H₀ b=none
  bsz:X.base.objs.size≤X.s₀.heap.objs.size
  noex:∀b o,X.base.get? b=some o→b ∉ X.ex
  exfs:∀b∈X.ex,b ∉ X.fs
  funs:X.s₀.heap.FunFrames X.base X.outer
  frf:∀b∈X.fs,X.H₀ b=none
structure Inv(X:Cx)(pins:List (Addr × Obj))(σ:List (Option V))(H:Hp)(s:Shared):Prop where
  ok:X.Ok
  os:s.os=X.s₀.os
  bare:AllBare s.gens
  base:Un X.fs X.ex X.H₀ H X.s₀.heap s.heap
  loc:∃m,s.heap.Ns X.env.locals m∧∀(i:Nat) (x:Str) (v:V),X.N[i]? = some x→σ[i]? = some (some v)→Vis X.env.scope x→∃u,RelV v u∧Look X.env s.heap m x u
  cell:∀x c,X.env.cells.lookup x=some c→∃v,s.heap.IsCell c v
  free:H X.env.locals=none
  freeC:∀x c,X.env.cells.lookup x=some c→H c=none
  pin:∀p∈X.pn++pins,s.heap.get? p.1=some p.2∧H p.1=none∧p.1≠X.env.locals∧p.1 ∉ X.fs∧∀v,p.2.data≠.cell v
  hok:HOk X.prog X.w H s.heap
  len:σ.length=X.N.length
section
variable{X:Cx}{pins:List (Addr × Obj)}{σ:List (Option V)}{H H':Hp}{s:Shared}{h':Heap}
theorem Cx.Ok.nofr(ok:X.Ok){b:Addr}{o:Obj}(e:X.base.get? b=some o):b ∉ X.fs:=fun hb=>by
  have:=(ok.funs.mem hb).1
  rw[e]at this;cases this
theorem Inv.bs(I:Inv X pins σ H s):∀b o,X.base.get? b=some o→s.heap.get? b=some o∧H b=none:=fun b o e=>
  ⟨I.base.keep b o (I.ok.bs b o e).1 (I.ok.bs b o e).2 (I.ok.nofr e) (I.ok.noex b o e),I.base.free b o (I.ok.bs b o e).1 (I.ok.bs b o e).2 (I.ok.noex b o e)⟩
theorem Inv.bk(I:Inv X pins σ H s):∀b o,X.base.get? b=some o→s.heap.get? b=some o:=fun b o e=>(I.bs b o e).1
theorem Inv.mod(I:Inv X pins σ H s):Mod X.K X.mg X.base:=I.ok.mod
theorem Inv.kIn(I:Inv X pins σ H s):X.K.In s.heap:=I.ok.mod.kin.keeps I.bk
theorem Inv.nolimit(I:Inv X pins σ H s):s.heap.NoLimit:=I.ok.mod.nolimit.keeps I.bk
theorem Inv.fr(I:Inv X pins σ H s):∃m,Fr X.base X.env.locals s.heap m:=
  let⟨m,hn,_⟩:=I.loc
  ⟨m,hn,I.bk,Nat.le_trans I.ok.bsz I.ok.above⟩
theorem Inv.lt(I:Inv X pins σ H s):X.env.locals < s.heap.objs.size:=let⟨_,hn,_⟩:=I.loc;hn.lt
theorem Inv.sz(I:Inv X pins σ H s):X.s₀.heap.objs.size≤s.heap.objs.size:=Nat.le_trans I.ok.above (Nat.le_of_lt I.lt)
theorem Inv.nofs(I:Inv X pins σ H s){a:Addr}(h:s.heap.objs.size≤a):a ∉ X.fs:=fun hb=>by
  obtain⟨_,o,ho,_⟩:=I.ok.funs.mem hb
  exact absurd (Nat.lt_of_lt_of_le (Heap.lt_size ho) (Nat.le_trans I.sz h)) (Nat.lt_irrefl _)
theorem Inv.cne(I:Inv X pins σ H s):∀x c,X.env.cells.lookup x=some c→c≠X.env.locals:=fun x c e z=>by
  obtain⟨v,o,ho,hd⟩:=I.cell x c e
  obtain⟨m,⟨o',es,ep,ho',hd',_⟩,_⟩:=I.loc
  rw[z,ho']at ho;cases ho;rw[hd']at hd;cases hd
theorem Inv.funs(I:Inv X pins σ H s):s.heap.FunFrames X.base X.outer:=by
  have all:∀(l:List Env),(∀b∈frs l,b∈X.fs)→X.s₀.heap.FunFrames X.base l→s.heap.FunFrames X.base l:=by
    intro l
    induction l with
    | nil=>intro _ _;trivial
    | cons env r ih=>
      intro hs hl
      obtain⟨hk,⟨L,o,hf,hn,ho,hd⟩,hr⟩:=hl
      have hL:L∈X.fs:=hs L (by unfold frs;rw[List.filterMap_cons,hf];exact List.mem_cons_self)
      obtain⟨sl,e⟩:=I.base.slot L o ho (I.ok.frf L hL) hL fun z=>I.ok.exfs L z hL
      exact⟨hk,⟨L,_,hf,hn,e,hd⟩,ih (fun b hb=>hs b (by unfold frs;rw[List.filterMap_cons,hf];exact List.mem_cons_of_mem _ hb)) hr⟩
  exact all X.outer (fun _ hb=>hb) I.ok.funs
theorem Inv.stack(I:Inv X pins σ H s):s.heap.FunFrames X.base X.stack:=by
  rcases I.ok.stk with e | ⟨e,hf⟩
  · rw[e];exact I.funs
  · rw[e]
    obtain⟨m,hn,_⟩:=I.loc
    refine .cons (by rw[I.ok.kind];decide) hf hn ?_ I.funs
    exact Heap.get?_none_of_le (Nat.le_trans I.ok.bsz I.ok.above)
theorem Inv.stkSub(I:Inv X pins σ H s):∀b∈frs X.stack,b∈X.env.locals::X.fs:=fun b hb=>by
  rcases I.ok.stk with e | ⟨e,hf⟩
  · rw[e]at hb;exact List.mem_cons_of_mem _ hb
  · rw[e]at hb
    unfold frs at hb
    rw[List.filterMap_cons,hf]at hb
    exact hb
theorem Inv.stkFree(I:Inv X pins σ H s):∀b∈frs X.stack,H b=none:=fun b hb=>by
  rcases List.mem_cons.mp (I.stkSub b hb)with e | hb
  · rw[e];exact I.free
  · obtain⟨_,o,ho,_⟩:=I.ok.funs.mem hb
    exact I.base.free b o ho (I.ok.frf b hb) fun z=>I.ok.exfs b z hb
theorem Inv.step{g':Array GenState}{t':Nat}{d':Drawn}{ch:List Addr}(I:Inv X pins σ H s)
    (hch:∀b∈ch,(b∈X.ex∨X.s₀.heap.objs.size≤b)∧b≠X.env.locals∧(∀x c,X.env.cells.lookup x=some c→c≠b)∧∀p∈X.pn++pins,p.1≠b)
    (keep:∀b o,b≠X.env.locals→b ∉ X.fs→b ∉ ch→s.heap.get? b=some o→H b=none→h'.get? b=some o)
    (slot:∀b o,b≠X.env.locals→b∈X.fs→b ∉ ch→s.heap.get? b=some o→H b=none→∃sl,h'.get? b=some { o with slots:=sl }) (free:∀b o,b ∉ ch→s.heap.get? b=some o→H b=none→H' b=none)
    (there:∀b o,b ∉ ch→s.heap.get? b=some o→∃o',h'.get? b=some o')
    (tups:∀b xs,H b=some (.tup xs)→H' b=some (.tup xs)) (frzs:∀b o u,H b=some (.frz o u)→H' b=some (.frz o u)) (tbls:∀b ps,H b=some (.tbl ps)→∃more,H' b=some (.tbl (ps++more)))
    (ns:∀m,s.heap.Ns X.env.locals m→h'.Ns X.env.locals m) (hok:HOk X.prog X.w H' h') (hg:AllBare g') :
    Inv X pins σ H' { s with heap:=h',gens:=g',drawn:=d',toks:=t' }:=by
  have neL:∀b o,X.s₀.heap.get? b=some o→b≠X.env.locals:=fun b o e=>Nat.ne_of_lt (Nat.lt_of_lt_of_le (Heap.lt_size e) I.ok.above)
  have neC:∀b o,X.s₀.heap.get? b=some o→b ∉ X.ex→b ∉ ch:=fun b o e hx hb=>by
    rcases(hch b hb).1 with z | z
    · exact hx z
    · exact absurd (Nat.lt_of_lt_of_le (Heap.lt_size e) z) (Nat.lt_irrefl _)
  have cellK:∀x c,X.env.cells.lookup x=some c→∀v,s.heap.IsCell c v→h'.IsCell c v:=fun x c e v ⟨o,ho,hd⟩=>by
    have nch:c ∉ ch:=fun z=>(hch c z).2.2.1 x c e rfl
    by_cases hc:c∈X.fs
    · obtain⟨sl,q⟩:=slot c o (I.cne x c e) hc nch ho (I.freeC x c e)
      exact⟨_,q,hd⟩
    · exact⟨o,keep c o (I.cne x c e) hc nch ho (I.freeC x c e),hd⟩
  refine⟨I.ok,I.os,hg,⟨fun b o e n hb hx=>?_,fun b o e n hb hx=>?_,fun b o e n hx=>?_,fun b o e hx=>?_,fun b xs e=>tups b xs (I.base.tups b xs e),fun b o xs e=>frzs b o xs (I.base.frzs b o xs e),fun b ps e=>?_⟩,?_,fun x c e=>?_,?_,fun x c e=>?_,fun p hp=>?_,hok,I.len⟩
  · exact keep b o (neL b o e) hb (neC b o e hx) (I.base.keep b o e n hb hx) (I.base.free b o e n hx)
  · obtain⟨sl,e1⟩:=I.base.slot b o e n hb hx
    obtain⟨sl',e2⟩:=slot b _ (neL b o e) hb (neC b o e hx) e1 (I.base.free b o e n hx)
    exact⟨sl',e2⟩
  · obtain⟨o',e1⟩:=I.base.there b o e hx
    exact free b o' (neC b o e hx) e1 (I.base.free b o e n hx)
  · obtain⟨o',e1⟩:=I.base.there b o e hx
    exact there b o' (neC b o e hx) e1
  · obtain⟨m1,e1⟩:=I.base.tbls b ps e
    obtain⟨m2,e2⟩:=tbls b _ e1
    exact⟨m1++m2,by rw[e2,Array.append_assoc]⟩
  · obtain⟨m,hn,hl⟩:=I.loc
    refine⟨m,ns m hn,fun i x v e1 e2 e3=>?_⟩
    obtain⟨u,r,l⟩:=hl i x v e1 e2 e3
    refine⟨u,r,?_⟩
    rcases l with l | ⟨k,c,e,z⟩
    · exact .inl l
    · exact .inr ⟨k,c,e,cellK x c e _ z⟩
  · obtain⟨v,z⟩:=I.cell x c e
    exact⟨v,cellK x c e v z⟩
  · obtain⟨m,⟨o,_,_,ho,_⟩,_⟩:=I.loc
    exact free _ o (fun z=>(hch _ z).2.1 rfl) ho I.free
  · obtain⟨v,o,ho,hd⟩:=I.cell x c e
    exact free c o (fun z=>(hch c z).2.2.1 x c e rfl) ho (I.freeC x c e)
  · obtain⟨e,n,ne,nf,d⟩:=I.pin p hp
    have nch:p.1 ∉ ch:=fun z=>(hch p.1 z).2.2.2 p hp rfl
    exact⟨keep p.1 p.2 ne nf nch e n,free p.1 p.2 nch e n,ne,nf,d⟩
theorem Inv.un{t':Nat}(I:Inv X pins σ H s)(u:Un X.fs [] H H' s.heap h')(hok:HOk X.prog X.w H' h'):Inv X pins σ H' { s with heap:=h',toks:=t' }:=by
  obtain⟨m,⟨o,es,ep,ho,r⟩,_⟩:=id I.loc
  obtain⟨sl,hL⟩:=u.any ho I.free (by simp)
  exact I.step (g':=s.gens) (d':=s.drawn) (ch:=[]) (fun _ z=>nomatch z) (fun b o _ hb _ e n=>u.keep b o e n hb (by simp)) (fun b o _ hb _ e n=>u.slot b o e n hb (by simp)) (fun b o _ e n=>u.free b o e n (by simp)) (fun b o _ e=>u.there b o e (by simp)) u.tups u.frzs u.tbls (fun m' hm=>by
    obtain⟨o',es',ep',ho',r'⟩:=hm
    rw[ho]at ho';cases ho'
    exact⟨_,es',ep',hL,r'⟩) hok I.bare
theorem Inv.call{g':Array GenState}{t':Nat}{d':Drawn}{ch:List Addr}(I:Inv X pins σ H s)(u:Un (frs X.stack) ch H H' s.heap h')(hok:HOk X.prog X.w H' h')(hg:AllBare g')
    (hch:∀b∈ch,(b∈X.ex∨X.s₀.heap.objs.size≤b)∧b≠X.env.locals∧(∀x c,X.env.cells.lookup x=some c→c≠b)∧∀p∈X.pn++pins,p.1≠b) :
    Inv X pins σ H' { s with heap:=h',gens:=g',drawn:=d',toks:=t' }:=by
  obtain⟨m,⟨o,es,ep,ho,r⟩,_⟩:=id I.loc
  obtain⟨sl,hL⟩:=u.any ho I.free fun z=>(hch _ z).2.1 rfl
  exact I.step (ch:=ch) hch (fun b o hL hb hc e n=>u.keep b o e n (fun z=>(List.mem_cons.mp (I.stkSub b z)).elim hL hb) hc) (fun b o _ _ hc e n=>u.any e n hc) (fun b o hc e n=>u.free b o e n hc) (fun b o hc e=>u.there b o e hc) u.tups u.frzs u.tbls (fun m' hm=>by
    obtain⟨o',es',ep',ho',r'⟩:=hm
    rw[ho]at ho';cases ho'
    exact⟨_,es',ep',hL,r'⟩) hok hg
theorem Inv.turned{t':Nat}{it:Addr}(I:Inv X pins σ H s)(k:∀b o,b≠it→s.heap.get? b=some o→h'.get? b=some o)(hn:H it=none)(hL:it≠X.env.locals)
    (h1:it∈X.ex∨X.s₀.heap.objs.size≤it) (h2:∀x c,X.env.cells.lookup x=some c→c≠it) (h3:∀p∈X.pn++pins,p.1≠it):Inv X pins σ H { s with heap:=h',toks:=t' }:=by
  have nit:∀b u,H b=some u→b≠it:=fun b u e z=>by rw[z,hn]at e;cases e
  refine I.step (g':=s.gens) (d':=s.drawn) (ch:=[it]) (fun b hb=>?_) (fun b o _ _ hc e _=>k b o (fun z=>hc (by simp[z])) e) (fun b o _ _ hc e _=>⟨o.slots,k b o (fun z=>hc (by simp[z])) e⟩) (fun _ _ _ _ n=>n)
    (fun b o hc e=>⟨o,k b o (fun z=>hc (by simp[z])) e⟩) (fun _ _ e=>e) (fun _ _ _ e=>e) (fun b ps e=>⟨#[],by rw[e];simp⟩) (fun m hm=>?_) (fun b u e=>?_) I.bare
  · have e:b=it:=by simpa using hb
    subst e
    exact⟨h1,hL,h2,h3⟩
  · obtain⟨o,es,ep,ho,r⟩:=hm
    exact⟨o,es,ep,k _ o (Ne.symm hL) ho,r⟩
  · refine(I.hok b u e).stay (fun c v hc q=>k c v ?_ q) (fun _ q=>q) fun _ _ q=>q
    rcases hc with z | z
    · rw[z];exact nit b u e
    · exact nit c _ z
theorem Inv.tok(I:Inv X pins σ H s)(t:Nat):Inv X pins σ H { s with toks:=t }:=I.un (h':=s.heap) (t':=t) Un.refl I.hok
theorem Inv.kept{t':Nat}(I:Inv X pins σ H s)(k:∀b u,s.heap.get? b=some u→h'.get? b=some u):Inv X pins σ H { s with heap:=h',toks:=t' }:=I.un (Un.kept k) (I.hok.kept k)
theorem Inv.laid{a:Addr}{o:HO}{t':Nat}(I:Inv X pins σ H s)(k:∀b u,s.heap.get? b=some u→h'.get? b=some u)(hp:s.heap.objs.size≤a)(new:ObjOk X.prog X.w (upd H a o) h' a o) :
    Inv X pins σ (upd H a o) { s with heap:=h',toks:=t' }:=I.un (Un.laid k hp (I.hok.fresh hp)) (I.hok.laid k hp new)
theorem Inv.write{x e:Addr}{o:HO}{t':Nat}(I:Inv X pins σ H s)(mu:Mut (H x))(he:e=x∨H e=some (.own x))(k:∀b u,b≠e→s.heap.get? b=some u→h'.get? b=some u)(heo:∃u,h'.get? e=some u)
    (new:ObjOk X.prog X.w (upd H x o) h' x o):Inv X pins σ (upd H x o) { s with heap:=h',toks:=t' }:=I.un (Un.write mu he k heo) (I.hok.write mu he k heo new)
theorem Inv.weak{σ':List (Option V)}(I:Inv X pins σ H s)(hl:σ'.length=σ.length)(w:∀(i:Nat) v,σ'[i]? = some (some v)→σ[i]? = some (some v)):Inv X pins σ' H s:=
  ⟨I.ok,I.os,I.bare,I.base,let⟨m,hn,hl'⟩:=I.loc;⟨m,hn,fun i x v e1 e2 e3=>hl' i x v e1 (w i v e2) e3⟩,I.cell,I.free,I.freeC,I.pin,I.hok,hl.trans I.len⟩
theorem Inv.pins_of{pins':List (Addr × Obj)}(I:Inv X pins σ H s)(h:∀p∈pins',s.heap.get? p.1=some p.2∧H p.1=none∧p.1≠X.env.locals∧p.1 ∉ X.fs∧∀v,p.2.data≠.cell v):Inv X pins' σ H s:=
  ⟨I.ok,I.os,I.bare,I.base,I.loc,I.cell,I.free,I.freeC,fun p hp=>(List.mem_append.mp hp).elim (fun z=>I.pin p (List.mem_append_left _ z)) (h p),I.hok,I.len⟩
theorem nodup_ix{N:List Str}(hN:N.Nodup){i j:Nat}{x:Str}(a:N[i]? = some x)(b:N[j]? = some x):i=j:=by
  obtain⟨h1,e1⟩:=List.getElem?_eq_some_iff.mp a
  obtain⟨h2,e2⟩:=List.getElem?_eq_some_iff.mp b
  exact(List.getElem_inj hN).mp (e1.trans e2.symm)
theorem store_ok2{M:Model}{A:Around}{E:Value→Shared→Prop}{i:Nat}{x:Str}{v:V}{u:Value}{Q:Unit→Shared→Prop}(I:Inv X pins σ H s)(hN:X.N.Nodup)(hi:X.N[i]? = some x)(hx:Loc X.env.scope x)(r:RelV v u)
    (h:∀s',Inv X pins (σ.set i (some v)) H s'→(∃a,Heap.SameBut a s.heap s'.heap∧(a=X.env.locals∨X.env.cells.lookup x=some a))→Q () s') (hf:X.fn x=true∨X.env.scope.names.lookup x=some .local:=by first | exact .inl rfl | exact .inr rfl | assumption):wpAny M A (storeName X.env x u) Q E s:=by
  obtain⟨m,hn,hl⟩:=id I.loc
  have hcls:(X.env.scope.kind == .class || (X.env.scope.kind == .module && X.env.locals != X.env.globals))=false:=by rw[I.ok.kind];rfl
  have hiσ:i < σ.length:=by rw[I.len];exact(List.getElem?_eq_some_iff.mp hi).1
  have cne:=I.cne
  have tracked:∀{a:Addr} {h':Heap},(∃o,s.heap.get? a=some o∧H a=none)→Heap.SameBut a s.heap h'→HOk X.prog X.w H h':=fun{a h'} ha hs b ob e=>by
    obtain⟨_,_,hfree⟩:=ha
    refine(I.hok b ob e).stay (fun c w' hc q=>(hs.2 c ?_).trans q) (fun _ q=>q) fun _ _ q=>q
    rintro rfl
    rcases hc with rfl | hc
    · rw[hfree]at e;cases e
    · rw[hfree]at hc;cases hc
  rcases hx with hk | hk
  · refine wpAny_storeName_local hk hn (fun h' hn' hs=>?_) hcls
    obtain⟨oL,_,_,hoL,_⟩:=id hn
    refine h _ ⟨I.ok,I.os,I.bare,⟨fun b o e n hb hx=>?_,fun b o e n hb hx=>?_,I.base.free,fun b o e hx=>?_,I.base.tups,I.base.frzs,I.base.tbls⟩,⟨_,hn',fun j y v' e1 e2 e3=>?_⟩,fun y c e=>?_,I.free,I.freeC,fun p hp=>?_,tracked ⟨oL,hoL,I.free⟩ hs,by simpa using I.len⟩ ⟨_,hs,.inl rfl⟩
    · exact(hs.2 b (Nat.ne_of_lt (Nat.lt_of_lt_of_le (Heap.lt_size e) I.ok.above))).trans (I.base.keep b o e n hb hx)
    · obtain⟨sl,e1⟩:=I.base.slot b o e n hb hx
      exact⟨sl,(hs.2 b (Nat.ne_of_lt (Nat.lt_of_lt_of_le (Heap.lt_size e) I.ok.above))).trans e1⟩
    · obtain⟨o',e1⟩:=I.base.there b o e hx
      exact⟨o',(hs.2 b (Nat.ne_of_lt (Nat.lt_of_lt_of_le (Heap.lt_size e) I.ok.above))).trans e1⟩
    · by_cases hj:j=i
      · subst hj
        rw[hi]at e1;cases e1
        rw[List.getElem?_set_self hiσ]at e2
        cases e2
        exact⟨u,r,.inl ⟨hk,by simp⟩⟩
      · rw[List.getElem?_set_ne (Ne.symm hj)]at e2
        obtain⟨u',r',q⟩:=hl j y v' e1 e2 e3
        refine⟨u',r',?_⟩
        rcases q with ⟨k,e⟩ | ⟨k,c,e,z⟩
        · refine .inl ⟨k,?_⟩
          have:y≠x:=fun e=>hj (nodup_ix hN e1 (e▸hi))
          simp[this,e]
        · exact .inr ⟨k,c,e,z.sameBut hs (cne y c e)⟩
    · obtain⟨w',z⟩:=I.cell y c e
      exact⟨w',z.sameBut hs (cne y c e)⟩
    · obtain⟨e,n,ne,nf,d⟩:=I.pin p hp
      exact⟨(hs.2 p.1 ne).trans e,n,ne,nf,d⟩
  · have hfn:X.fn x=true:=by
      rcases hf with z | z
      · exact z
      · rw[z]at hk;cases hk
    obtain⟨c,hc⟩:=I.ok.has x (.inl hk)
    obtain⟨w',z⟩:=I.cell x c hc
    refine wpAny_storeName_cell I.ok.kind hk hc z (fun h' hc' hs=>?_)
    obtain⟨oc,hoc,hocd⟩:=id z
    refine h { s with heap:=h' } ⟨I.ok,I.os,I.bare,⟨fun b o e n hb hx=>?_,fun b o e n hb hx=>?_,I.base.free,fun b o e hx=>?_,I.base.tups,I.base.frzs,I.base.tbls⟩,⟨m,hn.sameBut hs (Ne.symm (cne x c hc)),fun j y v' e1 e2 e3=>?_⟩,fun y c' e=>?_,I.free,I.freeC,fun p hp=>?_,tracked ⟨oc,hoc,I.freeC x c hc⟩ hs,by simpa using I.len⟩ ⟨c,hs,.inr hc⟩
    · exact(hs.2 b (Nat.ne_of_lt (Nat.lt_of_lt_of_le (Heap.lt_size e) (I.ok.cab x c hfn hc)))).trans (I.base.keep b o e n hb hx)
    · obtain⟨sl,e1⟩:=I.base.slot b o e n hb hx
      exact⟨sl,(hs.2 b (Nat.ne_of_lt (Nat.lt_of_lt_of_le (Heap.lt_size e) (I.ok.cab x c hfn hc)))).trans e1⟩
    · obtain⟨o',e1⟩:=I.base.there b o e hx
      exact⟨o',(hs.2 b (Nat.ne_of_lt (Nat.lt_of_lt_of_le (Heap.lt_size e) (I.ok.cab x c hfn hc)))).trans e1⟩
    · by_cases hj:j=i
      · subst hj
        rw[hi]at e1;cases e1
        rw[List.getElem?_set_self hiσ]at e2
        cases e2
        exact⟨u,r,.inr ⟨.inl hk,c,hc,hc'⟩⟩
      · rw[List.getElem?_set_ne (Ne.symm hj)]at e2
        obtain⟨u',r',q⟩:=hl j y v' e1 e2 e3
        refine⟨u',r',?_⟩
        rcases q with q | ⟨k,c',e,z'⟩
        · exact .inl q
        · refine .inr ⟨k,c',e,z'.sameBut hs ?_⟩
          rintro rfl
          exact hj (nodup_ix hN e1 (I.ok.inj _ _ _ e hc▸hi))
    · by_cases hcc:c'=c
      · subst hcc;exact⟨_,hc'⟩
      · obtain⟨w2,z2⟩:=I.cell y c' e
        exact⟨w2,z2.sameBut hs hcc⟩
    · obtain⟨e,n,ne,nf,d⟩:=I.pin p hp
      refine⟨(hs.2 p.1 ?_).trans e,n,ne,nf,d⟩
      intro q
      rw[q,hoc]at e
      have q':oc=p.2:=Option.some.inj e
      exact d w' (by rw[← q'];exact hocd)
theorem store_ok{M:Model}{A:Around}{E:Value→Shared→Prop}{i:Nat}{x:Str}{v:V}{u:Value}{Q:Unit→Shared→Prop}(I:Inv X pins σ H s)(hN:X.N.Nodup)(hi:X.N[i]? = some x)(hx:Loc X.env.scope x)(r:RelV v u)
    (h:∀s',Inv X pins (σ.set i (some v)) H s'→Q () s') (hf:X.fn x=true∨X.env.scope.names.lookup x=some .local:=by first | exact .inl rfl | exact .inr rfl | assumption):wpAny M A (storeName X.env x u) Q E s:=
  store_ok2 I hN hi hx r (fun s' I' _=>h s' I') hf
theorem Inv.call'{s':Shared}{ch:List Addr}(I:Inv X pins σ H s)(ho:s'.os=s.os)(u:Un (frs X.stack) ch H H' s.heap s'.heap)(hok:HOk X.prog X.w H' s'.heap)(hg:AllBare s'.gens)
    (hch:∀b∈ch,(b∈X.ex∨X.s₀.heap.objs.size≤b)∧b≠X.env.locals∧(∀x c,X.env.cells.lookup x=some c→c≠b)∧∀p∈X.pn++pins,p.1≠b):Inv X pins σ H' s':=by
  obtain⟨h',g',d',t',o'⟩:=s'
  have e:o'=s.os:=ho
  subst e
  exact I.call (g':=g') (t':=t') (d':=d') u hok hg hch
end
abbrev XK:=Value→Option Addr→Hp→Prop
abbrev St:=List (Option V)
abbrev VK:=V→Hp→Prop
abbrev TE:=St→Hp→VK→Prop
abbrev TT:=St→Hp→(Bool→Hp→Prop)→Prop
abbrev TA:=St→Hp→(List V→Hp→Prop)→Prop
structure Ends where
  nx:St→Hp→Prop
  rt:VK
  bk:St→Hp→Prop:=fun _ _=>False
  ct:St→Hp→Prop:=fun _ _=>False
abbrev TS:=Ends→St→Hp→Prop
def EP(X:Cx)(pins:List (Addr × Obj))(σ:St)(Q:VK)(u:Value)(s':Shared):Prop:=∃v H',Inv X pins σ H' s'∧RelV v u∧Q v H'
def TP(X:Cx)(pins:List (Addr × Obj))(σ:St)(Q:Bool→Hp→Prop)(b:Bool)(s':Shared):Prop:=∃H',Inv X pins σ H' s'∧Q b H'
def AP(X:Cx)(pins:List (Addr × Obj))(σ:St)(Q:List V→Hp→Prop)(us:List Value)(s':Shared):Prop:=∃vs H',Inv X pins σ H' s'∧Vals vs us∧Q vs H'
def SP(X:Cx)(pins:List (Addr × Obj))(D:Ends)(f:Flow)(s':Shared):Prop:=
  match f with
  | .next=>∃σ' H',Inv X pins σ' H' s'∧D.nx σ' H'
  | .brk=>∃σ' H',Inv X pins σ' H' s'∧D.bk σ' H'
  | .cont=>∃σ' H',Inv X pins σ' H' s'∧D.ct σ' H'
  | .ret u=>∃v σ' H',Inv X pins σ' H' s'∧RelV v u∧D.rt v H'
def PE(X:Cx)(e:Expr)(t:TE):Prop:=
  ∀(pins:List (Addr × Obj)) (s:Shared) (σ:St) (H:Hp) (Q:VK),Inv X pins σ H s→t σ H Q→wpAny (model X.prog X.w) X.A (eval e X.env) (EP X pins σ Q) X.xe s
def PT(X:Cx)(e:Expr)(t:TT):Prop:=
  ∀(pins:List (Addr × Obj)) (s:Shared) (σ:St) (H:Hp) (Q:Bool→Hp→Prop),Inv X pins σ H s→t σ H Q→wpAny (model X.prog X.w) X.A (isTrue e X.env (eval e X.env)) (TP X pins σ Q) X.xe s
def PW(X:Cx)(e:Expr)(t:TT):Prop:=
  ∀(whole:Sem Value) (pins:List (Addr × Obj)) (s:Shared) (σ:St) (H:Hp) (Q:Bool→Hp→Prop),Inv X pins σ H s→t σ H Q→wpAny (model X.prog X.w) X.A (isTrue e X.env whole) (TP X pins σ Q) X.xe s
theorem PW.pt{X:Cx}{e:Expr}{t:TT}(h:PW X e t):PT X e t:=h _
def PA(X:Cx)(es:List Expr)(t:TA):Prop:=
  ∀(pos:Pos) (pins:List (Addr × Obj)) (s:Shared) (σ:St) (H:Hp) (Q:List V→Hp→Prop),Inv X pins σ H s→t σ H Q→wpAny (model X.prog X.w) X.A (spliced (backTo pos (starEach es X.env))) (AP X pins σ Q) X.xe s
def PS(X:Cx)(st:Stmt)(t:TS):Prop:=
  ∀(pins:List (Addr × Obj)) (s:Shared) (σ:St) (H:Hp) (D:Ends),Inv X pins σ H s→t D σ H→wpAny (model X.prog X.w) X.A (exec st X.env) (SP X pins D) X.xe s
def PSs(X:Cx)(st:List Stmt)(t:TS):Prop:=
  ∀(pins:List (Addr × Obj)) (s:Shared) (σ:St) (H:Hp) (D:Ends),Inv X pins σ H s→t D σ H→wpAny (model X.prog X.w) X.A (execs st X.env) (SP X pins D) X.xe s
theorem thn{α:Type}{t:Sem α}{Q Q':α→Shared→Prop}{M:Model}{A:Around}{E:Value→Shared→Prop}{s:Shared}(h:wpAny M A t Q E s)(hQ:∀a s,Q a s→Q' a s):wpAny M A t Q' E s:=wpAny_mono h hQ fun _ _ x=>x
end L2
namespace L2
open PySem PySem.Spec PyProof.Rows
section
variable{X:Cx}
def tVar(i:Nat):TE:=fun σ H Q=>∃v,σ[i]? = some (some v)∧Q v H
def tC(v:V):TE:=fun _ H Q=>Q v H
theorem pe_var{i:Nat}{x:Str}{pos:Pos}(hN:X.N[i]? = some x)(hv:Vis X.env.scope x)(hd:(x == ("__debug__":Str))=false:=by decide)(hcd:(x == ("__classdict__":Str))=false:=by decide):PE X (.Name x pos) (tVar i):=by
  intro pins s σ H Q I h
  obtain⟨v,e,h⟩:=h
  obtain⟨m,hn,hl⟩:=I.loc
  obtain⟨u,r,l⟩:=hl i x v hN e hv
  have fin:EP X pins σ Q u s:=⟨v,H,I,r,h⟩
  rcases l with ⟨hk,hm⟩ | ⟨hk,c,hc,hcell⟩
  · exact wpAny_Name (wpAny_loadName_local I.ok.kind hk hn hm fin) hd
  · rcases hk with hk | hk
    · exact wpAny_Name (wpAny_loadName_cell I.ok.kind hk hc hcell fin) hd
    · exact wpAny_Name (wpAny_loadName_free I.ok.kind hk hc hcell fin hcd) hd
theorem pe_int{i j pos}:PE X (.Constant (.int i) j pos) (tC (.int i)):=fun _ _ _ H _ I h=>wpAny_Constant_int ⟨.int i,H,I.tok _,⟨_,rfl⟩,h⟩
theorem pe_bl{b j pos}:PE X (.Constant (.bool b) j pos) (tC (.bl b)):=fun _ _ _ H _ I h=>Constant_bool ⟨.bl b,H,I,rfl,h⟩
theorem pe_non{j pos}:PE X (.Constant .none j pos) (tC .non):=fun _ _ _ H _ I h=>Constant_none ⟨.non,H,I,rfl,h⟩
theorem pe_str{x j pos}:PE X (.Constant (.str x) j pos) (tC (.str x)):=fun _ _ _ H _ I h=>Calls.Constant_str ⟨.str x,H,I.tok _,⟨_,rfl⟩,h⟩
def Gl(X:Cx)(x:Str):Prop:=X.env.kindOf x=some .globalImplicit
theorem ld_glob{E:Value→Shared→Prop}{pins:List (Addr × Obj)}{s:Shared}{σ:St}{H:Hp}{x:Str}{u:Value}{pos:Pos}{Q:Value→Shared→Prop}(I:Inv X pins σ H s)(hg:Gl X x)(hm:X.mg x=some u)(h:Q u s)
    (hd:(x == ("__debug__":Str))=false:=by decide):wpAny (model X.prog X.w) X.A (eval (.Name x pos) X.env) Q E s:=
  Calls.Name_function_global I.ok.kind hg (Calls.loadGlobal_global (by rw[I.ok.glob];exact I.mod.glob.keeps I.bk) hm h) hd
theorem ld_blt{E:Value→Shared→Prop}{pins:List (Addr × Obj)}{s:Shared}{σ:St}{H:Hp}{x:Str}{u:Value}{pos:Pos}{Q:Value→Shared→Prop}(I:Inv X pins σ H s)(hg:Gl X x)(hm:X.mg x=none)(hv:bootBuiltins x=some u)(h:Q u s)
    (hn:x≠"__name__":=by decide) (hd:(x == ("__debug__":Str))=false:=by decide):wpAny (model X.prog X.w) X.A (eval (.Name x pos) X.env) Q E s:=by
  obtain⟨mb,h1,h2⟩:=I.mod.blt
  exact Calls.Name_function_global I.ok.kind hg (Calls.loadGlobal_builtin (by rw[I.ok.glob];exact I.mod.glob.keeps I.bk) hm (by rw[I.ok.blt];exact h1.keeps I.bk) ((h2 x hn).trans hv) h) hd
theorem pe_bltn{x:Str}{v:V}{u:Value}{pos:Pos}(hg:Gl X x)(hm:X.mg x=none)(hv:bootBuiltins x=some u)(r:RelV v u)(hn:x≠"__name__":=by decide)(hd:(x == ("__debug__":Str))=false:=by decide):PE X (.Name x pos) (tC v):=
  fun _ _ _ H _ I h=>ld_blt I hg hm hv ⟨v,H,I,r,h⟩ hn hd
variable{a b:Expr}{ta tb:TE}{pos:Pos}
def PC(X:Cx)(op:CmpOp)(a b:Expr)(t:TE):Prop:=
  ∀(pins:List (Addr × Obj)) (s:Shared) (σ:St) (H:Hp) (Q:VK),Inv X pins σ H s→t σ H Q→
    wpAny (model X.prog X.w) X.A (eval a X.env) (fun v s₁=>wpAny (model X.prog X.w) X.A (eval b X.env) (fun u s₂=>wpAny (model X.prog X.w) X.A (compareOp op v u) (EP X pins σ Q) X.xe s₂) X.xe s₁) X.xe s
theorem nobehind(b:Expr){op:CmpOp}(h:op≠.In)(h2:op≠.NotIn):behindInMarks op b=false:=by
  have e1:(op == CmpOp.In)=false:=by cases op <;>first | rfl | exact absurd rfl h
  have e2:(op == CmpOp.NotIn)=false:=by cases op <;>first | rfl | exact absurd rfl h2
  cases b <;>simp[behindInMarks,e1,e2]
def tB(t:TE):TT:=fun σ H Q=>t σ H fun x H1=>∃c,x=.bl c∧Q c H1
theorem pt_cmp{op:CmpOp}{t:TE}(h:PC X op a b t)(h1:behindInMarks op b=false:=by first | exact nobehind _ (by decide) (by decide) | rfl):PT X (.Compare a [op] [b] pos) (tB t):=by
  intro pins s σ H Q I hw
  refine wpAny_isTrue_Compare1 (thn (h pins s σ H _ I hw) fun v s1 h1=>thn h1 fun u s2 h2=>thn h2 fun c s3 ⟨x,H1,I1,r1,q1⟩=>?_) h1
  obtain⟨d,rfl,q⟩:=q1
  cases r1
  exact wpAny_truthy_bool ⟨H1,I1,q⟩
theorem pt_val{e:Expr}{t:TE}(h:PE X e t)(he:∀whole,isTrue e X.env whole=(do let v ← whole;standAt e.pos;holding [v] (truthy v)):=by intro _;rfl):PT X e (tB t):=by
  intro pins s σ H Q I hw
  refine isTrue_plain (thn (h pins s σ H _ I hw) fun v s1 ⟨x,H1,I1,r1,q1⟩=>?_) (he _)
  obtain⟨d,rfl,q⟩:=q1
  cases r1
  exact wpAny_truthy_bool ⟨H1,I1,q⟩
variable{tA tB':TT}{rest:List Expr}
def tAnd(t u:TT):TT:=fun σ H Q=>t σ H fun c H1=>if c=true then u σ H1 Q else Q false H1
def tOr(t u:TT):TT:=fun σ H Q=>t σ H fun c H1=>if c=true then Q true H1 else u σ H1 Q
def tNot(t:TT):TT:=fun σ H Q=>t σ H fun c H1=>Q (!c) H1
theorem pw_and1(ha:PT X a tA):PW X (.BoolOp .And [a] pos) tA:=by
  intro wh pins s σ H Q I h
  refine isTrue_and (thn (ha pins s σ H Q I h) fun c s1 e=>?_)
  cases c with
  | true=>exact isTrue_and_nil e
  | false=>exact e
theorem pw_or1(ha:PT X a tA):PW X (.BoolOp .Or [a] pos) tA:=by
  intro wh pins s σ H Q I h
  refine isTrue_or (thn (ha pins s σ H Q I h) fun c s1 e=>?_)
  cases c with
  | false=>exact isTrue_or_nil e
  | true=>exact e
theorem pw_and(ha:PT X a tA)(hb:PW X (.BoolOp .And (b::rest) pos) tB'):PW X (.BoolOp .And (a::b::rest) pos) (tAnd tA tB'):=by
  intro wh pins s σ H Q I h
  refine isTrue_and (thn (ha pins s σ H _ I h) fun c s1 ⟨H1,I1,q1⟩=>?_)
  cases c with
  | true=>exact hb wh pins s1 σ H1 Q I1 q1
  | false=>exact⟨H1,I1,q1⟩
theorem pw_or(ha:PT X a tA)(hb:PW X (.BoolOp .Or (b::rest) pos) tB'):PW X (.BoolOp .Or (a::b::rest) pos) (tOr tA tB'):=by
  intro wh pins s σ H Q I h
  refine isTrue_or (thn (ha pins s σ H _ I h) fun c s1 ⟨H1,I1,q1⟩=>?_)
  cases c with
  | true=>exact⟨H1,I1,q1⟩
  | false=>exact hb wh pins s1 σ H1 Q I1 q1
theorem pt_not(ha:PT X a tA):PT X (.UnaryOp .Not a pos) (tNot tA):=by
  intro pins s σ H Q I h
  exact isTrue_not (ha pins s σ H (fun c H1=>Q (!c) H1) I h)
def tAndV(ta tb:TE):TE:=fun σ H Q=>ta σ H fun x H1=>∃c,x=.bl c∧if c=true then tb σ H1 Q else Q (.bl false) H1
def tOrV(ta tb:TE):TE:=fun σ H Q=>ta σ H fun x H1=>∃c,x=.bl c∧if c=true then Q (.bl true) H1 else tb σ H1 Q
theorem pe_one{op}{t:TE}(h:PE X a t):PE X (.BoolOp op [a] pos) t:=fun pins s σ H Q I hw=>BoolOp_one (h pins s σ H Q I hw)
theorem pe_and(ha:PE X a ta)(hb:PE X (.BoolOp .And (b::rest) pos) tb):PE X (.BoolOp .And (a::b::rest) pos) (tAndV ta tb):=by
  intro pins s σ H Q I h
  refine BoolOp_and (thn (ha pins s σ H _ I h) fun v s1 ⟨x,H1,I1,r1,q1⟩=>?_)
  obtain⟨c,rfl,q1⟩:=q1
  cases r1
  refine wpAny_truthy_bool ?_
  cases c with
  | true=>exact hb pins s1 σ H1 Q I1 q1
  | false=>exact⟨.bl false,H1,I1,rfl,q1⟩
theorem pe_or(ha:PE X a ta)(hb:PE X (.BoolOp .Or (b::rest) pos) tb):PE X (.BoolOp .Or (a::b::rest) pos) (tOrV ta tb):=by
  intro pins s σ H Q I h
  refine BoolOp_or (thn (ha pins s σ H _ I h) fun v s1 ⟨x,H1,I1,r1,q1⟩=>?_)
  obtain⟨c,rfl,q1⟩:=q1
  cases r1
  refine wpAny_truthy_bool ?_
  cases c with
  | false=>exact hb pins s1 σ H1 Q I1 q1
  | true=>exact⟨.bl true,H1,I1,rfl,q1⟩
def tIf(t:TT)(ta tb:TE):TE:=fun σ H Q=>t σ H fun c H1=>if c=true then ta σ H1 Q else tb σ H1 Q
theorem pe_ifExp{c:Expr}(hc:PT X c tA)(ha:PE X a ta)(hb:PE X b tb):PE X (.IfExp c a b pos) (tIf tA ta tb):=by
  intro pins s σ H Q I h
  refine wpAny_IfExp (thn (hc pins s σ H _ I h) fun d s1 ⟨H1,I1,q1⟩=>?_)
  cases d with
  | true=>exact ha pins s1 σ H1 Q I1 q1
  | false=>exact hb pins s1 σ H1 Q I1 q1
end
end L2
namespace L2
open PySem PySem.Spec PyProof.Rows
def SqL(K:PySem.W.Frag)(H:Hp)(a:Addr)(xs:List V):Prop:=
  Rd H a (.lst xs)∨
    ∃(o:Obj) (its:Array Value) (n:Nat),K.lookup a=some o∧o.cls=.type "list"∧o.dict=none∧o.data=.seq its n∧its.size≤sizeLine∧Vals xs its.toList
def SqT(K:PySem.W.Frag)(H:Hp)(a:Addr)(xs:List V):Prop:=
  Rd H a (.tup xs)∨
    ∃(o:Obj) (its:Array Value) (n:Nat),K.lookup a=some o∧o.cls=.type "tuple"∧o.data=.seq its n∧its.size≤sizeLine∧Vals xs its.toList
def absV:Value→Option V
  | .none=>some .non
  | .bool b=>some (.bl b)
  | .int i _=>some (.int i)
  | .str x _=>some (.str x)
  | .bytes b _=>some (.byt b)
  | .float b _=>some (.flt b)
  | .ref a=>some (.ref a)
  | .type n=>some (.ty n)
  | _=>none
theorem RelV.abs{x:V}{u:Value}(r:RelV x u):absV u=some x:=by
  cases x with
  | non=>cases r;rfl
  | bl _=>cases r;rfl
  | int _=>obtain⟨t,rfl⟩:=r;rfl
  | str _=>obtain⟨t,rfl⟩:=r;rfl
  | byt _=>obtain⟨t,rfl⟩:=r;rfl
  | flt _=>obtain⟨t,rfl⟩:=r;rfl
  | ref _=>cases r;rfl
  | ty _=>cases r;rfl
theorem RelV.inj{x y:V}{u:Value}(r:RelV x u)(q:RelV y u):x=y:=Option.some.inj (r.abs.symm.trans q.abs)
theorem Vals.inj:∀{xs ys:List V} {us:List Value},Vals xs us→Vals ys us→xs=ys
  | _,_,_,.nil,.nil=>rfl
  | _,_,_,.cons r t,.cons r' t'=>by rw[r.inj r',Vals.inj t t']
section
variable{X:Cx}{pins:List (Addr × Obj)}{σ:St}{H:Hp}{s:Shared}{a:Addr}{xs ys:List V}
theorem SqL.of{K:PySem.W.Frag}(h:H a=some (.lst xs)):SqL K H a xs:=.inl (.inl h)
theorem SqT.of{K:PySem.W.Frag}(h:H a=some (.tup xs)):SqT K H a xs:=.inl (.inl h)
theorem Inv.list(I:Inv X pins σ H s)(h:SqL X.K H a xs):∃its:List Value,Vals xs its∧PlainL s.heap a its.toArray∧xs.length≤sizeLine:=by
  rcases h with h | ⟨o,its,n,hk,hc,hd,hs,hz,r⟩
  · obtain⟨z,its,n,r,e⟩:=h.ok I.hok
    exact⟨its,r,⟨_,n,e,rfl,rfl,rfl⟩,z⟩
  · refine⟨its.toList,r,⟨o,n,I.kIn a o hk,hc,hd,by simpa using hs⟩,?_⟩
    have e:=r.length
    simp only[Array.length_toList]at e
    omega
theorem Inv.tuple(I:Inv X pins σ H s)(h:SqT X.K H a xs):∃its:List Value,Vals xs its∧IsTup s.heap a its.toArray∧xs.length≤sizeLine:=by
  rcases h with h | ⟨o,its,n,hk,hc,hs,hz,r⟩
  · obtain⟨z,its,r,p,_⟩:=h.ok I.hok
    exact⟨its,r,p,z⟩
  · refine⟨its.toList,r,⟨o,I.kIn a o hk,hc,n,by simpa using hs⟩,?_⟩
    have e:=r.length
    simp only[Array.length_toList]at e
    omega
theorem Inv.list_inj(I:Inv X pins σ H s)(h:SqL X.K H a xs)(h':SqL X.K H a ys):xs=ys:=by
  obtain⟨its,r,⟨o,n,e,_,_,d⟩,_⟩:=I.list h
  obtain⟨its',r',⟨o',n',e',_,_,d'⟩,_⟩:=I.list h'
  rw[e]at e';cases e'
  rw[d]at d'
  injection d' with d1 _
  have:its=its':=by simpa using congrArg Array.toList d1
  subst this
  exact r.inj r'
theorem Inv.tuple_inj(I:Inv X pins σ H s)(h:SqT X.K H a xs)(h':SqT X.K H a ys):xs=ys:=by
  obtain⟨its,r,⟨o,e,_,n,d⟩,_⟩:=I.tuple h
  obtain⟨its',r',⟨o',e',_,n',d'⟩,_⟩:=I.tuple h'
  rw[e]at e';cases e'
  rw[d]at d'
  injection d' with d1 _
  have:its=its':=by simpa using congrArg Array.toList d1
  subst this
  exact r.inj r'
end
abbrev Cx.wish(X:Cx)(E:Value→Shared→Prop):Cx:={ X with xe:=E }
abbrev Cx.nox(X:Cx):Cx:=X.wish fun _ _=>False
theorem Cx.Ok.wish{X:Cx}(ok:X.Ok)(E:Value→Shared→Prop):(X.wish E).Ok:=
  ⟨ok.mod,ok.kind,ok.glob,ok.blt,ok.above,ok.inj,ok.has,ok.cab,ok.hd,ok.frames,ok.stk,ok.exf,ok.bs,ok.bsz,ok.noex,ok.exfs,ok.funs,ok.frf⟩
theorem Cx.Ok.unwish{X:Cx}{E:Value→Shared→Prop}(ok:(X.wish E).Ok):X.Ok:=
  ⟨ok.mod,ok.kind,ok.glob,ok.blt,ok.above,ok.inj,ok.has,ok.cab,ok.hd,ok.frames,ok.stk,ok.exf,ok.bs,ok.bsz,ok.noex,ok.exfs,ok.funs,ok.frf⟩
section
variable{X:Cx}{pins:List (Addr × Obj)}{σ:St}{H:Hp}{s:Shared}{E:Value→Shared→Prop}
theorem Inv.wish(I:Inv X pins σ H s)(E:Value→Shared→Prop):Inv (X.wish E) pins σ H s:=⟨I.ok.wish E,I.os,I.bare,I.base,I.loc,I.cell,I.free,I.freeC,I.pin,I.hok,I.len⟩
theorem Inv.unwish(I:Inv (X.wish E) pins σ H s):Inv X pins σ H s:=⟨I.ok.unwish,I.os,I.bare,I.base,I.loc,I.cell,I.free,I.freeC,I.pin,I.hok,I.len⟩
theorem SP.unwish{D:Ends}{f:Flow}{s':Shared}(h:SP (X.wish E) pins D f s'):SP X pins D f s':=by
  cases f with
  | next=>obtain⟨σ',H',I,q⟩:=h;exact⟨σ',H',I.unwish,q⟩
  | brk=>obtain⟨σ',H',I,q⟩:=h;exact⟨σ',H',I.unwish,q⟩
  | cont=>obtain⟨σ',H',I,q⟩:=h;exact⟨σ',H',I.unwish,q⟩
  | ret u=>obtain⟨v,σ',H',I,r,q⟩:=h;exact⟨v,σ',H',I.unwish,r,q⟩
theorem PE.nox{e:Expr}{t:TE}(h:PE X.nox e t):PE X e t:=fun pins s σ H Q I hw=>
  wpAny_mono (h pins s σ H Q (I.wish _) hw) (fun _ _ ⟨v,H',I',r,q⟩=>⟨v,H',I'.unwish,r,q⟩) fun _ _ z=>False.elim z
theorem PT.nox{e:Expr}{t:TT}(h:PT X.nox e t):PT X e t:=fun pins s σ H Q I hw=>
  wpAny_mono (h pins s σ H Q (I.wish _) hw) (fun _ _ ⟨H',I',q⟩=>⟨H',I'.unwish,q⟩) fun _ _ z=>False.elim z
theorem PSs.nox{st:List Stmt}{t:TS}(h:PSs X.nox st t):PSs X st t:=fun pins s σ H D I hw=>
  wpAny_mono (h pins s σ H D (I.wish _) hw) (fun _ _ q=>q.unwish) fun _ _ z=>False.elim z
end
section
variable{X:Cx}{st:Stmt}{rest:List Stmt}{t u:TS}{e:Expr}{te:TE}{pos:Pos}
def tNext:TS:=fun D σ H=>D.nx σ H
def tSeq(t u:TS):TS:=fun D σ H=>t { D with nx:=u D } σ H
theorem pss_nil:PSs X [] tNext:=fun _ _ σ H _ I h=>wpAny_execs_nil ⟨σ,H,I,h⟩
theorem pss_cons(h1:PS X st t)(h2:PSs X rest u):PSs X (st::rest) (tSeq t u):=by
  intro pins s σ H D I h
  refine wpAny_execs_cons (thn (h1 pins s σ H { D with nx:=u D } I h) fun f s1 q=>?_)
  cases f with
  | next=>
    obtain⟨σ',H',I',q⟩:=q
    exact h2 pins s1 σ' H' D I' q
  | ret v=>exact q
  | brk=>exact q
  | cont=>exact q
theorem pss_one(h1:PS X st t):PSs X [st] t:=by
  intro pins s σ H D I h
  refine wpAny_execs_cons (thn (h1 pins s σ H D I h) fun f s1 q=>?_)
  cases f with
  | next=>exact wpAny_execs_nil q
  | ret v=>exact q
  | brk=>exact q
  | cont=>exact q
theorem Inv.quiet{pins:List (Addr × Obj)}{σ:St}{H:Hp}{s:Shared}(I:Inv X pins σ H s):interactive X.env=false:=by simp[interactive,I.ok.kind]
def tDrop(te:TE):TS:=fun D σ H=>te σ H fun _ H1=>D.nx σ H1
theorem ps_expr(he:PE X e te)(hs:swapsWith e none pos.line X.env=pure false:=by rfl):PS X (.Expr e pos) (tDrop te):=by
  intro pins s σ H D I h
  exact wpAny_Expr_any (thn (he pins s σ H _ I h) fun v s1 ⟨x,H1,I1,r1,q1⟩=>⟨σ,H1,I1,q1⟩) I.quiet hs
def tRet(te:TE):TS:=fun D σ H=>te σ H D.rt
theorem ps_ret(he:PE X e te):PS X (.Return (some e) pos) (tRet te):=by
  intro pins s σ H D I h
  exact wpAny_Return_some (thn (he pins s σ H _ I h) fun v s1 ⟨x,H1,I1,r1,q1⟩=>⟨x,σ,H1,I1,r1,q1⟩)
def tIfS(c:TT)(t u:TS):TS:=fun D σ H=>c σ H fun b H1=>if b=true then t D σ H1 else u D σ H1
theorem ps_if{c:Expr}{a b:List Stmt}{tc:TT}(hc:PT X c tc)(ha:PSs X a t)(hb:PSs X b u):PS X (.If c a b pos) (tIfS tc t u):=by
  intro pins s σ H D I h
  refine wpAny_If (thn (hc pins s σ H _ I h) fun d s1 ⟨H1,I1,q1⟩=>?_)
  cases d with
  | true=>exact ha pins s1 σ H1 D I1 q1
  | false=>exact hb pins s1 σ H1 D I1 q1
def tNever:TS:=fun _ _ _=>False
theorem ps_never:PS X st tNever:=fun _ _ _ _ _ _ h=>h.elim
end
abbrev TG:=V→St→Hp→(St→Hp→Prop)→Prop
abbrev TGs:=List V→St→Hp→(St→Hp→Prop)→Prop
def PG(X:Cx)(target:Expr)(t:TG):Prop:=
  ∀(pins:List (Addr × Obj)) (s:Shared) (σ:St) (H:Hp) (v:V) (u:Value) (Q:St→Hp→Prop),Inv X pins σ H s→RelV v u→t v σ H Q→
    wpAny (model X.prog X.w) X.A (assign target X.env u) (fun _ s'=>∃σ' H',Inv X pins σ' H' s'∧Q σ' H') X.xe s
def PGs(X:Cx)(ts:List Expr)(t:TGs):Prop:=
  ∀(pins:List (Addr × Obj)) (s:Shared) (σ:St) (H:Hp) (vs:List V) (us:List Value) (Q:St→Hp→Prop),Inv X pins σ H s→Vals vs us→t vs σ H Q→
    wpAny (model X.prog X.w) X.A (assignInOrder ((assignEach ts X.env).map (·.2)) us) (fun _ s'=>∃σ' H',Inv X pins σ' H' s'∧Q σ' H') X.xe s
abbrev TSet:=V→V→V→Hp→(Hp→Prop)→Prop
def PSet(X:Cx)(t:TSet):Prop:=
  ∀(pins:List (Addr × Obj)) (s:Shared) (σ:St) (H:Hp) (o i v:V) (ov iv u:Value) (Q:Hp→Prop),Inv X pins σ H s→RelV o ov→RelV i iv→RelV v u→t o i v H Q→
    wpAny (model X.prog X.w) X.A (setItem ov iv u) (fun _ s'=>∃H',Inv X pins σ H' s'∧Q H') X.xe s
abbrev TIp:=V→V→Hp→VK→Prop
def PIp(X:Cx)(op:Operator)(t:TIp):Prop:=
  ∀(pins:List (Addr × Obj)) (s:Shared) (σ:St) (H:Hp) (x y:V) (v u:Value) (Q:VK),Inv X pins σ H s→RelV x v→RelV y u→t x y H Q→
    wpAny (model X.prog X.w) X.A (inplaceOp op v u) (EP X pins σ Q) X.xe s
section
variable{X:Cx}{pos:Pos}
def gName(i:Nat):TG:=fun v σ H Q=>Q (σ.set i (some v)) H
theorem pg_name{i:Nat}{x:Str}(hN:X.N.Nodup)(hi:X.N[i]? = some x)(hx:Loc X.env.scope x)(hf:X.fn x=true∨X.env.scope.names.lookup x=some .local:=by first | exact .inl rfl | exact .inr rfl | assumption):PG X (.Name x pos) (gName i):=by
  intro pins s σ H v u Q I r h
  exact wpAny_assign_Name (store_ok I hN hi hx r (fun s' I'=>⟨_,H,I',h⟩) hf)
def gNil:TGs:=fun vs σ H Q=>vs=[]∧Q σ H
def gCons(t:TG)(u:TGs):TGs:=fun vs σ H Q=>∃v r,vs=v::r∧t v σ H fun σ' H'=>u r σ' H' Q
theorem pgs_nil:PGs X [] gNil:=by
  intro pins s σ H vs us Q I r h
  obtain⟨e,h⟩:=h
  subst e
  cases r
  exact assignInOrder_nil ⟨σ,H,I,h⟩
theorem pgs_cons{e:Expr}{es:List Expr}{t:TG}{u:TGs}(h1:PG X e t)(h2:PGs X es u)
    (hs:(assignEach (e::es) X.env).map (·.2)=assign e X.env::(assignEach es X.env).map (·.2):=by rfl):PGs X (e::es) (gCons t u):=by
  intro pins s σ H vs us Q I r h
  obtain⟨v,vr,e1,h⟩:=h
  subst e1
  cases r with
  | cons r rr=>
    rw[hs]
    refine assignInOrder_cons (thn (h1 pins s σ H _ _ _ I r h) fun _ s1 ⟨σ1,H1,I1,q1⟩=>?_)
    exact h2 pins s1 σ1 H1 _ _ Q I1 rr q1
def gTup(K:PySem.W.Frag)(n:Nat)(t:TGs):TG:=fun v σ H Q=>∃a xs,v=.ref a∧SqT K H a xs∧xs.length=n∧t xs σ H Q
theorem pg_tup{es:List Expr}{k:Nat}{t:TGs}{n:Nat}(hc:X.calm=true)(h:PGs X es t)
    (hn:(assignEach es X.env).length=n:=by rfl) (hst:(assignEach es X.env).findIdx? (·.1)=none:=by rfl):PG X (.Tuple es k pos) (gTup X.K n t):=by
  intro pins s σ H v u Q I r hw
  obtain⟨a,xs,e1,hq,hl,hw⟩:=hw
  subst e1
  cases r
  obtain⟨its,rv,ht,hz⟩:=I.tuple hq
  refine assign_Tuple_tuple (I.ok.hd hc) ht (by simp[hn,← hl,rv.length]) hst fun h' hx=>?_
  have I1:Inv X pins σ H { s with heap:=h' }:=I.kept (t':=s.toks) fun b o e=>hx b o (Nat.ne_of_lt (Heap.lt_size e)) e
  exact h pins _ σ H xs _ Q I1 (by simpa using rv) hw
def gSub(to ti:TE)(t:TSet):TG:=fun v σ H Q=>to σ H fun o H1=>ti σ H1 fun i H2=>t o i v H2 fun H3=>Q σ H3
theorem pg_sub{o i:Expr}{to ti:TE}{t:TSet}(ho:PE X o to)(hi:PE X i ti)(hs:PSet X t)
    (ha:∀v,assign (.Subscript o i pos) X.env v=(do
      let ov ← holding [v] (eval o X.env)
      let iv ← holding [v,ov] (eval i X.env)
      standAt pos
      holding [v,ov,iv] (setItem ov iv v)
      release [v,ov,iv] []):=by intro _;rfl):PG X (.Subscript o i pos) (gSub to ti t):=by
  intro pins s σ H v u Q I r h
  rw[ha]
  refine wpAny_bind (wpAny_holding (thn (ho pins s σ H _ I h) fun ov s1 ⟨x,H1,I1,r1,q1⟩=>?_))
  refine wpAny_bind (wpAny_holding (thn (hi pins s1 σ H1 _ I1 q1) fun iv s2 ⟨y,H2,I2,r2,q2⟩=>?_))
  refine wpAny_bind (wpAny_standAt (wpAny_bind (wpAny_holding (thn (hs pins s2 σ H2 x y v ov iv u _ I2 r1 r2 r q2) fun _ s3 ⟨H3,I3,q3⟩=>?_))))
  exact wpAny_release ⟨σ,H3,I3,q3⟩
def tAsg(te:TE)(g:TG):TS:=fun D σ H=>te σ H fun x H1=>g x σ H1 D.nx
theorem ps_asg{tg e:Expr}{te:TE}{g:TG}(he:PE X e te)(hg:PG X tg g)(hs:swapsWithSole [tg] e pos.line X.env=pure false:=by rfl)(hw:swappedStores [tg] e X.env=pure none:=by rfl)
    (h1:(assignEach [tg] X.env).map (·.2)=[assign tg X.env]:=by rfl):PS X (.Assign [tg] e pos) (tAsg te g):=by
  intro pins s σ H D I h
  refine wpAny_Assign_stores (thn (he pins s σ H _ I h) fun v s1 ⟨x,H1,I1,r1,q1⟩=>?_) hs hw
  rw[h1]
  exact thn (hg pins s1 σ H1 x v _ I1 r1 q1) fun _ s2 q=>q
theorem ps_set{i:Nat}{x:Str}{e:Expr}{te:TE}{pos':Pos}(hN:X.N.Nodup)(hi:X.N[i]? = some x)(hx:Loc X.env.scope x)(he:PE X e te)(hs:swapsWith e (some (.Name x pos')) pos.line X.env=pure false:=by rfl)(hf:X.fn x=true∨X.env.scope.names.lookup x=some .local:=by first | exact .inl rfl | exact .inr rfl | assumption) :
    PS X (.Assign [.Name x pos'] e pos) (tAsg te (gName i)):=by
  intro pins s σ H D I h
  refine wpAny_Assign_Name (thn (he pins s σ H _ I h) fun v s1 ⟨y,H1,I1,r1,q1⟩=>?_) hs
  exact store_ok I1 hN hi hx r1 (fun s2 I2=>⟨_,H1,I2,q1⟩) hf
def tAug(i:Nat)(te:TE)(ti:TIp):TS:=fun D σ H=>∃x,σ[i]? = some (some x)∧te σ H fun y H1=>ti x y H1 fun z H2=>D.nx (σ.set i (some z)) H2
theorem ps_aug{i:Nat}{x:Str}{e:Expr}{te:TE}{op:Operator}{ti:TIp}{pos':Pos}(hN:X.N.Nodup)(hi:X.N[i]? = some x)(hx:Loc X.env.scope x)(he:PE X e te)(ho:PIp X op ti)(hf:X.fn x=true∨X.env.scope.names.lookup x=some .local:=by first | exact .inl rfl | exact .inr rfl | assumption) :
    PS X (.AugAssign (.Name x pos') op e pos) (tAug i te ti):=by
  intro pins s σ H D I h
  obtain⟨v,e1,h⟩:=h
  obtain⟨m,hn,hl⟩:=I.loc
  have vis:Vis X.env.scope x:=by rcases hx with k | k;exact .inl k;exact .inr (.inl k)
  obtain⟨u,r,l⟩:=hl i x v hi e1 vis
  refine wpAny_AugAssign_Name ?_
  have go:wpAny (model X.prog X.w) X.A (eval e X.env) (fun w s₂=>wpAny (model X.prog X.w) X.A (inplaceOp op u w) (fun r s₃=>wpAny (model X.prog X.w) X.A (storeName X.env x r) (fun _=>SP X pins D .next) X.xe s₃) X.xe s₂) X.xe s:=by
    refine thn (he pins s σ H _ I h) fun w s1 ⟨y,H1,I1,r1,q1⟩=>?_
    refine thn (ho pins s1 σ H1 v y u w _ I1 r r1 q1) fun z s2 ⟨zv,H2,I2,r2,q2⟩=>?_
    exact store_ok I2 hN hi hx r2 (fun s3 I3=>⟨_,H2,I3,q2⟩) hf
  rcases l with ⟨hk,hm⟩ | ⟨hk,c,hc,hcell⟩
  · exact wpAny_loadName_local I.ok.kind hk hn hm go
  · rcases hk with hk | hk
    · exact wpAny_loadName_cell I.ok.kind hk hc hcell go
    · rcases hx with k | k
      · have:X.env.scope.names.lookup x=some .free:=hk
        rw[k]at this;cases this
      · have:X.env.scope.names.lookup x=some .free:=hk
        rw[k]at this;cases this
def ipI(f:Int→Int→Int):TIp:=fun x y H Q=>∃i j,x=.int i∧y=.int j∧Q (.int (f i j)) H
theorem ip_add:PIp X .Add (ipI fun i j=>i+j):=by
  intro pins s σ H x y v u Q I r1 r2 h
  obtain⟨i,j,e1,e2,q⟩:=h
  subst e1;subst e2
  obtain⟨t,rfl⟩:=r1
  obtain⟨t',rfl⟩:=r2
  exact iadd_int ⟨.int _,H,I.tok _,⟨_,rfl⟩,q⟩
end
section
variable{X:Cx}{pos:Pos}
end
structure It where
  go:Nat→Hp→Prop
  yld:Nat→Hp→V→Hp→Prop
  stop:Nat→Hp→Prop
def FpOk(X:Cx)(pins:List (Addr × Obj))(H:Hp)(b:Addr):Prop:=
  H b=none∧b≠X.env.locals∧b ∉ X.fs∧(b∈X.ex∨X.s₀.heap.objs.size≤b)∧(∀x c,X.env.cells.lookup x=some c→c≠b)∧∀p∈X.pn++pins,p.1≠b
theorem Inv.fpOk{X:Cx}{pins:List (Addr × Obj)}{σ:St}{H H':Hp}{s:Shared}{b:Addr}(I:Inv X pins σ H s)(hb:s.heap.objs.size≤b)(hn:H' b=none):FpOk X pins H' b:=by
  refine⟨hn,Nat.ne_of_gt (Nat.lt_of_lt_of_le I.lt hb),I.nofs hb,.inr (Nat.le_trans I.sz hb),fun x c e z=>?_,fun p hp z=>?_⟩
  · obtain⟨v,q⟩:=I.cell x c e
    exact absurd (Nat.lt_of_lt_of_le q.lt (by rw[z];exact hb)) (Nat.lt_irrefl _)
  · exact absurd (Nat.lt_of_lt_of_le (Heap.lt_size (I.pin p hp).1) (by rw[z];exact hb)) (Nat.lt_irrefl _)
structure Turn(P:Program)(w:World)(K:PySem.W.Frag)(tg:Expr)(J:It)(fp:List Addr)(it:Addr)(tn:Nat→Heap→Prop):Prop where
  mem:it∈fp
  obj:∀i h,tn i h→∀b∈fp,∃o,h.get? b=some o∧∀v,o.data≠.cell v
  keep:∀i h h',tn i h→(∀b∈fp,∀o,h.get? b=some o→h'.get? b=some o)→tn i h'
  item:∀(X:Cx),X.prog=P→X.w=w→X.K=K→X.calm=true→∀(i:Nat) (pins:List (Addr × Obj)) (s:Shared) (σ:St) (H:Hp) (E:Value→Shared→Prop),Inv X pins σ H s→(∀b∈fp,FpOk X pins H b)→tn i s.heap→J.go i H→
    wpAny (model P w) X.A (pyNext (.ref it)) (fun r s1=>∃u,r=some u∧
      wpAny (model P w) X.A (letOwnedTupleGo tg (.ref it) u) (fun _ s2=>∃x H',Inv X pins σ H' s2∧RelV x u∧J.yld i H x H'∧tn (i+1) s2.heap∧∀b∈fp,H' b=none) E s1) E s
  done:∀(X:Cx),X.prog=P→X.w=w→X.K=K→X.calm=true→∀(i:Nat) (pins:List (Addr × Obj)) (s:Shared) (σ:St) (H:Hp) (E:Value→Shared→Prop),Inv X pins σ H s→(∀b∈fp,FpOk X pins H b)→tn i s.heap→J.stop i H→
    wpAny (model P w) X.A (pyNext (.ref it)) (fun r s1=>r=none∧Inv X pins σ H s1) E s
  self:∀(A:Around) (i:Nat) (s:Shared) (Q:Value→Shared→Prop) (E:Value→Shared→Prop),tn i s.heap→Q (.ref it) s→wpAny (model P w) A (pyIter (.ref it)) Q E s
abbrev TI:=St→Hp→(It→Hp→Prop)→Prop
def PIE(X:Cx)(pins:List (Addr × Obj))(σ:St)(tg:Expr)(R:It→Hp→Prop)(itv:Value)(s2:Shared):Prop:=
  ∃(it:Addr) (fp:List Addr) (tn:Nat→Heap→Prop) (J:It) (H':Hp),itv=.ref it∧Inv X pins σ H' s2∧Turn X.prog X.w X.K tg J fp it tn∧tn 0 s2.heap∧(∀b∈fp,FpOk X pins H' b)∧R J H'
def PI(X:Cx)(tg iter:Expr)(wi:TI):Prop:=
  ∀(pins:List (Addr × Obj)) (s:Shared) (σ:St) (H:Hp) (R:It→Hp→Prop),Inv X pins σ H s→wi σ H R→
    wpAny (model X.prog X.w) X.A (eval iter X.env) (fun v s1=>wpAny (model X.prog X.w) X.A (pyIter v) (PIE X pins σ tg R) X.xe s1) X.xe s
theorem go_of{M:Model}{A:Around}{E:Value→Shared→Prop}{s:Shared}{tg:Expr}{it:Addr}{u:Value}{o:Obj}{n:String}{vs:Array Value}{Q:Unit→Shared→Prop}(ho:s.heap.get? it=some o)(hc:o.cls=.type n)(hd:o.data=.fields vs)
    (hn:["enumerate","zip","dict_itemiterator","dict_reverseitemiterator","odict_iterator","itertools.zip_longest","itertools.pairwise"].contains n=false) (hQ:Q () s):wpAny M A (letOwnedTupleGo tg (.ref it) u) Q E s:=by
  unfold letOwnedTupleGo
  cases tg <;>first
    | exact wpAny_pure hQ
    | (cases u <;>first
        | exact wpAny_pure hQ
        | (refine wpAny_bind (wpAny_load ho ?_)
           rw[hc,hd]
           show wpAny M A (if(["enumerate","zip","dict_itemiterator","dict_reverseitemiterator","odict_iterator","itertools.zip_longest","itertools.pairwise"].contains n && vs[0]? == some (rawInt _))=true then _ else _) Q E s
           rw[if_neg (by intro h;rw[hn,Bool.false_and]at h;cases h)]
           exact wpAny_pure hQ))
def Itl(K:PySem.W.Frag)(a:Addr):It:=
  ⟨fun i H=>∃xs x,SqL K H a xs∧xs[i]? = some x,fun i H x H'=>H'=H∧∀xs,SqL K H a xs→xs[i]? = some x,fun i H=>∃xs,SqL K H a xs∧xs.length≤i⟩
def Itt(K:PySem.W.Frag)(a:Addr):It:=
  ⟨fun i H=>∃xs x,SqT K H a xs∧xs[i]? = some x,fun i H x H'=>H'=H∧∀xs,SqT K H a xs→xs[i]? = some x,fun i H=>∃xs,SqT K H a xs∧xs.length≤i⟩
def Itr(lo:Int)(n:Nat):It:=⟨fun i _=>i < n,fun i H x H'=>H'=H∧x=.int (lo+i),fun i _=>n≤i⟩
theorem turn_list{P:Program}{w:World}{K:PySem.W.Frag}{tg:Expr}(a it:Addr):Turn P w K tg (Itl K a) [it] it (fun i h=>h.IsListIter it a i)where
  mem:=by simp
  obj:=fun i h st b hb=>by
    have e:b=it:=by simpa using hb
    subst e
    obtain⟨o,e,c,d⟩:=st
    exact⟨o,e,fun v z=>by rw[d]at z;cases z⟩
  keep:=fun i h h' st k=>st.at fun o e=>k it (by simp) o e
  item:=by
    intro X hP hw hK hc i pins s σ H E I hf st hg
    subst hP hw hK
    obtain⟨xs,x,hq,hx⟩:=hg
    obtain⟨its,rv,p,hz⟩:=I.list hq
    obtain⟨u,hu,ru⟩:=rv.get hx
    obtain⟨f0,f1,f2,f3,f4,f5⟩:=hf it (by simp)
    refine wpAny_pyNext_list_item st p.isList (x:=u) (by simpa using hu) fun h' st' sb=>?_
    have I1:Inv X pins σ H { s with heap:=h' }:=I.turned (t':=s.toks) (fun b o hb e=>(sb.2 b hb).trans e) f0 f1 f3 f4 f5
    obtain⟨o,e,c,d⟩:=id st'
    exact⟨u,rfl,go_of (s:={ s with heap:=h' }) e c d (by decide) ⟨x,H,I1,ru,⟨rfl,fun ys hy=>by rw[I.list_inj hy hq];exact hx⟩,st',fun b hb=>(hf b hb).1⟩⟩
  done:=by
    intro X hP hw hK hc i pins s σ H E I hf st hg
    subst hP hw hK
    obtain⟨xs,hq,hx⟩:=hg
    obtain⟨its,rv,p,hz⟩:=I.list hq
    obtain⟨f0,f1,f2,f3,f4,f5⟩:=hf it (by simp)
    have hl:=rv.length
    exact wpAny_pyNext_list_end (I.ok.hd hc) st p.isList (by simp;omega) fun h' eb=>⟨rfl,I.turned (t':=s.toks) (fun b o hb e=>eb b o hb e) f0 f1 f3 f4 f5⟩
  self:=fun _ _ _ _ _ st h=>wpAny_pyIter_listiter st h
theorem turn_tuple{P:Program}{w:World}{K:PySem.W.Frag}{tg:Expr}(a it:Addr):Turn P w K tg (Itt K a) [it] it (fun i h=>h.IsTupleIter it a i)where
  mem:=by simp
  obj:=fun i h st b hb=>by
    have e:b=it:=by simpa using hb
    subst e
    obtain⟨o,e,c,d⟩:=st
    exact⟨o,e,fun v z=>by rw[d]at z;cases z⟩
  keep:=fun i h h' st k=>st.at fun o e=>k it (by simp) o e
  item:=by
    intro X hP hw hK hc i pins s σ H E I hf st hg
    subst hP hw hK
    obtain⟨xs,x,hq,hx⟩:=hg
    obtain⟨its,rv,p,hz⟩:=I.tuple hq
    obtain⟨u,hu,ru⟩:=rv.get hx
    obtain⟨f0,f1,f2,f3,f4,f5⟩:=hf it (by simp)
    refine wpAny_pyNext_tuple_item st (show s.heap.IsTuple a its.toArray from p) (x:=u) (by simpa using hu) fun h' st' sb=>?_
    have I1:Inv X pins σ H { s with heap:=h' }:=I.turned (t':=s.toks) (fun b o hb e=>(sb.2 b hb).trans e) f0 f1 f3 f4 f5
    obtain⟨o,e,c,d⟩:=id st'
    exact⟨u,rfl,go_of (s:={ s with heap:=h' }) e c d (by decide) ⟨x,H,I1,ru,⟨rfl,fun ys hy=>by rw[I.tuple_inj hy hq];exact hx⟩,st',fun b hb=>(hf b hb).1⟩⟩
  done:=by
    intro X hP hw hK hc i pins s σ H E I hf st hg
    subst hP hw hK
    obtain⟨xs,hq,hx⟩:=hg
    obtain⟨its,rv,p,hz⟩:=I.tuple hq
    obtain⟨f0,f1,f2,f3,f4,f5⟩:=hf it (by simp)
    have hl:=rv.length
    exact wpAny_pyNext_tuple_end (I.ok.hd hc) st (show s.heap.IsTuple a its.toArray from p) (by simp;omega) fun h' eb=>⟨rfl,I.turned (t':=s.toks) (fun b o hb e=>eb b o hb e) f0 f1 f3 f4 f5⟩
  self:=fun _ _ _ _ _ st h=>wpAny_pyIter_tupleiter st h
theorem turn_range{P:Program}{w:World}{K:PySem.W.Frag}{tg:Expr}(it:Addr)(lo:Int)(n:Nat):Turn P w K tg (Itr lo n) [it] it (fun i h=>IsRangeIter h it (lo+(i:Nat) * 1) ((n:Int) - (i:Nat)) 1)where
  mem:=by simp
  obj:=fun i h st b hb=>by
    have e:b=it:=by simpa using hb
    subst e
    exact⟨_,st,fun v z=>by
      have z':Data.fields _=Data.cell v:=z
      cases z'⟩
  keep:=fun i h h' st k=>k it (by simp) _ st
  item:=by
    intro X hP hw hK hc i pins s σ H E I hf st hg
    subst hP hw hK
    obtain⟨f0,f1,f2,f3,f4,f5⟩:=hf it (by simp)
    have W:=Walks.range (prog:=X.prog) (w:=X.w) (I.ok.hd hc) it lo 1 n
    refine W.item i s _ _ hg st fun v h' tk hv st' kk=>?_
    obtain⟨t,rfl⟩:=hv
    have I1:Inv X pins σ H { s with heap:=h',toks:=tk }:=I.turned (fun b o hb e=>kk b o (by simpa using hb) e) f0 f1 f3 f4 f5
    refine⟨_,rfl,go_of (s:={ s with heap:=h',toks:=tk }) (n:="range_iterator") st' rfl rfl (by decide) ⟨.int (lo+i),H,I1,⟨t,?_⟩,⟨rfl,rfl⟩,st',fun b hb=>(hf b hb).1⟩⟩
    rw[Int.mul_one]
  done:=by
    intro X hP hw hK hc i pins s σ H E I hf st hg
    subst hP hw hK
    obtain⟨f0,f1,f2,f3,f4,f5⟩:=hf it (by simp)
    exact wpAny_pyNext_range_end (I.ok.hd hc) st (by have:n≤i:=hg;omega) fun h' eb=>⟨rfl,I.turned (t':=s.toks) (fun b o hb e=>eb b o hb e) f0 f1 f3 f4 f5⟩
  self:=fun _ _ _ _ _ st h=>wpAny_pyIter_rangeiter st h
end L2
namespace L2
open PySem PySem.Spec PyProof.Rows
section
variable{X:Cx}{tg:Expr}
def iList(K:PySem.W.Frag)(tl:TE):TI:=fun σ H R=>tl σ H fun x H1=>∃a,x=.ref a∧(∃xs,SqL K H1 a xs)∧R (Itl K a) H1
def iTup(K:PySem.W.Frag)(tl:TE):TI:=fun σ H R=>tl σ H fun x H1=>∃a,x=.ref a∧(∃xs,SqT K H1 a xs)∧R (Itt K a) H1
theorem pi_list{l:Expr}{tl:TE}(hl:PE X l tl):PI X tg l (iList X.K tl):=by
  intro pins s σ H R I h
  refine thn (hl pins s σ H _ I h) fun v s1 ⟨x,H1,I1,r1,q1⟩=>?_
  obtain⟨a,e,⟨xs,hq⟩,q⟩:=q1
  subst e
  cases r1
  obtain⟨its,rv,p,hz⟩:=I1.list hq
  refine wpAny_pyIter_list p.isList ?_
  refine⟨s1.heap.objs.size,[s1.heap.objs.size],_,_,H1,rfl,I1.kept (t':=s1.toks) fun b o e=>Heap.get?_push_of_some _ e,turn_list a _,⟨_,Heap.get?_push_size _ rfl,rfl,rfl⟩,fun b hb=>?_,q⟩
  have e:b=s1.heap.objs.size:=by simpa using hb
  subst e
  exact I1.fpOk (Nat.le_refl _) (I1.hok.fresh (Nat.le_refl _))
theorem pi_tup{l:Expr}{tl:TE}(hl:PE X l tl):PI X tg l (iTup X.K tl):=by
  intro pins s σ H R I h
  refine thn (hl pins s σ H _ I h) fun v s1 ⟨x,H1,I1,r1,q1⟩=>?_
  obtain⟨a,e,⟨xs,hq⟩,q⟩:=q1
  subst e
  cases r1
  obtain⟨its,rv,p,hz⟩:=I1.tuple hq
  refine wpAny_pyIter_tuple (show s1.heap.IsTuple a its.toArray from p) ?_
  refine⟨s1.heap.objs.size,[s1.heap.objs.size],_,_,H1,rfl,I1.kept (t':=s1.toks) fun b o e=>Heap.get?_push_of_some _ e,turn_tuple a _,⟨_,Heap.get?_push_size _ rfl,rfl,rfl⟩,fun b hb=>?_,q⟩
  have e:b=s1.heap.objs.size:=by simpa using hb
  subst e
  exact I1.fpOk (Nat.le_refl _) (I1.hok.fresh (Nat.le_refl _))
theorem range_it{pins:List (Addr × Obj)}{σ:St}{H:Hp}{s:Shared}{R:It→Hp→Prop}{E:Value→Shared→Prop}{lo hi:Int}{t u v:Tok}{tk:Nat}(I:Inv X pins σ H s)(h1:-(2 ^ 62)≤lo)(h2:lo < 2 ^ 62)(h3:-(2 ^ 62)≤hi)(h4:hi < 2 ^ 62)
    (q:R (Itr lo (hi - lo).toNat) H):wpAny (model X.prog X.w) X.A (pyIter (.ref s.heap.objs.size)) (PIE X pins σ tg R) E { s with heap:=s.heap.push { cls:=.type "range",data:=.fields #[.int lo t,.int hi u,.int 1 v] },toks:=tk }:=by
  refine wpAny_pyIter_range (IsRange.new ..) (small_one h1 h2 h3 h4) ?_
  have I1:Inv X pins σ H { s with heap:=s.heap.push { cls:=.type "range",data:=.fields #[.int lo t,.int hi u,.int 1 v] },toks:=tk }:=I.kept fun b o e=>Heap.get?_push_of_some _ e
  refine⟨(s.heap.push { cls:=.type "range",data:=.fields #[.int lo t,.int hi u,.int 1 v] }).objs.size,[(s.heap.push { cls:=.type "range",data:=.fields #[.int lo t,.int hi u,.int 1 v] }).objs.size],_,_,H,rfl,
    I1.kept (t':=tk) fun b o e=>Heap.get?_push_of_some _ e,turn_range _ lo (hi - lo).toNat,?_,fun b hb=>?_,q⟩
  · have e1:lo+((0:Nat):Int) * 1=lo:=by simp
    have e2:(((hi - lo).toNat:Nat):Int) - ((0:Nat):Int)=Builtin.Range.rangeSize lo hi 1:=by rw[rangeSize_one];split <;>omega
    show IsRangeIter _ _ (lo+((0:Nat):Int) * 1) ((((hi - lo).toNat:Nat):Int) - ((0:Nat):Int)) 1
    rw[e1,e2]
    exact Heap.get?_push_size _ rfl
  · have e:b=(s.heap.push { cls:=.type "range",data:=.fields #[.int lo t,.int hi u,.int 1 v] }).objs.size:=by simpa using hb
    subst e
    exact I1.fpOk (Nat.le_refl _) (I1.hok.fresh (Nat.le_refl _))
def iRng1(ta:TA):TI:=fun σ H R=>ta σ H fun vs H1=>∃j:Int,vs=[.int j]∧-(2 ^ 62)≤j∧j < 2 ^ 62∧R (Itr 0 j.toNat) H1
theorem pi_range1{a:Expr}{ta:TA}{p pos:Pos}(hg:Gl X "range")(hm:X.mg "range"=none)(ha:PA X [a] ta)(hs:starEach [a] X.env=[(false,eval a X.env)]:=by rfl):PI X tg (.Call (.Name "range" p) [a] [] pos) (iRng1 ta):=by
  intro pins s σ H R I h
  refine Call_ (ld_blt I hg hm boot_range (PyProof.Rows.callWith_type1 (thn (ha pos pins s σ H _ I h) fun us s1 ⟨vs,H1,I1,r1,q1⟩=>?_) hs rfl))
  obtain⟨j,e,q1,q2,q⟩:=q1
  subst e
  cases r1 with
  | cons r rr=>
    cases rr
    obtain⟨t,rfl⟩:=r
    exact call_range_1 (range_it I1 (by omega) (by omega) q1 q2 (by simpa using q))
def tFor(wi:TI)(g:TG)(tb:TS):TS:=fun D σ H=>wi σ H fun J H1=>∃W:Nat→Nat→St→Hp→Prop,(∃m,W 0 m σ H1)∧∀i m σ H,W i m σ H→
  (J.stop i H∧D.nx σ H)∨(J.go i H∧∃N:St→Hp→Prop,(∀σ' H',N σ' H'→∃m',m' < m∧W (i+1) m' σ' H')∧∀x H',J.yld i H x H'→g x σ H' fun σ2 H2=>tb { D with nx:=N,ct:=N,bk:=D.nx } σ2 H2)
def pinsAt(fp:List Addr)(h:Heap):List (Addr × Obj):=fp.filterMap fun b=>(h.get? b).map fun o=>(b,o)
theorem mem_pinsAt{fp:List Addr}{h:Heap}{b:Addr}{o:Obj}(hb:b∈fp)(e:h.get? b=some o):(b,o)∈pinsAt fp h:=List.mem_filterMap.mpr ⟨b,hb,by rw[e];rfl⟩
theorem of_pinsAt{fp:List Addr}{h:Heap}{p:Addr × Obj}(hp:p∈pinsAt fp h):p.1∈fp∧h.get? p.1=some p.2:=by
  obtain⟨b,hb,e⟩:=List.mem_filterMap.mp hp
  cases q:h.get? b with
  | none=>rw[q]at e;cases e
  | some o=>
    rw[q]at e
    have e':(b,o)=p:=Option.some.inj e
    subst e'
    exact⟨hb,q⟩
theorem Inv.pinned{pins:List (Addr × Obj)}{σ:St}{H:Hp}{s:Shared}{fp:List Addr}(I:Inv X pins σ H s)(hf:∀b∈fp,FpOk X pins H b)(ho:∀b∈fp,∃o,s.heap.get? b=some o∧∀v,o.data≠.cell v):Inv X (pins++pinsAt fp s.heap) σ H s:=
  I.pins_of fun p hp=>(List.mem_append.mp hp).elim (fun z=>I.pin p (List.mem_append_right _ z)) fun z=>by
    obtain⟨hb,e⟩:=of_pinsAt z
    obtain⟨f0,f1,f2,_⟩:=hf p.1 hb
    obtain⟨o,e',d⟩:=ho p.1 hb
    rw[e]at e';cases e'
    exact⟨e,f0,f1,f2,d⟩
theorem Inv.unpinned{pins pl:List (Addr × Obj)}{σ:St}{H:Hp}{s:Shared}(I:Inv X (pins++pl) σ H s):Inv X pins σ H s:=I.pins_of fun p hp=>I.pin p (List.mem_append_right _ (List.mem_append_left _ hp))
theorem ps_for{iter:Expr}{body:List Stmt}{wi:TI}{g:TG}{tb:TS}{pos:Pos}(hp:PassesOwn (model X.prog X.w) X.A X.env X.xe)(hc:X.calm=true)(hi:PI X tg iter wi)(hg:PG X tg g)(hb:PSs X body tb)
    (hs:∀x,foldedSetIterable iter X.env x=pure x:=by intro _;rfl):PS X (.For tg iter body [] pos) (tFor wi g tb):=by
  intro pins s σ H D I h
  refine wpAny_For (thn (hi pins s σ H _ I h) fun v s1 h1=>thn h1 fun itv s2 h2=>?_) hs
  obtain⟨it,fp,tn,J,H2,e,I2,T,st2,f2,W,⟨m0,w0⟩,turn⟩:=h2
  subst e
  have stat:∀{H':Hp},(∀b∈fp,H' b=none)→∀b∈fp,FpOk X pins H' b:=fun hn b hb=>⟨hn b hb,(f2 b hb).2⟩
  refine codeAny_forLoop_any (fun n s'=>∃i σ' H',Inv X pins σ' H' s'∧tn i s'.heap∧(∀b∈fp,H' b=none)∧W i n σ' H') ?_ m0 ⟨0,σ,H2,I2,st2,fun b hb=>(f2 b hb).1,w0⟩
  rintro n s3 ⟨i,σ3,H3,I3,st3,fr3,w3⟩
  rcases turn i n σ3 H3 w3 with ⟨stop,qn⟩ | ⟨go,N,hN,step⟩
  · refine wpAny_passesOwn hp (thn (T.done X rfl rfl rfl hc i pins s3 σ3 H3 X.xe I3 (stat fr3) st3 stop) fun r s4 ⟨hr,I4⟩=>?_)
    subst hr
    exact wpAny_execs_nil ⟨σ3,H3,I4,qn⟩
  · refine wpAny_passesOwn hp (thn (T.item X rfl rfl rfl hc i pins s3 σ3 H3 X.xe I3 (stat fr3) st3 go) fun r s4 ⟨u,hr,h4⟩=>?_)
    subst hr
    refine wpAny_passesOwn hp (thn h4 fun _ s5 ⟨x,H5,I5,r5,y5,st5,fr5⟩=>?_)
    have I5':=I5.pinned (stat fr5) (T.obj _ _ st5)
    refine wpAny_passesOwn hp (thn (hg _ s5 σ3 H5 x u _ I5' r5 (step x H5 y5)) fun _ s6 ⟨σ6,H6,I6,q6⟩=>?_)
    refine wpAny_passesOwn hp (thn (hb _ s6 σ6 H6 _ I6 q6) fun f s7 q7=>?_)
    have again:∀{σ7:St} {H7:Hp},Inv X (pins++pinsAt fp s5.heap) σ7 H7 s7→N σ7 H7→∃m,m < n∧∃i σ' H',Inv X pins σ' H' s7∧tn i s7.heap∧(∀b∈fp,H' b=none)∧W i m σ' H':=fun{σ7 H7} I7 n7=>by
      obtain⟨m',hm,w7⟩:=hN σ7 H7 n7
      refine⟨m',hm,i+1,σ7,H7,I7.unpinned,T.keep _ _ _ st5 fun b hb o e=>(I7.pin (b,o) (List.mem_append_right _ (List.mem_append_right _ (mem_pinsAt hb e)))).1,fun b hb=>?_,w7⟩
      obtain⟨o,e,d⟩:=T.obj _ _ st5 b hb
      exact(I7.pin (b,o) (List.mem_append_right _ (List.mem_append_right _ (mem_pinsAt hb e)))).2.1
    cases f with
    | next=>obtain⟨σ7,H7,I7,n7⟩:=q7;exact again I7 n7
    | cont=>obtain⟨σ7,H7,I7,n7⟩:=q7;exact again I7 n7
    | brk=>obtain⟨σ7,H7,I7,q7⟩:=q7;exact⟨σ7,H7,I7.unpinned,q7⟩
    | ret v=>obtain⟨x7,σ7,H7,I7,r7,q7⟩:=q7;exact⟨x7,σ7,H7,I7.unpinned,r7,q7⟩
end
theorem for_list{K:PySem.W.Frag}{a:Addr}{xs:List V}{g:TG}{tb:TS}{D:Ends}{σ:St}{H:Hp}(Pv:Nat→St→Hp→Prop)(h0:Pv 0 σ H)(hl:∀i σ H,i≤xs.length→Pv i σ H→SqL K H a xs)
    (hs:∀i x σ H,xs[i]? = some x→Pv i σ H→g x σ H fun σ2 H2=>tb { D with nx:=Pv (i+1),ct:=Pv (i+1),bk:=D.nx } σ2 H2) (hd:∀σ H,Pv xs.length σ H→D.nx σ H) :
    ∃W:Nat→Nat→St→Hp→Prop,(∃m,W 0 m σ H)∧∀i m σ H,W i m σ H→
      ((Itl K a).stop i H∧D.nx σ H)∨((Itl K a).go i H∧∃N:St→Hp→Prop,(∀σ' H',N σ' H'→∃m',m' < m∧W (i+1) m' σ' H')∧∀x H',(Itl K a).yld i H x H'→g x σ H' fun σ2 H2=>tb { D with nx:=N,ct:=N,bk:=D.nx } σ2 H2):=by
  refine⟨fun i m σ H=>m=xs.length - i∧i≤xs.length∧Pv i σ H,⟨xs.length,by simp,Nat.zero_le _,h0⟩,?_⟩
  rintro i m σ H ⟨rfl,hi,p⟩
  have q:=hl i σ H hi p
  by_cases hlt:i < xs.length
  · refine .inr ⟨⟨xs,xs[i],q,by simp[hlt]⟩,Pv (i+1),fun σ' H' p'=>⟨xs.length - (i+1),by omega,rfl,hlt,p'⟩,fun x H' y=>?_⟩
    obtain⟨e,y⟩:=y
    subst e
    exact hs i x σ _ (y xs q) p
  · have e:i=xs.length:=by omega
    subst e
    exact .inl ⟨⟨xs,q,Nat.le_refl _⟩,hd σ H p⟩
theorem for_range{lo:Int}{n:Nat}{g:TG}{tb:TS}{D:Ends}{σ:St}{H:Hp}(Pv:Nat→St→Hp→Prop)(h0:Pv 0 σ H)
    (hs:∀i σ H,i < n→Pv i σ H→g (.int (lo+i)) σ H fun σ2 H2=>tb { D with nx:=Pv (i+1),ct:=Pv (i+1),bk:=D.nx } σ2 H2) (hd:∀σ H,Pv n σ H→D.nx σ H) :
    ∃W:Nat→Nat→St→Hp→Prop,(∃m,W 0 m σ H)∧∀i m σ H,W i m σ H→
      ((Itr lo n).stop i H∧D.nx σ H)∨((Itr lo n).go i H∧∃N:St→Hp→Prop,(∀σ' H',N σ' H'→∃m',m' < m∧W (i+1) m' σ' H')∧∀x H',(Itr lo n).yld i H x H'→g x σ H' fun σ2 H2=>tb { D with nx:=N,ct:=N,bk:=D.nx } σ2 H2):=by
  refine⟨fun i m σ H=>m=n - i∧i≤n∧Pv i σ H,⟨n,by simp,Nat.zero_le _,h0⟩,?_⟩
  rintro i m σ H ⟨rfl,hi,p⟩
  by_cases hlt:i < n
  · refine .inr ⟨hlt,Pv (i+1),fun σ' H' p'=>⟨n - (i+1),by omega,rfl,hlt,p'⟩,fun x H' y=>?_⟩
    obtain⟨e,y⟩:=y
    subst e y
    exact hs i σ _ hlt p
  · have e:i=n:=by omega
    subst e
    exact .inl ⟨Nat.le_refl _,hd σ H p⟩
end L2
namespace L2
open PySem PySem.Spec PyProof.Rows
abbrev R2:=V→V→Hp→VK→Prop
def OpR(X:Cx)(f:Value→Value→Sem Value)(r:R2):Prop:=
  ∀(pins:List (Addr × Obj)) (s:Shared) (σ:St) (H:Hp) (x y:V) (v u:Value) (Q:VK),Inv X pins σ H s→RelV x v→RelV y u→r x y H Q→
    wpAny (model X.prog X.w) X.A (f v u) (EP X pins σ Q) X.xe s
def UnR(X:Cx)(f:Value→Sem Value)(r:V→Hp→VK→Prop):Prop:=
  ∀(pins:List (Addr × Obj)) (s:Shared) (σ:St) (H:Hp) (x:V) (v:Value) (Q:VK),Inv X pins σ H s→RelV x v→r x H Q→
    wpAny (model X.prog X.w) X.A (f v) (EP X pins σ Q) X.xe s
def CallR(X:Cx)(f:Value)(r:List V→Hp→VK→Prop):Prop:=
  ∀(pins:List (Addr × Obj)) (s:Shared) (σ:St) (H:Hp) (xs:List V) (us:List Value) (Q:VK),Inv X pins σ H s→Vals xs us→r xs H Q→
    wpAny (model X.prog X.w) X.A (call f us) (EP X pins σ Q) X.xe s
def tOp(r:R2)(ta tb:TE):TE:=fun σ H Q=>ta σ H fun x H1=>tb σ H1 fun y H2=>r x y H2 Q
def tUn(r:V→Hp→VK→Prop)(ta:TE):TE:=fun σ H Q=>ta σ H fun x H1=>r x H1 Q
def rI(C:Int→Int→Prop)(g:Int→Int→V):R2:=fun x y H Q=>∃i j,x=.int i∧y=.int j∧C i j∧Q (g i j) H
def rI0(g:Int→Int→V):R2:=fun x y H Q=>∃i j,x=.int i∧y=.int j∧Q (g i j) H
def rU(g:Int→V):V→Hp→VK→Prop:=fun x H Q=>∃i,x=.int i∧Q (g i) H
section
variable{X:Cx}{a b c:Expr}{ta tb tc:TE}{pos:Pos}
theorem binT(ha:PE X a ta)(hb:PE X b tb){pins:List (Addr × Obj)}{s:Shared}{σ:St}{H:Hp}{R:V→V→Hp→Prop}(I:Inv X pins σ H s)
    (h:ta σ H fun x H1=>tb σ H1 fun y H2=>R x y H2) {Q:Value→Shared→Prop} {f:Value→Value→Sem Value}
    (hf:∀v u s2 x y H2,Inv X pins σ H2 s2→RelV x v→RelV y u→R x y H2→wpAny (model X.prog X.w) X.A (f v u) Q X.xe s2) :
    wpAny (model X.prog X.w) X.A (eval a X.env) (fun v s₁=>wpAny (model X.prog X.w) X.A (eval b X.env) (fun u s₂=>wpAny (model X.prog X.w) X.A (f v u) Q X.xe s₂) X.xe s₁) X.xe s:=by
  refine thn (ha pins s σ H _ I h) fun v s1 ⟨x,H1,I1,r1,q1⟩=>?_
  refine thn (hb pins s1 σ H1 _ I1 q1) fun u s2 ⟨y,H2,I2,r2,q2⟩=>?_
  exact hf v u s2 x y H2 I2 r1 r2 q2
theorem pe_op{op:Operator}{r:R2}(ho:OpR X (binaryOp op) r)(ha:PE X a ta)(hb:PE X b tb):PE X (.BinOp a op b pos) (tOp r ta tb):=by
  intro pins s σ H Q I h
  exact wpAny_BinOp (binT ha hb I h fun v u s2 x y H2 I2 rx ry q=>ho pins s2 σ H2 x y v u Q I2 rx ry q)
theorem pe_un{op:UnaryOp}{r:V→Hp→VK→Prop}(ho:UnR X (unaryOp op) r)(ha:PE X a ta):PE X (.UnaryOp op a pos) (tUn r ta):=by
  intro pins s σ H Q I h
  exact UnaryOp_ (thn (ha pins s σ H _ I h) fun v s1 ⟨x,H1,I1,r1,q1⟩=>ho pins s1 σ H1 x v Q I1 r1 q1)
theorem opI{f:Value→Value→Sem Value}{C:Int→Int→Prop}{g:Int→Int→Int}
    (rule:∀(i j:Int) (t u:Tok) (s:Shared) (Q:Value→Shared→Prop) (E:Value→Shared→Prop),C i j→Q (.int (g i j) s.toks) { s with toks:=s.toks+1 }→wpAny (model X.prog X.w) X.A (f (.int i t) (.int j u)) Q E s) :
    OpR X f (rI C fun i j=>.int (g i j)):=by
  intro pins s σ H x y v u Q I rx ry h
  obtain⟨i,j,rfl,rfl,hc,q⟩:=h
  obtain⟨t,rfl⟩:=rx
  obtain⟨t',rfl⟩:=ry
  exact rule i j t t' s _ _ hc ⟨.int (g i j),H,I.tok _,⟨_,rfl⟩,q⟩
theorem opI0{f:Value→Value→Sem Value}{g:Int→Int→Int}
    (rule:∀(i j:Int) (t u:Tok) (s:Shared) (Q:Value→Shared→Prop) (E:Value→Shared→Prop),Q (.int (g i j) s.toks) { s with toks:=s.toks+1 }→wpAny (model X.prog X.w) X.A (f (.int i t) (.int j u)) Q E s) :
    OpR X f (rI0 fun i j=>.int (g i j)):=by
  intro pins s σ H x y v u Q I rx ry h
  obtain⟨i,j,rfl,rfl,q⟩:=h
  obtain⟨t,rfl⟩:=rx
  obtain⟨t',rfl⟩:=ry
  exact rule i j t t' s _ _ ⟨.int (g i j),H,I.tok _,⟨_,rfl⟩,q⟩
theorem opB0{f:Value→Value→Sem Value}{g:Int→Int→Bool}
    (rule:∀(i j:Int) (t u:Tok) (s:Shared) (Q:Value→Shared→Prop) (E:Value→Shared→Prop),Q (.bool (g i j)) s→wpAny (model X.prog X.w) X.A (f (.int i t) (.int j u)) Q E s) :
    OpR X f (rI0 fun i j=>.bl (g i j)):=by
  intro pins s σ H x y v u Q I rx ry h
  obtain⟨i,j,rfl,rfl,q⟩:=h
  obtain⟨t,rfl⟩:=rx
  obtain⟨t',rfl⟩:=ry
  exact rule i j t t' s _ _ ⟨.bl (g i j),H,I,rfl,q⟩
def CPow(i j:Int):Prop:=0≤j∧j≤1000000∧i.natAbs < 2 ^ 64
def CMul(i j:Int):Prop:=(-(2 ^ 64) < i∧i < 2 ^ 64)∨(-(2 ^ 64) < j∧j < 2 ^ 64)
theorem CMul.ok{i j:Int}(h:CMul i j):IntMulOk i j:=by
  rcases h with ⟨h1,h2⟩ | ⟨h1,h2⟩
  · exact .of_left (intBits_le_64 h1 h2)
  · exact .of_right (intBits_le_64 h1 h2)
theorem op_add:OpR X (binaryOp .Add) (rI0 fun i j=>.int (i+j)):=opI0 fun _ _ _ _ _ _ _ q=>add_int q
theorem op_sub:OpR X (binaryOp .Sub) (rI0 fun i j=>.int (i - j)):=opI0 fun _ _ _ _ _ _ _ q=>sub_int q
theorem op_mul:OpR X (binaryOp .Mult) (rI CMul fun i j=>.int (i * j)):=opI fun _ _ _ _ _ _ _ hc q=>mul_int q hc.ok
theorem op_modN:OpR X (binaryOp .Mod) (rI (fun _ j=>j≠0) fun i j=>.int (i.fmod j)):=opI fun _ _ _ _ _ _ _ hc q=>mod_int' hc q
theorem op_pow:OpR X (binaryOp .Pow) (rI CPow fun i j=>.int (i ^ j.toNat)):=opI fun _ _ _ _ _ _ _ hc q=>pow_int_small hc.1 hc.2.1 hc.2.2 q
theorem unI{f:Value→Sem Value}{g:Int→Int}
    (rule:∀(i:Int) (t:Tok) (s:Shared) (Q:Value→Shared→Prop) (E:Value→Shared→Prop),Q (.int (g i) s.toks) { s with toks:=s.toks+1 }→wpAny (model X.prog X.w) X.A (f (.int i t)) Q E s) :
    UnR X f (rU fun i=>.int (g i)):=by
  intro pins s σ H x v Q I rx h
  obtain⟨i,rfl,q⟩:=h
  obtain⟨t,rfl⟩:=rx
  exact rule i t s _ _ ⟨.int (g i),H,I.tok _,⟨_,rfl⟩,q⟩
theorem un_neg:UnR X (unaryOp .USub) (rU fun i=>.int (-i)):=unI fun _ _ _ _ _ q=>neg_int q
end
def scal:V→V→Bool
  | .non,.non=>true | .non,.int _=>true | .int _,.non=>true | .non,.bl _=>true | .bl _,.non=>true | .non,.str _=>true | .str _,.non=>true
  | .int _,.int _=>true | .bl _,.bl _=>true | .str _,.str _=>true | .byt _,.byt _=>true
  | .int _,.str _=>true | .str _,.int _=>true | .bl _,.str _=>true | .str _,.bl _=>true
  | _,_=>false
def rEq:R2:=fun x y H Q=>scal x y=true∧Q (.bl (decide (x=y))) H
def rNe:R2:=fun x y H Q=>scal x y=true∧Q (.bl (!decide (x=y))) H
theorem dec_int{i j:Int}:decide (V.int i=V.int j)=(i == j):=by
  rw[Bool.eq_iff_iff]
  simp
theorem dec_bl{i j:Bool}:decide (V.bl i=V.bl j)=(i == j):=by
  rw[Bool.eq_iff_iff]
  simp
theorem dec_str{i j:Str}:decide (V.str i=V.str j)=(i == j):=by
  rw[Bool.eq_iff_iff]
  simp
theorem dec_byt{i j:Array UInt8}:decide (V.byt i=V.byt j)=(i.toList == j.toList):=by
  rw[Bool.eq_iff_iff]
  cases i
  cases j
  simp
section
variable{X:Cx}{a b c:Expr}{ta tb tc:TE}{pos:Pos}
theorem fin_bl{pins:List (Addr × Obj)}{σ:St}{H:Hp}{s:Shared}{Q:VK}{k k':Bool}(I:Inv X pins σ H s)(q:Q (.bl k) H)(e:k=k'):EP X pins σ Q (.bool k') s:=by
  subst e
  exact⟨.bl k,H,I,rfl,q⟩
theorem op_eq:OpR X (compareOp .Eq) rEq:=by
  intro pins s σ H x y v u Q I rx ry h
  obtain⟨hs,q⟩:=h
  cases x with
  | non=>
    cases rx
    cases y with
    | non=>cases ry;exact PySem.EqNone.eq_none_none (fin_bl I q (by simp))
    | bl j=>cases ry;exact PySem.EqNone.eq_none_bool (fin_bl I q (by simp))
    | int j=>obtain⟨t',rfl⟩:=ry;exact PySem.EqNone.eq_none_int (fin_bl I q (by simp))
    | str j=>obtain⟨t',rfl⟩:=ry;exact PySem.EqNone.eq_none_str (fin_bl I q (by simp))
    | _=>exact absurd (show false=true from hs) Bool.false_ne_true
  | bl i=>
    cases rx
    cases y with
    | non=>cases ry;exact PySem.EqNone.eq_bool_none (fin_bl I q (by simp))
    | bl j=>cases ry;exact eq_bool (fin_bl I q dec_bl)
    | str j=>obtain⟨t',rfl⟩:=ry;exact PySem.EqMixed.eq_bool_str (fin_bl I q (by simp))
    | _=>exact absurd (show false=true from hs) Bool.false_ne_true
  | int i=>
    obtain⟨t,rfl⟩:=rx
    cases y with
    | non=>cases ry;exact PySem.EqNone.eq_int_none (fin_bl I q (by simp))
    | int j=>obtain⟨t',rfl⟩:=ry;exact eq_int (fin_bl I q dec_int)
    | str j=>obtain⟨t',rfl⟩:=ry;exact PySem.EqMixed.eq_int_str (fin_bl I q (by simp))
    | _=>exact absurd (show false=true from hs) Bool.false_ne_true
  | str i=>
    obtain⟨t,rfl⟩:=rx
    cases y with
    | non=>cases ry;exact PySem.EqNone.eq_str_none (fin_bl I q (by simp))
    | bl j=>cases ry;exact PySem.EqMixed.eq_str_bool (fin_bl I q (by simp))
    | int j=>obtain⟨t',rfl⟩:=ry;exact PySem.EqMixed.eq_str_int (fin_bl I q (by simp))
    | str j=>obtain⟨t',rfl⟩:=ry;exact eq_str (fin_bl I q dec_str)
    | _=>exact absurd (show false=true from hs) Bool.false_ne_true
  | byt i=>
    obtain⟨t,rfl⟩:=rx
    cases y with
    | byt j=>obtain⟨t',rfl⟩:=ry;exact PySem.W.eq_bytes (fin_bl I q dec_byt)
    | _=>exact absurd (show false=true from hs) Bool.false_ne_true
  | _=>cases y <;>exact absurd (show false=true from hs) Bool.false_ne_true
theorem op_ne:OpR X (compareOp .NotEq) rNe:=by
  intro pins s σ H x y v u Q I rx ry h
  obtain⟨hs,q⟩:=h
  cases x with
  | non=>
    cases rx
    cases y with
    | non=>cases ry;exact PySem.EqNone.ne_none_none (fin_bl I q (by simp))
    | bl j=>cases ry;exact PySem.EqNone.ne_none_bool (fin_bl I q (by simp))
    | int j=>obtain⟨t',rfl⟩:=ry;exact PySem.EqNone.ne_none_int (fin_bl I q (by simp))
    | str j=>obtain⟨t',rfl⟩:=ry;exact PySem.EqNone.ne_none_str (fin_bl I q (by simp))
    | _=>exact absurd (show false=true from hs) Bool.false_ne_true
  | bl i=>
    cases rx
    cases y with
    | non=>cases ry;exact PySem.EqNone.ne_bool_none (fin_bl I q (by simp))
    | bl j=>cases ry;exact ne_bool (fin_bl I q (congrArg not dec_bl))
    | str j=>obtain⟨t',rfl⟩:=ry;exact PySem.EqMixed.ne_bool_str (fin_bl I q (by simp))
    | _=>exact absurd (show false=true from hs) Bool.false_ne_true
  | int i=>
    obtain⟨t,rfl⟩:=rx
    cases y with
    | non=>cases ry;exact PySem.EqNone.ne_int_none (fin_bl I q (by simp))
    | int j=>obtain⟨t',rfl⟩:=ry;exact ne_int (fin_bl I q (congrArg not dec_int))
    | str j=>obtain⟨t',rfl⟩:=ry;exact PySem.EqMixed.ne_int_str (fin_bl I q (by simp))
    | _=>exact absurd (show false=true from hs) Bool.false_ne_true
  | str i=>
    obtain⟨t,rfl⟩:=rx
    cases y with
    | non=>cases ry;exact PySem.EqNone.ne_str_none (fin_bl I q (by simp))
    | bl j=>cases ry;exact PySem.EqMixed.ne_str_bool (fin_bl I q (by simp))
    | int j=>obtain⟨t',rfl⟩:=ry;exact PySem.EqMixed.ne_str_int (fin_bl I q (by simp))
    | str j=>obtain⟨t',rfl⟩:=ry;exact ne_str (fin_bl I q (congrArg not dec_str))
    | _=>exact absurd (show false=true from hs) Bool.false_ne_true
  | byt i=>
    obtain⟨t,rfl⟩:=rx
    cases y with
    | byt j=>obtain⟨t',rfl⟩:=ry;exact PySem.W.ne_bytes (fin_bl I q (congrArg not dec_byt))
    | _=>exact absurd (show false=true from hs) Bool.false_ne_true
  | _=>cases y <;>exact absurd (show false=true from hs) Bool.false_ne_true
theorem op_lt:OpR X (compareOp .Lt) (rI0 fun i j=>.bl (decide (i < j))):=opB0 fun _ _ _ _ _ _ _ q=>lt_int q
theorem op_gt:OpR X (compareOp .Gt) (rI0 fun i j=>.bl (decide (j < i))):=opB0 fun _ _ _ _ _ _ _ q=>gt_int q
theorem op_ge:OpR X (compareOp .GtE) (rI0 fun i j=>.bl (decide (j≤i))):=opB0 fun _ _ _ _ _ _ _ q=>ge_int q
theorem op_in_str:OpR X (compareOp .In) (fun x y H Q=>∃i j,x=.str i∧y=.str j∧Q (.bl (!(Builtin.Str.occurrences j i 0 j.length 1).isEmpty)) H):=by
  intro pins s σ H x y v u Q I rx ry h
  obtain⟨i,j,rfl,rfl,q⟩:=h
  obtain⟨t,rfl⟩:=rx
  obtain⟨t',rfl⟩:=ry
  exact in_str (fin_bl I q rfl)
theorem op_isN:OpR X (compareOp .Is) (fun x y H Q=>y=.non∧Q (.bl (decide (x=.non))) H):=by
  intro pins s σ H x y v u Q I rx ry h
  obtain⟨rfl,q⟩:=h
  cases ry
  refine is_none_gen (fin_bl I q ?_)
  cases x <;>first
    | (cases rx;rfl)
    | (obtain⟨t,rfl⟩:=rx;rfl)
theorem op_notN:OpR X (compareOp .IsNot) (fun x y H Q=>y=.non∧Q (.bl (!decide (x=.non))) H):=by
  intro pins s σ H x y v u Q I rx ry h
  obtain⟨rfl,q⟩:=h
  cases ry
  refine isnot_none_gen (fin_bl I q ?_)
  cases x <;>first
    | (cases rx;rfl)
    | (obtain⟨t,rfl⟩:=rx;rfl)
theorem OpR.or{f:Value→Value→Sem Value}{r r':R2}(h:OpR X f r)(h':OpR X f r'):OpR X f (fun x y H Q=>r x y H Q∨r' x y H Q):=by
  intro pins s σ H x y v u Q I rx ry q
  rcases q with q | q
  · exact h pins s σ H x y v u Q I rx ry q
  · exact h' pins s σ H x y v u Q I rx ry q
theorem nomark(b:Expr){op:CmpOp}(h:op≠.In:=by decide)(h2:op≠.NotIn:=by decide):behindInMarks op b=false:=by
  have e1:(op == CmpOp.In)=false:=by cases op <;>first | rfl | exact absurd rfl h
  have e2:(op == CmpOp.NotIn)=false:=by cases op <;>first | rfl | exact absurd rfl h2
  cases b <;>simp[behindInMarks,e1,e2]
theorem pe_cmpR{op:CmpOp}{r:R2}(ho:OpR X (compareOp op) r)(ha:PE X a ta)(hb:PE X b tb)(hm:behindInMarks op b=false):PE X (.Compare a [op] [b] pos) (tOp r ta tb):=by
  intro pins s σ H Q I h
  exact wpAny_Compare1 (binT ha hb I h fun v u s2 x y H2 I2 rx ry q=>ho pins s2 σ H2 x y v u Q I2 rx ry q) hm
def tTest(t:TE):TT:=fun σ H Q=>t σ H fun x H'=>∃k,x=.bl k∧Q k H'
theorem pt_cmpR{op:CmpOp}{r:R2}(ho:OpR X (compareOp op) r)(ha:PE X a ta)(hb:PE X b tb)(hm:behindInMarks op b=false):PT X (.Compare a [op] [b] pos) (tTest (tOp r ta tb)):=by
  intro pins s σ H Q I h
  refine wpAny_isTrue_Compare1 (thn (ha pins s σ H _ I h) fun v s1 ⟨x,H1,I1,r1,q1⟩=>thn (hb pins s1 σ H1 _ I1 q1) fun u s2 ⟨y,H2,I2,r2,q2⟩=>
    thn (ho pins s2 σ H2 x y v u _ I2 r1 r2 q2) fun c s3 ⟨z,H3,I3,r3,k,e,q3⟩=>?_) hm
  subst e
  cases r3
  exact wpAny_truthy_bool ⟨H3,I3,q3⟩
theorem line63:(sizeLine:Nat) < 2 ^ 63:=by rw[sizeLine_eq];decide
theorem op_add_str:OpR X (binaryOp .Add) (fun x y H Q=>∃i j,x=.str i∧y=.str j∧i.length+j.length≤sizeLine∧Q (.str (i++j)) H):=by
  intro pins s σ H x y v u Q I rx ry h
  obtain⟨i,j,rfl,rfl,hz,q⟩:=h
  obtain⟨t,rfl⟩:=rx
  obtain⟨t',rfl⟩:=ry
  exact add_str (fun t' tk=>⟨.str (i++j),H,I.tok _,⟨_,rfl⟩,q⟩) hz
theorem vals1{x:V}{us:List Value}(r:Vals [x] us):∃u,us=[u]∧RelV x u:=by
  cases r with
  | cons r1 r2=>cases r2;exact⟨_,rfl,r1⟩
theorem vals2{x y:V}{us:List Value}(r:Vals [x,y] us):∃u w',us=[u,w']∧RelV x u∧RelV y w':=by
  cases r with
  | cons r1 r2=>
    cases r2 with
    | cons r3 r4=>cases r4;exact⟨_,_,rfl,r1,r3⟩
theorem call_min2(hc:X.calm=true):CallR X (.builtin "min") (fun xs H Q=>∃i j,xs=[.int i,.int j]∧Q (.int (if j < i then j else i)) H):=by
  intro pins s σ H xs us Q I r h
  obtain⟨i,j,rfl,q⟩:=h
  obtain⟨u,w',rfl,⟨t,rfl⟩,⟨t',rfl⟩⟩:=vals2 r
  refine min_two_ints (I.ok.hd hc) fun h' tk k=>⟨_,H,I.kept k,?_,q⟩
  by_cases hj:j < i
  · rw[if_pos hj,if_pos hj];exact⟨_,rfl⟩
  · rw[if_neg hj,if_neg hj];exact⟨_,rfl⟩
def LenV(K:PySem.W.Frag)(x:V)(H:Hp)(n:Nat):Prop:=
  match x with
  | .str y=>y.length≤sizeLine∧n=y.length
  | .byt y=>y.size≤sizeLine∧n=y.size
  | .ref p=>(∃xs,SqL K H p xs∧n=xs.length)∨∃xs,SqT K H p xs∧n=xs.length
  | _=>False
theorem call_len:CallR X (.builtin "len") (fun xs H Q=>∃x n,xs=[x]∧LenV X.K x H n∧Q (.int n) H):=by
  intro pins s σ H xs us Q I r h
  obtain⟨x,n,rfl,e,q⟩:=h
  obtain⟨u,rfl,rx⟩:=vals1 r
  have hl:=line63
  have hs:sizeLine=16777216:=sizeLine_eq
  cases x with
  | str y=>
    obtain⟨t,rfl⟩:=rx
    obtain⟨hy,e'⟩:y.length≤sizeLine∧n=y.length:=e
    subst e'
    exact len_str (by omega) ⟨.int _,H,I.tok _,⟨_,rfl⟩,q⟩
  | byt y=>
    obtain⟨t,rfl⟩:=rx
    obtain⟨hy,e'⟩:y.size≤sizeLine∧n=y.size:=e
    subst e'
    exact PySem.W.len_bytes (by omega) ⟨.int _,H,I.tok _,⟨_,rfl⟩,q⟩
  | ref p=>
    cases rx
    have e':(∃xs,SqL X.K H p xs∧n=xs.length)∨∃xs,SqT X.K H p xs∧n=xs.length:=e
    rcases e' with ⟨xs,hx,e'⟩ | ⟨xs,hx,e'⟩
    · subst e'
      obtain⟨its,r',pl,hz⟩:=I.list hx
      have hlen:=r'.length
      exact Calls.call_len_list pl.isList (by simp only[List.size_toArray];omega) ⟨.int xs.length,H,I.tok _,⟨_,by simp only[List.size_toArray];rw[hlen]⟩,q⟩
    · subst e'
      obtain⟨its,r',pl,hz⟩:=I.tuple hx
      have hlen:=r'.length
      exact len_tuple pl (by simp only[List.size_toArray];omega) ⟨.int xs.length,H,I.tok _,⟨_,by simp only[List.size_toArray];rw[hlen]⟩,q⟩
  | _=>exact(show False from e).elim
end
end L2
namespace L2
open PySem PySem.Spec PyProof.Rows
structure ObjM(h:Heap)(x dx C:Addr)(mA:Str→Option Value):Prop where
  obj:h.get? x=some (PySem.W.instObj C dx)
  ns:h.Ns1 dx mA
  ne:dx≠x
theorem lookIn_ns{h:Heap}{dx:Addr}{mA:Str→Option Value}(n:h.Ns1 dx mA):∃od,h.get? dx=some od∧∀name,PySem.W.lookIn name od=some (mA name):=by
  obtain⟨o,es,ep,ho,hd,hk,_,hm⟩:=n
  refine⟨o,ho,fun name=>?_⟩
  have e:=hm name
  unfold nsFind findBy at e
  rw[← Array.find?_toList]at e
  unfold PySem.W.lookIn
  rw[hd]
  dsimp only
  split
  · rename_i y q
    rw[q]at e
    exact congrArg some e
  · rename_i q
    rw[q]at e
    have a:es.toList.any (·.refKey)=false:=by
      rw[List.any_eq_false]
      intro y hy
      obtain⟨z,t,hkey⟩:=hk y (Array.mem_toList_iff.mp hy)
      simp[DictEntry.refKey,hkey]
    have a':¬es.toList.any (·.refKey)=true:=by rw[a];exact Bool.false_ne_true
    rw[if_neg a']
    exact congrArg some e
theorem ObjM.look{h:Heap}{x dx C:Addr}{mA:Str→Option Value}(I:ObjM h x dx C mA):∃od,PySem.W.InstAt h x (PySem.W.instObj C dx) C (some od)∧∀name,PySem.W.lookIn name od=some (mA name):=
  let⟨od,ho,hl⟩:=lookIn_ns I.ns
  ⟨od,⟨I.obj,rfl,rfl,ho⟩,hl⟩
section
variable{prog:Program}{w:World}{A:Around}{E:Value→Shared→Prop}{s:Shared}{K:PySem.W.Frag}{x dx C f:Addr}{mA:Str→Option Value}{name:Str}{v:Value}
theorem get_meth{pl:Sem Bool}{Q:Value × List Value→Shared→Prop}(X:K.In s.heap)(I:ObjM s.heap x dx C mA)(hg:PySem.W.plainGet K C name=true)
    (hf:PySem.W.findIn K (.ref C) name=some (some (.ref f))) (ht:PySem.W.isFn K (.ref f)=true) (hv:mA name=none) (h:Q (.ref f,[.ref x]) s) :
    wpAny (model prog w) A (getMethod (.ref x) name pl) Q E s:=by
  obtain⟨od,J,hl⟩:=I.look
  exact PySem.W.method_fn X J (PySem.W.plainGet_of hg).1 (PySem.W.plainGet_of hg).2 hf (beq_iff_eq.mp ht) (by show(PySem.W.lookIn name od).map (·.isSome)=some false;rw[hl,hv];rfl) h
theorem make_map0{R:Result→Shared→Prop}(X:K.In s.heap)(hm:PySem.W.makesIn K C=true)
    (hi:PySem.W.findIn K (.ref C) "__init__"=some (some (.builtin "object.__init__")))
    (hb:∀self,PySem.W.Looks (model prog w) s.heap (bindSpecial (.builtin "object.__init__") self) (.builtin "object.__init__",[self]))
    (h:codeAny (model prog w) (A.under (.builtin "type.__call__" ⟨[.ref C],[]⟩)) (.call (.builtin "object.__init__") ⟨[.ref (s.heap.objs.size+1)],[]⟩) (PySem.W.InitBack (s.heap.objs.size+1) R)
      { s with heap:=(s.heap.push PySem.W.emptyDict).push (PySem.W.instObj C s.heap.objs.size) }) :
    codeAny (model prog w) A (.call (.ref C) ⟨[],[]⟩) R s:=by
  obtain⟨hh,g,d,t,os⟩:=s
  exact PySem.W.make_core (PySem.W.makes_of X hm) (PySem.W.looks_findIn X hi) hb (.inr ⟨rfl,rfl⟩) h
end
theorem RelO.some_of{v:V}{o:Option Value}(r:RelO (some v) o):∃u,o=some u∧RelV v u:=by
  cases o with
  | none=>exact(show False from r).elim
  | some u=>exact⟨u,rfl,r⟩
theorem RelO.none_of{o:Option Value}(r:RelO none o):o=none:=by
  cases o with
  | none=>rfl
  | some u=>exact(show False from r).elim
section
variable{P:Program}{w:World}{H H':Hp}{h h':Heap}{a C dx:Addr}{fs fs':List (Str × V)}
theorem ins_get(hok:HOk P w H h)(e:H a=some (.ins C dx fs)):∃mA,ObjM h a dx C mA∧(∀f,RelO (fs.lookup f) (mA f))∧PySem.Within mA (fs.map (·.1))∧fs.length≤1000∧H dx=some (.own a):=by
  obtain⟨d,z,ne,ob,mA,n,r,q⟩:=(show ObjOk P w H h a (.ins C dx fs)from hok a _ e)
  exact⟨mA,⟨ob,n,ne⟩,r,q,z,d⟩
end
structure Cls(K:PySem.W.Frag)(C:Addr):Prop where
  pg:PySem.W.plainGet K C Str.empty=true
  hd:PySem.W.hasDictIn K C=true
  po:PySem.W.plainOver K C=true
  sa:PySem.W.findIn K (.ref C) "__setattr__"=some (some (.builtin "object.__setattr__"))
theorem Cls.get{K:PySem.W.Frag}{C:Addr}(c:Cls K C)(f:Str):PySem.W.plainGet K C f=true:=c.pg
structure Con(K:PySem.W.Frag)(C:Addr)(f:Str)(v:V)(u:Value):Prop where
  at_:PySem.W.findIn K (.ref C) f=some (some u)
  rel:RelV v u
  get:PySem.W.specialIn K u "__get__"=some none
  cp:PySem.W.copiedNames.contains f=false
structure Meth(K:PySem.W.Frag)(C:Addr)(m:Str)(f:Addr):Prop where
  at_:PySem.W.findIn K (.ref C) m=some (some (.ref f))
  fn:PySem.W.isFn K (.ref f)=true
  kp:PySem.W.keepIn K (.ref f)=true
section
variable{X:Cx}{pins:List (Addr × Obj)}{σ:St}{H:Hp}{s:Shared}{a C dx:Addr}{fs:List (Str × V)}{f:Str}{v:V}{A:Around}{E:Value→Shared→Prop}
theorem getmeth_ok{m:Str}{g:Addr}{pl:Sem Bool}{Q:Value × List Value→Shared→Prop}(I:Inv X pins σ H s)(e:H a=some (.ins C dx fs))(c:Cls X.K C)(k:Meth X.K C m g)(l:fs.lookup m=none)
    (h:Q (.ref g,[.ref a]) s):wpAny (model X.prog X.w) A (getMethod (.ref a) m pl) Q E s:=by
  obtain⟨mA,O,r,_,_,_⟩:=ins_get I.hok e
  have hn:mA m=none:=RelO.none_of (by rw[← l];exact r m)
  exact get_meth I.kIn O (c.get m) k.at_ k.fn hn h
theorem Inv.made(I:Inv X pins σ H s):Inv X pins σ (upd (upd H s.heap.objs.size (.own (s.heap.objs.size+1))) (s.heap.objs.size+1) (.ins C s.heap.objs.size []))
    { s with heap:=(s.heap.push PySem.W.emptyDict).push (PySem.W.instObj C s.heap.objs.size) }:=by
  have e1:(s.heap.push PySem.W.emptyDict).get? s.heap.objs.size=some PySem.W.emptyDict:=Heap.get?_push_size s.heap rfl
  have e2:((s.heap.push PySem.W.emptyDict).push (PySem.W.instObj C s.heap.objs.size)).get? (s.heap.objs.size+1)=some (PySem.W.instObj C s.heap.objs.size):=by
    have:=Heap.get?_push_size (s.heap.push PySem.W.emptyDict) (o:=PySem.W.instObj C s.heap.objs.size) rfl
    rwa [Heap.size_push]at this
  have e3:(s.heap.push PySem.W.emptyDict).Ns s.heap.objs.size (fun _=>none):=⟨PySem.W.emptyDict,#[],_,e1,rfl,(fun e he=>absurd he (by simp)),fun _=>rfl⟩
  have I1:=I.laid (a:=s.heap.objs.size) (o:=.own (s.heap.objs.size+1)) (h':=s.heap.push PySem.W.emptyDict) (t':=s.toks) (fun b u q=>Heap.get?_push_of_some _ q) (Nat.le_refl _) ⟨_,e1⟩
  refine I1.laid (a:=s.heap.objs.size+1) (o:=.ins C s.heap.objs.size []) (t':=s.toks) (fun b u q=>Heap.get?_push_of_some _ q) (Nat.le_of_eq (Heap.size_push _ _)) ?_
  have ne:s.heap.objs.size≠s.heap.objs.size+1:=Nat.ne_of_lt (Nat.lt_succ_self _)
  refine⟨by rw[upd_ne ne,upd_same],Nat.zero_le _,ne,e2,fun _=>none,(Heap.Ns1.of_empty e3).at fun o q=>Heap.get?_push_of_some _ q,fun _=>True.intro,fun y hy=>absurd rfl hy⟩
end
section
variable{X:Cx}{o e value:Expr}{f:Str}{pos pos' tpos:Pos}{ta tv:TE}
end
section
variable{X:Cx}{pins:List (Addr × Obj)}{σ:St}{H:Hp}{s:Shared}{A:Around}{E:Value→Shared→Prop}{Q:Value→Shared→Prop}{c:Value}{b:Bool}
inductive TyOf(K:PySem.W.Frag)(H:Hp):V→Value→Prop where
  | non:TyOf K H .non (.type "NoneType")
  | bl (x:Bool):TyOf K H (.bl x) (.type "bool")
  | int (i:Int):TyOf K H (.int i) (.type "int")
  | str (x:Str):TyOf K H (.str x) (.type "str")
  | flt (x:UInt64):TyOf K H (.flt x) (.type "float")
  | lst {a:Addr} {xs:List V} (e:H a=some (.lst xs)):TyOf K H (.ref a) (.type "list")
  | frz {a:Addr} {o:Obj} {xs:List V} (e:H a=some (.frz o (.lst xs))):TyOf K H (.ref a) (.type "list")
  | tup {a:Addr} {xs:List V} (e:H a=some (.tup xs)):TyOf K H (.ref a) (.type "tuple")
  | dK {a:Addr} {kvs:List (Key × V)} (e:H a=some (.dK kvs)):TyOf K H (.ref a) (.type "dict")
  | dT {a:Addr} {kvs:List (List Key × V)} (e:H a=some (.dT kvs)):TyOf K H (.ref a) (.type "dict")
  | ins {a C dx:Addr} {fs:List (Str × V)} (e:H a=some (.ins C dx fs)) (cl:Cls K C) (ha:PySem.W.findIn K (.ref C) "__class__"=some (some (.builtin "object.__class__")))
      (hn:PySem.W.specialIn K (.builtin "object.__class__") "__get__"=some (some (.builtin "getset_descriptor.__get__"))) (htk:PySem.W.takesIn K (.builtin "object.__class__")=some true)
      (hm:PySem.W.mroIn K C (.type "object")=some true):TyOf K H (.ref a) (.ref C)
theorem isinst_ok{x:V}{u t:Value}(I:Inv X pins σ H s)(rx:RelV x u)(ty:TyOf X.K H x t)(e:PySem.W.kitOne X.K t c=some b)(h:∀tk,Q (.bool b) { s with toks:=tk }) :
    wpAny (model X.prog X.w) A (call (.builtin "isinstance") [u,c]) Q E s:=by
  cases ty with
  | non=>cases (show u=Value.none from rx);exact PySem.W.kia_one PySem.W.kitx_none I.kIn True.intro e (fun z=>nomatch z) h
  | bl y=>cases (show u=Value.bool y from rx);exact PySem.W.kia_one PySem.W.kitx_bool I.kIn True.intro e (fun z=>nomatch z) h
  | int i=>obtain⟨t,q⟩:=(show ∃t,u=Value.int i t from rx);cases q;exact PySem.W.kia_one PySem.W.kitx_int I.kIn True.intro e (fun z=>nomatch z) h
  | str y=>obtain⟨t,q⟩:=(show ∃t,u=Value.str y t from rx);cases q;exact PySem.W.kia_one PySem.W.kitx_str I.kIn True.intro e (fun z=>nomatch z) h
  | flt y=>obtain⟨t,q⟩:=(show ∃t,u=Value.float y t from rx);cases q;exact PySem.W.kia_one PySem.W.kitx_float I.kIn True.intro e (fun z=>nomatch z) h
  | @lst a xs ea=>
    cases (show u=Value.ref a from rx)
    obtain⟨_,_,n,_,h1⟩:=(show ObjOk X.prog X.w H s.heap a (.lst xs)from I.hok a _ ea)
    exact PySem.W.kia_one PySem.W.kitx_list I.kIn ⟨_,h1,rfl⟩ e (fun z=>nomatch z) h
  | @frz a ob xs ea=>
    cases (show u=Value.ref a from rx)
    obtain⟨_,_,_,n,_,h1⟩:=(show ObjOk X.prog X.w H s.heap a (.frz ob (.lst xs))from I.hok a _ ea)
    exact PySem.W.kia_one PySem.W.kitx_list I.kIn ⟨_,h1,rfl⟩ e (fun z=>nomatch z) h
  | @tup a xs ea=>
    cases (show u=Value.ref a from rx)
    obtain⟨_,_,_,p,_⟩:=(show ObjOk X.prog X.w H s.heap a (.tup xs)from I.hok a _ ea)
    obtain⟨o,h1,h2,_⟩:=p
    exact PySem.W.kia_one PySem.W.kitx_tuple I.kIn ⟨o,h1,h2⟩ e (fun z=>nomatch z) h
  | @dK a kvs ea=>
    cases (show u=Value.ref a from rx)
    obtain⟨_,_,vs,_,p⟩:=(show ObjOk X.prog X.w H s.heap a (.dK kvs)from I.hok a _ ea)
    obtain⟨o,es,ep,h1,h2,_⟩:=p
    exact PySem.W.kia_one PySem.W.kitx_dict I.kIn ⟨o,h1,h2.1⟩ e (fun z=>nomatch z) h
  | @dT a kvs ea=>
    cases (show u=Value.ref a from rx)
    obtain⟨_,_,xs,_,o,es,ep,h1,h2,_⟩:=(show ObjOk X.prog X.w H s.heap a (.dT kvs)from I.hok a _ ea)
    exact PySem.W.kia_one PySem.W.kitx_dict I.kIn ⟨o,h1,h2.1⟩ e (fun z=>nomatch z) h
  | @ins a C dx fs ea cl ha hn htk hm=>
    cases (show u=Value.ref a from rx)
    obtain⟨mA,O,_⟩:=ins_get I.hok ea
    obtain⟨od,J,_⟩:=O.look
    exact PySem.W.kia_one (PySem.W.kitx_own (cl.get _) cl.hd ha hn htk hm) I.kIn J e (fun z=>nomatch z) h
end
end L2
namespace L2
open PySem PySem.Spec PyProof.Rows
structure Room(k:Nat)(A:Around):Prop where
  hd:A.handled=none
  dp:A.depth+3 * k+5 < recursionLimit
  un:A.units+16 * k+200 < cLine
theorem Room.mono{j k:Nat}{A:Around}(r:Room k A)(h:j≤k):Room j A:=⟨r.hd,by have:=r.dp;omega,by have:=r.un;omega⟩
theorem Room.deeper{k:Nat}{A:Around}(r:Room (k+1) A)(env:Env):Room k (A.deeper env):=
  ⟨r.hd,by have:=r.dp;show A.depth+1+3 * k+5 < _;omega,by have:=r.un;show A.units+3+16 * k+200 < _;omega⟩
theorem Room.in1{k:Nat}{A:Around}(r:Room (k+1) A):Room k A.in1:=
  ⟨r.hd,by have:=r.dp;show A.depth+3 * k+5 < _;omega,by have:=r.un;show A.units+1+16 * k+200 < _;omega⟩
theorem make_depth{A:Around}{C:Addr}{us:List Value}{kw:List (Str × Value)}:(A.under (.builtin "type.__call__" ⟨.ref C::us,kw⟩)).depth=A.depth+1:=by
  first | rfl | simp[Around.under,Code.weight,Code.isCreation,Code.isGuard,Code.isCaller,Code.frames,Code.isFrame,guardIds]
theorem make_units{A:Around}{C:Addr}{us:List Value}{kw:List (Str × Value)}:(A.under (.builtin "type.__call__" ⟨.ref C::us,kw⟩)).units=A.units+1:=by
  first | rfl | simp[Around.under,Code.cUnits,Code.frames,Code.isFrame]
theorem Room.make{k:Nat}{A:Around}(r:Room (k+1) A)(C:Addr)(us:List Value)(kw:List (Str × Value)):Room k (A.under (.builtin "type.__call__" ⟨.ref C::us,kw⟩)):=
  ⟨r.hd,by have:=r.dp;rw[make_depth];omega,by have:=r.un;rw[make_units];omega⟩
theorem Room.depth{k:Nat}{A:Around}(r:Room k A):A.depth < recursionLimit:=by have:=r.dp;omega
theorem Room.units{k:Nat}{A:Around}(r:Room k A):A.units+64 < cLine:=by have:=r.un;omega
def tNil:TA:=fun _ H Q=>Q [] H
def tCons(ta:TE)(tr:TA):TA:=fun σ H Q=>ta σ H fun x H1=>tr σ H1 fun xs H2=>Q (x::xs) H2
section
variable{X:Cx}{e:Expr}{es:List Expr}{te:TE}{t:TA}{pos:Pos}
theorem pa_nil:PA X [] tNil:=fun _ _ _ _ H Q I h=>Calls.spliced_nil ⟨[],H,I,.nil,h⟩
theorem pa_cons(ha:PE X e te)(hr:PA X es t)(hs:starEach (e::es) X.env=(false,eval e X.env)::starEach es X.env:=by rfl):PA X (e::es) (tCons te t):=by
  intro pos pins s σ H Q I h
  rw[hs]
  show wpAny _ _ (spliced ((false,eval e X.env)::backTo pos (starEach es X.env))) _ _ s
  refine Calls.spliced_cons (thn (ha pins s σ H _ I h) fun u s1 ⟨x,H1,I1,r1,q1⟩=>?_)
  exact thn (hr pos pins s1 σ H1 _ I1 q1) fun us s2 ⟨xs,H2,I2,r2,q2⟩=>⟨x::xs,H2,I2,.cons r1 r2,q2⟩
def tTup(t:TA):TE:=fun σ H Q=>t σ H fun xs H1=>xs.length≤sizeLine∧∀p,H1 p=none→Q (.ref p) (upd H1 p (.tup xs))
def tLst(t:TA):TE:=fun σ H Q=>t σ H fun xs H1=>xs.length≤sizeLine∧∀p,H1 p=none→Q (.ref p) (upd H1 p (.lst xs))
theorem pe_tup{x1}(h:PA X es t):PE X (.Tuple es x1 pos) (tTup t):=by
  intro pins s σ H Q I hq
  refine wpAny_Tuple_spliced (thn (h pos pins s σ H _ I hq) fun us s1 ⟨xs,H1,I1,r,z,q⟩=>⟨by rw[← r.length];exact z,?_⟩)
  have hf:H1 s1.heap.objs.size=none:=I1.hok.fresh (Nat.le_refl _)
  refine⟨.ref s1.heap.objs.size,upd H1 s1.heap.objs.size (.tup xs),I1.laid (t':=s1.toks) (fun b u e=>Heap.get?_push_of_some _ e) (Nat.le_refl _) ?_,rfl,q _ hf⟩
  exact⟨z,us,r,⟨_,Heap.get?_push_size _ rfl,rfl,_,rfl⟩,fun _=>⟨_,Heap.get?_push_size _ rfl,rfl⟩⟩
theorem pe_lst(h:PA X es t):PE X (.List es pos) (tLst t):=by
  intro pins s σ H Q I hq
  refine wpAny_List_spliced (thn (h pos pins s σ H _ I hq) fun us s1 ⟨xs,H1,I1,r,z,q⟩=>⟨by rw[← r.length];exact z,?_⟩)
  have hf:H1 s1.heap.objs.size=none:=I1.hok.fresh (Nat.le_refl _)
  refine⟨.ref s1.heap.objs.size,upd H1 s1.heap.objs.size (.lst xs),I1.laid (t':=s1.toks) (fun b u e=>Heap.get?_push_of_some _ e) (Nat.le_refl _) ?_,rfl,q _ hf⟩
  exact⟨z,us,0,r,Heap.get?_push_size _ rfl⟩
end
abbrev Sp:=List V→Hp→VK→XK→Prop
abbrev CXT:=List Env→Hp→Shared→XK→Value→Shared→Prop
structure Env0(P:Program)(w:World)(K:PySem.W.Frag)(mg:Str→Option Value)(base:Heap)(A:Around)(outer:List Env)(s:Shared)(H:Hp):Prop where
  frames:A.frames=some outer
  mod:Mod K mg base
  bs:∀b o,base.get? b=some o→s.heap.get? b=some o∧H b=none
  bsz:base.objs.size≤s.heap.objs.size
  funs:s.heap.FunFrames base outer
  frf:∀b∈frs outer,H b=none
  hok:HOk P w H s.heap
  bare:AllBare s.gens
def CE(outer:List Env)(P:Program)(w:World)(H:Hp)(s:Shared)(Q:VK)(u:Value)(s':Shared):Prop:=
  ∃v H',s'.os=s.os∧AllBare s'.gens∧Un (frs outer) [] H H' s.heap s'.heap∧HOk P w H' s'.heap∧RelV v u∧Q v H'
def CR(CX:CXT)(outer:List Env)(P:Program)(w:World)(H:Hp)(s:Shared)(Q:VK)(E:XK)(r:Result)(s':Shared):Prop:=
  match r with
  | .ok (.ret u)=>CE outer P w H s Q u s'
  | .ok _=>False
  | .error e=>CX outer H s E e s'
structure FnOk(P:Program)(w:World)(K:PySem.W.Frag)(mg:Str→Option Value)(base:Heap)(CX:CXT)(k:Nat)(f:Addr)(fd:FuncData)(ps:List Str)(sp:Sp):Prop where
  len:∀vs H Q E,sp vs H Q E→vs.length=ps.length
  run:∀(A:Around) (outer:List Env) (s:Shared) (H:Hp) (args:Args) (us:List Value) (vs:List V) (Q:VK) (E:XK),Room k A→Env0 P w K mg base A outer s H→BindsTo s fd args (ps.zip us)→Vals vs us→sp vs H Q E→
    codeAny (model P w) A (.call (.ref f) args) (CR CX outer P w H s Q E) s
theorem FnOk.mono{P:Program}{w:World}{K:PySem.W.Frag}{mg:Str→Option Value}{base:Heap}{CX:CXT}{j k:Nat}{f:Addr}{fd:FuncData}{ps:List Str}{sp:Sp}(F:FnOk P w K mg base CX j f fd ps sp)(h:j≤k) :
    FnOk P w K mg base CX k f fd ps sp:=⟨F.len,fun A outer s H args us vs Q E hr=>F.run A outer s H args us vs Q E (hr.mono h)⟩
theorem FnOk.imp{P:Program}{w:World}{K:PySem.W.Frag}{mg:Str→Option Value}{base:Heap}{CX:CXT}{k:Nat}{f:Addr}{fd:FuncData}{ps:List Str}{sp sp':Sp}(F:FnOk P w K mg base CX k f fd ps sp)
    (h:∀vs H Q E,sp' vs H Q E→sp vs H Q E):FnOk P w K mg base CX k f fd ps sp':=
  ⟨fun vs H Q E q=>F.len vs H Q E (h _ _ _ _ q),fun A outer s H args us vs Q E hr he hb hv hs=>F.run A outer s H args us vs Q E hr he hb hv (h _ _ _ _ hs)⟩
theorem Env0.make{P:Program}{w:World}{K:PySem.W.Frag}{mg:Str→Option Value}{base:Heap}{A:Around}{outer:List Env}{s:Shared}{H:Hp}(e:Env0 P w K mg base A outer s H)(C:Addr)(us:List Value)(kw:List (Str × Value)) :
    Env0 P w K mg base (A.under (.builtin "type.__call__" ⟨.ref C::us,kw⟩)) outer s H:=⟨by first | exact e.frames | (simpa [Around.under,Code.envs,Code.isFrame,pushEnvs] using e.frames),e.mod,e.bs,e.bsz,e.funs,e.frf,e.hok,e.bare⟩
theorem Env0.in1{P:Program}{w:World}{K:PySem.W.Frag}{mg:Str→Option Value}{base:Heap}{A:Around}{outer:List Env}{s:Shared}{H:Hp}(e:Env0 P w K mg base A outer s H) :
    Env0 P w K mg base A.in1 outer s H:=⟨e.frames,e.mod,e.bs,e.bsz,e.funs,e.frf,e.hok,e.bare⟩
section
variable{X:Cx}{pins:List (Addr × Obj)}{σ:St}{H:Hp}{s s':Shared}
theorem Inv.env0(I:Inv X pins σ H s):Env0 X.prog X.w X.K X.mg X.base X.A X.stack s H:=
  ⟨I.ok.frames,I.ok.mod,I.bs,Nat.le_trans I.ok.bsz I.sz,I.stack,I.stkFree,I.hok,I.bare⟩
theorem Inv.after{Q:VK}{u:Value}(I:Inv X pins σ H s)(h:CE X.stack X.prog X.w H s Q u s'):EP X pins σ Q u s':=by
  obtain⟨v,H',os,bare,un,hok,r,q⟩:=h
  obtain⟨hh,g,d,t,os'⟩:=s'
  obtain rfl:os'=s.os:=os
  exact⟨v,H',I.call (h':=hh) (g':=g) (d':=d) (t':=t) (ch:=[]) un hok bare (fun b z=>absurd z (by simp)),r,q⟩
end
def tCall(sp:Sp)(dvs:List V)(E:XK)(t:TA):TE:=fun σ H Q=>t σ H fun vs H1=>sp (vs++dvs) H1 Q E
def tMeth(C:Addr)(m:Str)(sp:Sp)(dvs:List V)(E:XK)(ta:TE)(t:TA):TE:=fun σ H Q=>ta σ H fun x H1=>∃a dx fs,x=.ref a∧H1 a=some (.ins C dx fs)∧fs.lookup m=none∧
  t σ H1 fun vs H2=>sp (x::(vs++dvs)) H2 Q E
def Binds(K:PySem.W.Frag)(fd:FuncData)(ps:List Str)(ds:List Value):Prop:=
  ∀(s:Shared) (us:List Value),K.In s.heap→(us++ds).length=ps.length→BindsTo s fd ⟨us,[]⟩ (ps.zip (us++ds))
theorem Binds.all{K:PySem.W.Frag}{fd:FuncData}{ps:List Str}(h:∀us:List Value,us.length=ps.length→bindArgs fd ⟨us,[]⟩=pure (ps.zip us)):Binds K fd ps []:=fun s us _ hl=>by
  rw[List.append_nil]at hl ⊢
  exact .of_eq (h us hl)
def Passes(CX:CXT)(X:Cx)(E:XK):Prop:=∀(pins:List (Addr × Obj)) (σ:St) (H:Hp) (s:Shared) (e:Value) (s':Shared),Inv X pins σ H s→CX X.stack H s E e s'→X.xe e s'
section
variable{X:Cx}{CX:CXT}{k:Nat}{f C:Addr}{fd:FuncData}{ps:List Str}{sp:Sp}{dvs:List V}{ds:List Value}{E:XK}{x m:Str}{p pos apos:Pos}{e o:Expr}{es:List Expr}{ta:TE}{t:TA}
theorem run_fn{pins:List (Addr × Obj)}{σ:St}{H:Hp}{s:Shared}{Q:VK}{us:List Value}{vs:List V}(F:FnOk X.prog X.w X.K X.mg X.base CX k f fd ps sp)(hr:Room k X.A)(hb:Binds X.K fd ps ds)(hd:Vals dvs ds)(hx:Passes CX X E)
    (I:Inv X pins σ H s) (r:Vals vs us) (h:sp (vs++dvs) H Q E):wpAny (model X.prog X.w) X.A (call (.ref f) us) (EP X pins σ Q) X.xe s:=by
  have r2:Vals (vs++dvs) (us++ds):=r.append hd
  have hl:(us++ds).length=ps.length:=by rw[← r2.length];exact F.len _ _ _ _ h
  refine wpAny_call (codeAny_mono (F.run X.A X.stack s H ⟨us,[]⟩ (us++ds) (vs++dvs) Q E hr I.env0 (hb s us I.kIn hl) r2 h) fun r s' hq=>?_)
  cases r with
  | error e=>exact hx pins σ H s e s' I hq
  | ok fl=>
    cases fl with
    | ret u=>exact I.after hq
    | next=>exact False.elim hq
    | brk=>exact False.elim hq
    | cont=>exact False.elim hq
theorem pe_call(F:FnOk X.prog X.w X.K X.mg X.base CX k f fd ps sp)(hr:Room k X.A)(hg:Gl X x)(hm:X.mg x=some (.ref f))(hk:PySem.W.keepIn X.K (.ref f)=true)(hb:Binds X.K fd ps ds)(hd:Vals dvs ds)(hx:Passes CX X E)
    (ha:PA X (e::es) t) (hdb:(x == ("__debug__":Str))=false:=by decide) (he:starEach (e::es) X.env=(false,eval e X.env)::starEach es X.env:=by rfl) (hpl:(backTo pos (starEach es X.env)).any (·.1)=false:=by rfl) :
    PE X (.Call (.Name x p) (e::es) [] pos) (tCall sp dvs E t):=by
  intro pins s σ H Q I h
  refine wpAny_Call_Name_kw (ld_glob I hg hm ?_ hdb)
  refine PySem.W.callWith_K (h₀:=X.base) I.ok.mod.kin hk (thn (ha pos pins s σ H _ I h) fun us s1 ⟨vs,H1,I1,r,q⟩=>⟨I1.kIn,?_⟩) he hpl
  exact run_fn F hr hb hd hx I1 r q
theorem pe_meth{pl:Sem Bool}(he:PE X o ta)(c:Cls X.K C)(hm:Meth X.K C m f)(F:FnOk X.prog X.w X.K X.mg X.base CX k f fd ps sp)(hr:Room k X.A)(hb:Binds X.K fd ps ds)(hd:Vals dvs ds)(hx:Passes CX X E)(ha:PA X (e::es) t)
    (hst:starEach (e::es) X.env=(false,eval e X.env)::starEach es X.env:=by rfl) (hpl:(backTo pos (starEach es X.env)).any (·.1)=false:=by rfl)
    (ht:eval (.Call (.Attribute o m apos) (e::es) [] pos) X.env=(do
      let ov ← eval o X.env
      standAt apos.atName
      let(f,first) ← holding [ov] (getMethod ov m pl)
      callWith pos f first (backTo pos (starEach (e::es) X.env)) (backToKw pos (keywordEach [] X.env))):=by rfl) :
    PE X (.Call (.Attribute o m apos) (e::es) [] pos) (tMeth C m sp dvs E ta t):=by
  intro pins s σ H Q I h
  refine PySem.W.methodCall_KW (pl:=pl) (thn (he pins s σ H _ I h) fun u s1 ⟨x,H1,I1,rx,a,dx,fs,ex,ea,l,q⟩=>?_) ht
  subst ex
  obtain rfl:u=Value.ref a:=rx
  refine getmeth_ok I1 ea c hm l ?_
  refine PySem.W.callWith_K (first:=[.ref a]) (h₀:=X.base) I.ok.mod.kin hm.kp (thn (ha pos pins s1 σ H1 _ I1 q) fun us s2 ⟨vs,H2,I2,r,q2⟩=>⟨I2.kIn,?_⟩) hst hpl
  exact run_fn (us:=.ref a::us) (vs:=.ref a::vs) F hr hb hd hx I2 (.cons rfl r) q2
theorem pe_meth0{pl:Sem Bool}(he:PE X o ta)(c:Cls X.K C)(hm:Meth X.K C m f)(F:FnOk X.prog X.w X.K X.mg X.base CX k f fd ps sp)(hr:Room k X.A)(hb:Binds X.K fd ps ds)(hd:Vals dvs ds)(hx:Passes CX X E)
    (ht:eval (.Call (.Attribute o m apos) [] [] pos) X.env=(do
      let ov ← eval o X.env
      standAt apos.atName
      let(f,first) ← holding [ov] (getMethod ov m pl)
      callWith pos f first (backTo pos (starEach [] X.env)) (backToKw pos (keywordEach [] X.env))):=by rfl) :
    PE X (.Call (.Attribute o m apos) [] [] pos) (tMeth C m sp dvs E ta tNil):=by
  intro pins s σ H Q I h
  refine PySem.W.methodCall_KW (pl:=pl) (thn (he pins s σ H _ I h) fun u s1 ⟨x,H1,I1,rx,a,dx,fs,ex,ea,l,q⟩=>?_) ht
  subst ex
  obtain rfl:u=Value.ref a:=rx
  refine getmeth_ok I1 ea c hm l ?_
  exact PySem.W.callWith_K0 (first:=[.ref a]) I1.kIn hm.kp (run_fn (us:=[.ref a]) (vs:=[.ref a]) F hr hb hd hx I1 (.cons rfl .nil) q)
structure Mk(K:PySem.W.Frag)(C f:Addr):Prop where
  makes:PySem.W.makesIn K C=true
  init:PySem.W.findIn K (.ref C) "__init__"=some (some (.ref f))
  fn:PySem.W.isFn K (.ref f)=true
  kp:PySem.W.keepIn K (.ref C)=true
end
section
variable{X:Cx}{CX:CXT}{k:Nat}{f C:Addr}{fd:FuncData}{ps ks:List Str}{sp:Sp}{E:XK}{x m:Str}{p pos apos kpos:Pos}{e o:Expr}{es:List Expr}{kws:List Keyword}{te ta:TE}{t tk:TA}{nm:Option Str}
structure KBinds(K:PySem.W.Frag)(fd:FuncData)(ps ks:List Str)(g:List Value→List Value→List Value)(gV:List V→List V→List V):Prop where
  to:∀(s:Shared) (us ws:List Value),K.In s.heap→(g us ws).length=ps.length→BindsTo s fd ⟨us,ks.zip ws⟩ (ps.zip (g us ws))
  rel:∀{vs:List V} {us:List Value} {zs:List V} {ws:List Value},Vals vs us→Vals zs ws→Vals (gV vs zs) (g us ws)
variable{g:List Value→List Value→List Value}{gV:List V→List V→List V}
end
structure FnScope(N P:List Str)(sc:Scope):Prop where
  kind:sc.kind=.function
  co:sc.isCoroutine=false
  gen:sc.isGenerator=false
  nd:N.Nodup
  pre:N.take P.length=P
  par:∀x∈P,sc.names.lookup x=some .local∨sc.names.lookup x=some .cell
  nofree:∀y∈sc.names,y.2≠.free
theorem bindL_out{kindOf:Str→Option NameKind}{x:Str}:∀{binds:List (Str × Value)} {m:Str→Option Value},(∀v,(x,v) ∉ binds)→bindL kindOf binds m x=m x
  | [],_,_=>rfl
  | (n,v)::r,m,h=>by
    unfold bindL
    rw[bindL_out fun w hw=>h w (List.mem_cons_of_mem _ hw)]
    split
    · have:x≠n:=by rintro rfl;exact h v List.mem_cons_self
      simp[this]
    · rfl
theorem bindC_out{kindOf:Str→Option NameKind}{x:Str}:∀{binds:List (Str × Value)} {m:Str→Option Value},(∀v,(x,v) ∉ binds)→bindC kindOf binds m x=m x
  | [],_,_=>rfl
  | (n,v)::r,m,h=>by
    unfold bindC
    rw[bindC_out fun w hw=>h w (List.mem_cons_of_mem _ hw)]
    split
    · rfl
    · have:x≠n:=by rintro rfl;exact h v List.mem_cons_self
      simp[this]
theorem bindL_get{kindOf:Str→Option NameKind}{x:Str}{v:Value}:∀{P:List Str} {vs:List Value} {i:Nat} {m:Str→Option Value},P.Nodup→P[i]? = some x→vs[i]? = some v→kindOf x=some .local→
    bindL kindOf (P.zip vs) m x=some v
  | [],_,_,_,_,h,_,_=>by simp at h
  | _::_,[],_,_,_,_,h,_=>by simp at h
  | p::P,w::vs,0,m,nd,h1,h2,hk=>by
    simp at h1 h2;subst h1;subst h2
    show bindL kindOf ((p,w)::P.zip vs) m p=_
    unfold bindL
    rw[bindL_out fun v hv=>(List.nodup_cons.mp nd).1 (List.of_mem_zip hv).1,if_pos hk]
    simp
  | p::P,w::vs,i+1,m,nd,h1,h2,hk=>by
    show bindL kindOf ((p,w)::P.zip vs) m x=_
    unfold bindL
    exact bindL_get (i:=i) (List.nodup_cons.mp nd).2 (by simpa using h1) (by simpa using h2) hk
theorem bindC_get{kindOf:Str→Option NameKind}{x:Str}{v:Value}:∀{P:List Str} {vs:List Value} {i:Nat} {m:Str→Option Value},P.Nodup→P[i]? = some x→vs[i]? = some v→kindOf x≠some .local→
    bindC kindOf (P.zip vs) m x=some v
  | [],_,_,_,_,h,_,_=>by simp at h
  | _::_,[],_,_,_,_,h,_=>by simp at h
  | p::P,w::vs,0,m,nd,h1,h2,hk=>by
    simp at h1 h2;subst h1;subst h2
    show bindC kindOf ((p,w)::P.zip vs) m p=_
    unfold bindC
    rw[bindC_out fun v hv=>(List.nodup_cons.mp nd).1 (List.of_mem_zip hv).1,if_neg hk]
    simp
  | p::P,w::vs,i+1,m,nd,h1,h2,hk=>by
    show bindC kindOf ((p,w)::P.zip vs) m x=_
    unfold bindC
    exact bindC_get (i:=i) (List.nodup_cons.mp nd).2 (by simpa using h1) (by simpa using h2) hk
def start(N:List Str)(vs:List V):St:=vs.map some++List.replicate (N.length - vs.length) none
def cxOf(CX:CXT)(P:Program)(w:World)(K:PySem.W.Frag)(mg:Str→Option Value)(base:Heap)(N:List Str)(qual:Str)(scope:Scope)(f:Addr)(cd:Value)(A:Around)(outer:List Env)(s:Shared)(H:Hp)(E:XK):Cx where
  prog:=P
  w:=w
  K:=K
  mg:=mg
  base:=base
  A:=A.deeper (envOfC qual scope s.heap.objs.size f cd)
  N:=N
  s₀:=s
  H₀:=H
  env:=envOfC qual scope s.heap.objs.size f cd
  outer:=outer
  stack:=envOfC qual scope s.heap.objs.size f cd::outer
  ex:=[]
  calm:=true
  fn:=fun _=>true
  pn:=[]
  xe:=fun e s'=>wpAny (model P w) (A.deeper (envOfC qual scope s.heap.objs.size f cd)) (leaving (envOfC qual scope s.heap.objs.size f cd) e) (fun _ s''=>CX outer H s E e s'') (fun e' s''=>CX outer H s E e' s'') s'
theorem cell_has{sc:Scope}{n:Nat}{x:Str}(h:sc.names.lookup x=some .cell):∃c,(cellsFrom n sc.names []).lookup x=some c:=by
  have q:=PySem.W.cellsFrom_some sc.names n [] (.inl h)
  exact Option.isSome_iff_exists.mp q
theorem inv_start{CX:CXT}{P:Program}{w:World}{K:PySem.W.Frag}{mg:Str→Option Value}{base:Heap}{N ps:List Str}{qual:Str}{scope:Scope}{f:Addr}{cd:Value}{A:Around}{outer:List Env}{s s1:Shared}{H:Hp}{E:XK}{us:List Value}{vs:List V}
    (S:FnScope N ps scope) (hd:A.handled=none) (e0:Env0 P w K mg base A outer s H) (hl:vs.length=ps.length) (r:Vals vs us)
    (x:InCallC s s.heap.objs.size (bindL (envOfC qual scope s.heap.objs.size f cd).kindOf (ps.zip us) fun _=>none) (cellsFrom (s.heap.objs.size+1) scope.names []) (bindC (envOfC qual scope s.heap.objs.size f cd).kindOf (ps.zip us) fun _=>none) s1) :
    Inv (cxOf CX P w K mg base N qual scope f cd A outer s H E) [] (start N vs) H s1:=by
  have hpl:ps.length≤N.length:=by have:=congrArg List.length S.pre;rw[List.length_take]at this;omega
  obtain⟨h1,tk,rfl,hk⟩:=x.done
  have noA:∀b:Addr,b ∉ (cxOf CX P w K mg base N qual scope f cd A outer s H E).ex:=fun b z=>absurd (show b∈([]:List Addr)from z) (by simp)
  refine⟨⟨e0.mod,S.kind,rfl,rfl,Nat.le_refl _,fun y z c h1 h2=>?_,fun y hy=>?_,fun y c _ h=>?_,fun _=>hd,Around.frames_deeper e0.frames,.inr ⟨rfl,rfl⟩,fun b z=>absurd z (noA b),e0.bs,e0.bsz,fun b _ _=>noA b,fun b z=>absurd z (noA b),e0.funs,e0.frf⟩,
    rfl,e0.bare,Un.kept hk,⟨_,x.toInCall.ns,fun i y v h1 h2 h3=>?_⟩,fun y c h=>⟨_,x.cell y c h⟩,e0.hok.fresh (Nat.le_refl _),fun y c h=>?_,fun p hp=>absurd (show p∈([]:List (Addr × Obj))from hp) (by simp),e0.hok.kept hk,?_⟩
  · exact name_of_addr x.apart (PySem.mem_of_lookup h1) (PySem.mem_of_lookup h2)
  · have hy:scope.names.lookup y=some .cell∨scope.names.lookup y=some .free:=hy
    rcases hy with hy | hy
    · exact cell_has hy
    · exact absurd rfl (S.nofree _ (PySem.mem_of_lookup hy))
  · exact Nat.le_of_lt (x.above y c (PySem.mem_of_lookup h))
  · have hi:i < vs.length:=by
      unfold start at h2
      by_cases hi:i < vs.length
      · exact hi
      · rw[List.getElem?_append_right (by simpa using hi)]at h2
        rw[List.getElem?_replicate]at h2
        split at h2 <;>cases h2
    have ha:vs[i]? = some v:=by
      unfold start at h2
      rw[List.getElem?_append_left (by simpa using hi),List.getElem?_map]at h2
      cases e:vs[i]? with
      | none=>rw[e]at h2;cases h2
      | some a=>rw[e]at h2;cases h2;rfl
    obtain⟨u,hu,rv⟩:=r.get ha
    have hp:ps[i]? = some y:=by
      rw[← S.pre,List.getElem?_take_of_lt (by omega)];exact h1
    have ndP:ps.Nodup:=by rw[← S.pre];exact S.nd.sublist (List.take_sublist _ _)
    refine⟨u,rv,?_⟩
    rcases S.par y (List.mem_of_getElem? hp)with k | k
    · exact .inl ⟨k,bindL_get ndP hp hu k⟩
    · obtain⟨c,e⟩:=cell_has (n:=s.heap.objs.size+1) k
      refine .inr ⟨.inl k,c,e,?_⟩
      have q:=x.cell y c e
      rw[bindC_get ndP hp hu (by show scope.names.lookup y≠_;rw[k];decide)]at q
      exact q
  · exact e0.hok.fresh (Nat.le_of_lt (x.above y c (PySem.mem_of_lookup h)))
  · unfold start
    show _=N.length
    rw[List.length_append,List.length_map,List.length_replicate]
    omega
theorem fn_of{CX:CXT}{P:Program}{w:World}{K:PySem.W.Frag}{mg:Str→Option Value}{base:Heap}{k:Nat}{f:Addr}{name qual:Str}{params:Arguments}{body:List Stmt}{scope:Scope}{dV kV doc pm cdv ct oc:Value}{an od:Option Addr}
    {osl:Array (Option Value)} {N ps:List Str} {sp:Sp} (lk:K.lookup f=some ⟨oc,od,.func (PySem.W.fnOf name qual params body scope dV kV doc pm an cdv ct),osl⟩) (hcd:PySem.W.codeIn K cdv qual=true) (S:FnScope N ps scope)
    (len:∀vs H Q E,sp vs H Q E→vs.length=ps.length)
    (hbody:∀(A:Around) (outer:List Env) (s:Shared) (H:Hp) (vs:List V) (Q:VK) (E:XK),Room k (A.deeper (envOfC qual scope s.heap.objs.size f cdv))→sp vs H Q E→
      ∃t,PSs (cxOf CX P w K mg base N qual scope f cdv A outer s H E) body t∧t { nx:=fun _ H'=>Q .non H',rt:=Q } (start N vs) H) :
    FnOk P w K mg base CX (k+1) f (PySem.W.fnOf name qual params body scope dV kV doc pm an cdv ct) ps sp:=by
  refine⟨len,fun A outer s H args us vs Q E hr e0 hb r hsp=>?_⟩
  have hl:=len _ _ _ _ hsp
  have KX:K.In s.heap:=e0.mod.kin.keeps fun b o e=>(e0.bs b o e).1
  have lim:s.heap.NoLimit:=e0.mod.nolimit.keeps fun b o e=>(e0.bs b o e).1
  have hkind:∀y∈ps.zip us,scope.names.lookup y.1=some .local∨(scope.names.lookup y.1=some .cell∧((cellsFrom (s.heap.objs.size+1) scope.names []).lookup y.1).isSome=true):=fun⟨n,v⟩ hy=>by
    rcases S.par n (List.of_mem_zip hy).1 with q | q
    · exact .inl q
    · exact .inr ⟨q,PySem.W.cellsFrom_some _ _ _ (.inl q)⟩
  refine codeAny_call_function hr.depth (KX _ _ lk) rfl S.co S.gen rfl (PySem.W.codeRec_of KX hcd) (hb _ _ _ _ ?_)
  refine wpAny_newFunctionEnv_cells S.kind hkind fun env he s1 x=>?_
  subst he
  refine⟨lim.keeps x.toInCall.keep,codeAny_func ?_⟩
  obtain⟨t,ht,hq⟩:=hbody A outer s H vs Q E (hr.deeper _) hsp
  have I:Inv (cxOf CX P w K mg base N qual scope f cdv A outer s H E) [] (start N vs) H s1:=inv_start S hr.hd e0 hl r x
  refine wpAny_mono (ht [] s1 (start N vs) H _ I hq) (fun fl s' hs=>?_) fun e s' hs=>hs
  have fin:∀{σ':St} {H':Hp} {v:V} {u:Value},Inv (cxOf CX P w K mg base N qual scope f cdv A outer s H E) [] σ' H' s'→RelV v u→Q v H'→CE outer P w H s Q u s':=
    fun{σ' H' v u} J rv q=>⟨v,H',J.os,J.bare,J.base,J.hok,rv,q⟩
  cases fl with
  | ret u=>
    obtain⟨v,σ',H',J,rv,q⟩:=hs
    exact fin J rv q
  | next=>
    obtain⟨σ',H',J,q⟩:=hs
    exact fin (v:=V.non) (u:=Value.none) J rfl q
  | brk=>
    obtain⟨_,_,_,q⟩:=hs
    exact False.elim q
  | cont=>
    obtain⟨_,_,_,q⟩:=hs
    exact False.elim q
end L2
namespace L2
open PySem PySem.Spec PyProof.Rows
section
variable{X:Cx}{x:Str}{p pos:Pos}{e:Expr}{es:List Expr}{t:TA}{id T:String}{r:List V→Hp→VK→Prop}
def tCB(r:List V→Hp→VK→Prop)(t:TA):TE:=fun σ H Q=>t σ H fun vs H1=>r vs H1 Q
theorem pe_callB(hc:CallR X (.builtin id) r)(hg:Gl X x)(hm:X.mg x=none)(hv:bootBuiltins x=some (.builtin id))(ha:PA X (e::es) t)(hn:x≠"__name__":=by decide)(hdb:(x == ("__debug__":Str))=false:=by decide)
    (he:starEach (e::es) X.env=(false,eval e X.env)::starEach es X.env:=by rfl) (hpl:(backTo pos (starEach es X.env)).any (·.1)=false:=by rfl):PE X (.Call (.Name x p) (e::es) [] pos) (tCB r t):=by
  intro pins s σ H Q I h
  refine wpAny_Call_Name_kw (ld_blt I hg hm hv ?_ hn hdb)
  exact PyProof.Rows.callWith_builtin1 (thn (ha pos pins s σ H _ I h) fun us s1 ⟨vs,H1,I1,r1,q1⟩=>hc pins s1 σ H1 vs us Q I1 r1 q1) he hpl
theorem pe_callTy(hc:CallR X (.type T) r)(hg:Gl X x)(hm:X.mg x=none)(hv:bootBuiltins x=some (.type T))(ha:PA X (e::es) t)(hn:x≠"__name__":=by decide)(hdb:(x == ("__debug__":Str))=false:=by decide)
    (he:starEach (e::es) X.env=(false,eval e X.env)::starEach es X.env:=by rfl) (hpl:(backTo pos (starEach es X.env)).any (·.1)=false:=by rfl):PE X (.Call (.Name x p) (e::es) [] pos) (tCB r t):=by
  intro pins s σ H Q I h
  refine wpAny_Call_Name_kw (ld_blt I hg hm hv ?_ hn hdb)
  exact PyProof.Rows.callWith_type1 (thn (ha pos pins s σ H _ I h) fun us s1 ⟨vs,H1,I1,r1,q1⟩=>hc pins s1 σ H1 vs us Q I1 r1 q1) he hpl
end
end L2
namespace HT
open PySem PyProof.Rows
section
open PySem.SeqAt
open PySem.AutoSeq1 (wpAny_loadPart')
open PySem.MeetsSeq PySem.MeetsSeq2 PySem.MeetsSeq3
end
section
variable{prog:Program}{w:World}{A:Around}{E:Value→Shared→Prop}{s:Shared}
theorem cat_tup{t b:Addr}{vs ws:List Value}{Q:Value→Shared→Prop}(ht:IsTup s.heap t vs.toArray)(hb:IsTup s.heap b ws.toArray)(hv:vs≠[])
    (h1:ws=[]→Q (.ref t) s) (h2:ws≠[]→Q (.ref s.heap.objs.size) { s with heap:=s.heap.push { cls:=.type "tuple",data:=.seq (vs++ws).toArray } })
    (hsz:vs.length+ws.length≤sizeLine):wpAny (model prog w) A (binaryOp .Add (.ref t) (.ref b)) Q E s:=by
  obtain⟨⟨cls,dd,data,sl⟩,ho,hc,n,hd⟩:=id ht
  obtain⟨⟨cls2,dd2,data2,sl2⟩,ho2,hc2,n2,hd2⟩:=id hb
  simp only at hc hd hc2 hd2
  subst hc hd hc2 hd2
  have e:vs.toArray++ws.toArray=(vs++ws).toArray:=by simp
  by_cases hw:ws=[]
  · exact concat_meets ⟨_,ho,rfl⟩ ⟨_,ho2,rfl⟩ noFill_tuple_add seq_tuple_add PySem.F.slot_tuple_add PySem.F.entry_tuple_add (PySem.F.args_tuple_add_2 _ _)
      (tuple_addW1 t b vs.toArray ws.toArray n n2 dd dd2 sl sl2 (by simpa using hv) (by simp[hw])) ⟨ho,ho2,h1 hw⟩
  · refine concat_meets ⟨_,ho,rfl⟩ ⟨_,ho2,rfl⟩ noFill_tuple_add seq_tuple_add PySem.F.slot_tuple_add PySem.F.entry_tuple_add (PySem.F.args_tuple_add_2 _ _)
      (tuple_addW2 t b vs.toArray ws.toArray n n2 dd dd2 sl sl2 (by simpa using hv) (by simpa using hw) (by rw[List.size_toArray,List.size_toArray];exact hsz)) ⟨ho,ho2,?_⟩
    rw[e]
    exact h2 hw
def sIx(n d:Nat):Option Int→Nat
  | none=>d
  | some v=>if v < 0 then(v+(n:Int)).toNat else min v.toNat n
theorem sIx_none(n d:Nat):sIx n d none=d:=rfl
theorem sIx_nat(n d k:Nat):sIx n d (some (k:Int))=min k n:=by
  show(if(k:Int) < 0 then((k:Int)+(n:Int)).toNat else min (k:Int).toNat n)=min k n
  rw[if_neg (by omega),Int.toNat_natCast]
theorem sIx_le(n d:Nat)(hd:d≤n)(o:Option Int):sIx n d o≤n:=by
  cases o with
  | none=>exact hd
  | some v=>
    show(if v < 0 then(v+(n:Int)).toNat else min v.toNat n)≤n
    by_cases hv:v < 0
    · rw[if_pos hv];omega
    · rw[if_neg hv];exact Nat.min_le_right _ _
theorem clip_eq(v:Int)(n d:Nat):(if v < 0 then max (v+(n:Int)) 0 else min v (n:Int))=((sIx n d (some v):Nat):Int):=by
  show(if v < 0 then max (v+(n:Int)) 0 else min v (n:Int))=(((if v < 0 then(v+(n:Int)).toNat else min v.toNat n):Nat):Int)
  by_cases hv:v < 0
  · simp only[if_pos hv];omega
  · simp only[if_neg hv];omega
theorem adjust_gen(lo hi:Option Int)(n:Nat):Builtin.Slice.sliceAdjust lo hi 1 (n:Int)=(((sIx n 0 lo:Nat):Int),((sIx n n hi:Nat):Int)):=by
  have h1:¬((1:Int) < 0):=by omega
  unfold Builtin.Slice.sliceAdjust
  simp only[h1,if_false]
  refine Prod.ext ?_ ?_
  · cases lo with
    | none=>rfl
    | some v=>exact clip_eq v n 0
  · cases hi with
    | none=>rfl
    | some v=>exact clip_eq v n n
theorem places_gen(i j:Nat):Builtin.Slice.slicePlaces (i:Int) (j:Int) 1=j - i:=by
  unfold Builtin.Slice.slicePlaces
  have h1:(1:Int) > 0:=by omega
  simp only[h1,if_true,Int.ediv_one]
  split <;>omega
theorem slicePart_{v:Value}{o:Option Int}{Q:Option Int→Shared→Prop}(p:IsPart v o)(h:Q o s):wpAny (model prog w) A (Builtin.Slice.slicePartIndex v) Q E s:=by
  cases p with
  | none=>exact slicePart_none h
  | int i t=>exact slicePart_int h
theorem sliceApplied_gen{sl:Addr}{vl vu:Value}{lo hi:Option Int}{n:Nat}{Q:Int × Int × Nat→Shared→Prop}(hs:s.heap.IsSliceOf sl vl vu .none)(pl:IsPart vl lo)(pu:IsPart vu hi)
    (h:Q (((sIx n 0 lo:Nat):Int),1,sIx n n hi - sIx n 0 lo) s):wpAny (model prog w) A (Builtin.Slice.sliceApplied (.ref sl) (pure (n:Int))) Q E s:=by
  obtain⟨os,hos,hcs,hds⟩:=id hs
  unfold Builtin.Slice.sliceApplied Builtin.Slice.sliceFields
  refine wpAny_bind (wpAny_bind (wpAny_field hos hds (x:=vl) rfl (wpAny_bind (wpAny_field hos hds (x:=vu) rfl (wpAny_bind (wpAny_field hos hds (x:=.none) rfl (wpAny_pure ?_)))))))
  refine wpAny_bind (slicePart_none ?_)
  show wpAny _ _ (if((1:Int) == 0)=true then _ else _) _ _ s
  rw[if_neg (by decide)]
  refine wpAny_bind (slicePart_ pl (wpAny_bind (slicePart_ pu (wpAny_bind (wpAny_pure ?_)))))
  show wpAny _ _ (match Builtin.Slice.sliceAdjust lo hi 1 (n:Int)with | (lo,hi)=>pure (lo,(1:Int),Builtin.Slice.slicePlaces lo hi 1)) _ _ s
  rw[adjust_gen lo hi n]
  show wpAny _ _ (pure (((sIx n 0 lo:Nat):Int),(1:Int),Builtin.Slice.slicePlaces ((sIx n 0 lo:Nat):Int) ((sIx n n hi:Nat):Int) 1)) _ _ s
  rw[places_gen]
  exact wpAny_pure h
theorem pick_gen(xs:Array Value)(i k:Nat):((List.range k).filterMap fun(m:Nat)=>xs[((i:Int)+(m:Int) * 1).toNat]?).toArray=((xs.toList.drop i).take k).toArray:=by
  have e:(fun(m:Nat)=>xs[((i:Int)+(m:Int) * 1).toNat]?)=fun m=>xs[i+m]? := by
    funext m
    have:((i:Int)+(m:Int) * 1).toNat=i+m:=by omega
    rw[this]
  rw[e]
  have:=pick_run xs i k
  rw[List.filterMap_map]at this
  have e2:((fun x=>xs[x]?) ∘ fun x=>i+x)=fun m=>xs[i+m]? := rfl
  rw[e2]at this
  rw[this]
theorem getItem_tuple_cut{t sl:Addr}{items:Array Value}{vl vu:Value}{lo hi:Option Int}{Q:Value→Shared→Prop}(ht:IsTup s.heap t items)(hs:s.heap.IsSliceOf sl vl vu .none)(pl:IsPart vl lo)(pu:IsPart vu hi)
    (hw:¬(sIx items.size 0 lo=0∧sIx items.size items.size hi=items.size))
    (h:Q (.ref s.heap.objs.size) { s with heap:=s.heap.push { cls:=.type "tuple",data:=.seq ((items.toList.drop (sIx items.size 0 lo)).take (sIx items.size items.size hi - sIx items.size 0 lo)).toArray } })
    (hsz:items.size≤sizeLine):wpAny (model prog w) A (getItem (.ref t) (.ref sl)) Q E s:=by
  have htake:sizeOk (.seq ((items.toList.drop (sIx items.size 0 lo)).take (sIx items.size items.size hi - sIx items.size 0 lo)).toArray):=by
    show((items.toList.drop (sIx items.size 0 lo)).take (sIx items.size items.size hi - sIx items.size 0 lo)).toArray.size≤sizeLine
    rw[List.size_toArray,List.length_take,List.length_drop,Array.length_toList]
    omega
  have hj:sIx items.size items.size hi≤items.size:=sIx_le _ _ (Nat.le_refl _) hi
  obtain⟨os,hos,hcs,hds⟩:=id hs
  have hTs:s.TypeIs (.ref sl) "slice":=⟨os,hos,hcs⟩
  unfold getItem
  try with_reducible refine wpAny_holding ?_
  first | refine wpAny_bind (wpAny_pure ?_) | skip
  refine wpAny_bind (wpAny_sequenceKey ht.typeIs (by decide) ?_)
  refine wpAny_bind (wpAny_callSpecial?_slot (name:=Str.ofString "__getitem__") ht.typeIs PyProof.Rows.slot_tuple_getitem
    (wpAny_call_entry PyProof.Rows.slot_tuple_getitem ht.typeIs entry_tuple_getitem ?_ (args_tuple_getitem _ _)))
  show wpAny _ _ (Builtin.Tuple.tupleItemsOf (.ref t) >>= _) _ _ s
  refine wpAny_bind (tupleItemsOf_ ht ?_)
  refine wpAny_bind (wpAny_typeOf hTs ?_)
  rw[if_pos (by decide)]
  refine wpAny_bind (sliceApplied_gen hs pl pu ?_)
  have hno:¬((((sIx items.size 0 lo:Nat):Int) == 0 && (1:Int) == 1 && (sIx items.size items.size hi - sIx items.size 0 lo) == items.size)=true):=by
    intro q
    rw[Bool.and_eq_true,Bool.and_eq_true]at q
    have q1:((sIx items.size 0 lo:Nat):Int)=0:=eq_of_beq q.1.1
    have q2:sIx items.size items.size hi - sIx items.size 0 lo=items.size:=eq_of_beq q.2
    exact hw ⟨by omega,by omega⟩
  show wpAny _ _ (if(((sIx items.size 0 lo:Nat):Int) == 0 && (1:Int) == 1 && (sIx items.size items.size hi - sIx items.size 0 lo) == items.size)=true then _ else _) _ _ s
  rw[if_neg hno,pick_gen]
  first
    | exact wpAny_bind (m:=Builtin.Tuple.tupleExact _) (wpAny_newObj_type (wpAny_pure ⟨_,rfl,wpAny_pure h⟩) htake)
    | exact wpAny_bind (m:=Builtin.Tuple.tupleExact _) (wpAny_newObj_type (wpAny_bind (wpAny_pure (wpAny_pure ⟨_,rfl,wpAny_pure h⟩))) htake)
    | exact wpAny_bind (wpAny_bind (m:=Builtin.Tuple.tupleExact _) (wpAny_newObj_type (wpAny_pure (wpAny_pure ⟨_,rfl,wpAny_pure h⟩)) htake))
    | exact wpAny_bind (wpAny_bind (m:=Builtin.Tuple.tupleExact _) (wpAny_newObj_type (wpAny_pure ⟨_,rfl,wpAny_pure h⟩) htake))
end
end HT
namespace L2
open PySem PySem.Spec PyProof.Rows
abbrev TO:=St→Hp→(Option Int→Hp→Prop)→Prop
def PO(X:Cx)(e:Option Expr)(t:TO):Prop:=
  ∀(pins:List (Addr × Obj)) (s:Shared) (σ:St) (H:Hp) (Q:Option Int→Hp→Prop),Inv X pins σ H s→t σ H Q→
    wpAny (model X.prog X.w) X.A (evalPart e X.env) (fun u s'=>∃o H',Inv X pins σ H' s'∧IsPart u o∧Q o H') X.xe s
def tNoPart:TO:=fun _ H Q=>Q none H
def tPart(t:TE):TO:=fun σ H Q=>t σ H fun x H1=>∃i,x=.int i∧Q (some i) H1
section
variable{X:Cx}{e:Expr}{te:TE}{lo hi:Option Expr}{tl th:TO}{pos p2:Pos}
theorem po_none:PO X none tNoPart:=by
  intro pins s σ H Q I h
  rw[evalPart_none]
  exact wpAny_pure ⟨none,H,I,.none,h⟩
theorem po_some(h:PE X e te):PO X (some e) (tPart te):=by
  intro pins s σ H Q I hw
  rw[evalPart_some]
  refine thn (h pins s σ H _ I hw) fun u s1 ⟨x,H1,I1,r1,q1⟩=>?_
  obtain⟨i,rfl,q⟩:=q1
  obtain⟨t,rfl⟩:=r1
  exact⟨some i,H1,I1,.int i t,q⟩
def SlR(X:Cx)(r:V→Option Int→Option Int→Hp→VK→Prop):Prop:=
  ∀(pins:List (Addr × Obj)) (s:Shared) (σ:St) (H:Hp) (x:V) (v vl vu:Value) (lo hi:Option Int) (sl:Addr) (Q:VK),Inv X pins σ H s→RelV x v→s.heap.IsSliceOf sl vl vu .none→IsPart vl lo→IsPart vu hi→r x lo hi H Q→
    ∃T id,typeLookup (.type T) "__getitem__"=pure (some (.builtin id))∧s.TypeIs v T∧wpAny (model X.prog X.w) X.A (getItem v (.ref sl)) (EP X pins σ Q) X.xe s
theorem SlR.or{r r':V→Option Int→Option Int→Hp→VK→Prop}(h:SlR X r)(h':SlR X r'):SlR X (fun x lo hi H Q=>r x lo hi H Q∨r' x lo hi H Q):=by
  intro pins s σ H x v vl vu lo hi sl Q I rx hs pl pu q
  rcases q with q | q
  · exact h pins s σ H x v vl vu lo hi sl Q I rx hs pl pu q
  · exact h' pins s σ H x v vl vu lo hi sl Q I rx hs pl pu q
def tSl(r:V→Option Int→Option Int→Hp→VK→Prop)(te:TE)(tl th:TO):TE:=fun σ H Q=>te σ H fun x H1=>tl σ H1 fun l H2=>th σ H2 fun u H3=>r x l u H3 Q
theorem pe_slice{r:V→Option Int→Option Int→Hp→VK→Prop}(hr:SlR X r)(he:PE X e te)(hl:PO X lo tl)(hu:PO X hi th):PE X (.Subscript e (.Slice lo hi none p2) pos) (tSl r te tl th):=by
  intro pins s σ H Q I h
  refine Subscript_ (thn (he pins s σ H _ I h) fun v s1 ⟨x,H1,I1,r1,q1⟩=>?_)
  refine wpAny_Slice (thn (hl pins s1 σ H1 _ I1 q1) fun vl s2 ⟨l,H2,I2,pl,q2⟩=>thn (hu pins s2 σ H2 _ I2 q2) fun vu s3 ⟨u,H3,I3,pu,q3⟩=>?_)
  rw[evalPart_none]
  refine wpAny_pure ?_
  have I4:Inv X pins σ H3 { s3 with heap:=s3.heap.push { cls:=.type "slice",data:=.fields #[vl,vu,.none] } }:=I3.kept (t':=s3.toks) fun b ob q=>Heap.get?_push_of_some _ q
  obtain⟨T,id,hT,ht,hg⟩:=hr pins { s3 with heap:=s3.heap.push { cls:=.type "slice",data:=.fields #[vl,vu,.none] } } σ H3 x v vl vu l u s3.heap.objs.size Q I4 r1 (Heap.IsSliceOf.new ..) pl pu q3
  show wpAny (model X.prog X.w) X.A (subscriptTail e (.Slice lo hi none p2) v (.ref s3.heap.objs.size)) (EP X pins σ Q) X.xe { s3 with heap:=s3.heap.push { cls:=.type "slice",data:=.fields #[vl,vu,.none] } }
  exact tail_any (ops:=[.ref s3.heap.objs.size,v]) ht hT hg (by with_unfolding_all rfl)
def cutV(xs:List V)(lo hi:Option Int):List V:=(xs.drop (HT.sIx xs.length 0 lo)).take (HT.sIx xs.length xs.length hi - HT.sIx xs.length 0 lo)
theorem cutV_length(xs:List V)(lo hi:Option Int):(cutV xs lo hi).length≤xs.length:=by
  unfold cutV
  rw[List.length_take,List.length_drop]
  omega
def rSlT(K:PySem.W.Frag):V→Option Int→Option Int→Hp→VK→Prop:=fun x lo hi H Q=>∃a xs,x=.ref a∧SqT K H a xs∧
  ¬(HT.sIx xs.length 0 lo=0∧HT.sIx xs.length xs.length hi=xs.length)∧∀p,H p=none→Q (.ref p) (upd H p (.tup (cutV xs lo hi)))
theorem sl_tup:SlR X (rSlT X.K):=by
  intro pins s σ H x v vl vu lo hi sl Q I rx hs pl pu h
  obtain⟨a,xs,rfl,hx,hw,q⟩:=h
  cases rx
  obtain⟨its,r,ht,hz⟩:=I.tuple hx
  have hlen:its.toArray.size=xs.length:=by rw[List.size_toArray];exact r.length.symm
  refine⟨"tuple",_,PyProof.Rows.slot_tuple_getitem.lookup,ht.typeIs,?_⟩
  refine HT.getItem_tuple_cut ht hs pl pu (by rw[hlen];exact hw) ?_ (by rw[hlen];exact hz)
  rw[hlen]
  refine⟨.ref s.heap.objs.size,_,I.laid (t':=s.toks) (o:=.tup (cutV xs lo hi)) (fun b ob q=>Heap.get?_push_of_some _ q) (Nat.le_refl _) ?_,rfl,q _ (I.hok.fresh (Nat.le_refl _))⟩
  exact⟨Nat.le_trans (cutV_length xs lo hi) hz,_,(r.drop (HT.sIx xs.length 0 lo)).take (HT.sIx xs.length xs.length hi - HT.sIx xs.length 0 lo),IsTup.new _ _,fun _=>⟨_,Heap.get?_push_size _ rfl,rfl⟩⟩
def rCatT(K:PySem.W.Frag):R2:=fun x y H Q=>∃a b xs ys,x=.ref a∧y=.ref b∧SqT K H a xs∧SqT K H b ys∧xs≠[]∧xs.length+ys.length≤sizeLine∧
  (ys=[]→Q (.ref a) H)∧(ys≠[]→∀p,H p=none→Q (.ref p) (upd H p (.tup (xs++ys))))
theorem Vals.nil_iff{xs:List V}{us:List Value}(r:Vals xs us):us=[]↔xs=[]:=by
  cases r with
  | nil=>simp
  | cons _ _=>simp
theorem op_catT:OpR X (binaryOp .Add) (rCatT X.K):=by
  intro pins s σ H x y v u Q I rx ry h
  obtain⟨a,b,xs,ys,rfl,rfl,ha,hb,hx,hz,q1,q2⟩:=h
  cases rx
  cases ry
  obtain⟨its,r1,p1,_⟩:=I.tuple ha
  obtain⟨its2,r2,p2,_⟩:=I.tuple hb
  refine HT.cat_tup p1 p2 (fun z=>hx (r1.nil_iff.mp z)) (fun z=>⟨.ref a,H,I,rfl,q1 (r2.nil_iff.mp z)⟩) (fun z=>?_) (by rw[← r1.length,← r2.length];exact hz)
  refine⟨.ref s.heap.objs.size,_,I.laid (t':=s.toks) (o:=.tup (xs++ys)) (fun b ob q=>Heap.get?_push_of_some _ q) (Nat.le_refl _) ?_,rfl,q2 (fun w=>z (r2.nil_iff.mpr w)) _ (I.hok.fresh (Nat.le_refl _))⟩
  exact⟨by rw[List.length_append];exact hz,_,r1.append r2,IsTup.new _ _,fun _=>⟨_,Heap.get?_push_size _ rfl,rfl⟩⟩
end
end L2
namespace L2
open PySem PySem.Spec PyProof.Rows
def ixN(n:Nat)(i:Int):Option Nat:=if 0≤i then(if i < n then some i.toNat else none)else if -(n:Int)≤i then some (i+n).toNat else none
def atI{α:Type}(xs:List α)(i:Int):Option α:=(ixN xs.length i).bind fun j=>xs[j]?
theorem ixN_seq{n:Nat}{i:Int}{j:Nat}(h:ixN n i=some j):seqIndex? i n=some j∧j < n∧-(n:Int)≤i∧i < n:=by
  unfold ixN at h
  by_cases h0:0≤i
  · rw[if_pos h0]at h
    by_cases h1:i < n
    · rw[if_pos h1]at h
      have e:i.toNat=j:=Option.some.inj h
      exact⟨by rw[seqIndex_of h0 h1,e],by omega,by omega,h1⟩
    · rw[if_neg h1]at h;cases h
  · rw[if_neg h0]at h
    by_cases h1:-(n:Int)≤i
    · rw[if_pos h1]at h
      have e:(i+n).toNat=j:=Option.some.inj h
      exact⟨by rw[seqIndex_neg (by omega) h1,e],by omega,h1,by omega⟩
    · rw[if_neg h1]at h;cases h
theorem atI_get{α:Type}{xs:List α}{i:Int}{v:α}(h:atI xs i=some v):∃j,seqIndex? i xs.length=some j∧xs[j]? = some v∧j < xs.length∧-(xs.length:Int)≤i∧i < xs.length:=by
  unfold atI at h
  cases e:ixN xs.length i with
  | none=>rw[e]at h;cases h
  | some j=>
    rw[e]at h
    obtain⟨h1,h2,h3,h4⟩:=ixN_seq e
    exact⟨j,h1,h,h2,h3,h4⟩
theorem atI_nat{α:Type}{xs:List α}{j:Nat}{v:α}(h:xs[j]? = some v):atI xs (j:Int)=some v:=by
  have hj:j < xs.length:=(List.getElem?_eq_some_iff.mp h).1
  have e:ixN xs.length (j:Int)=some j:=by
    unfold ixN
    rw[if_pos (by omega),if_pos (by omega)];simp
  unfold atI;rw[e];exact h
theorem atI_last{α:Type}(xs:List α)(v:α):atI (xs++[v]) (-1)=some v:=by
  have hl:(xs++[v]).length=xs.length+1:=by simp
  have e:ixN (xs++[v]).length (-1)=some xs.length:=by
    unfold ixN
    rw[hl,if_neg (by decide),if_pos (by omega)]
    congr 1
    omega
  unfold atI
  rw[e]
  show(xs++[v])[xs.length]? = some v
  simp
def PlainIx(b:Expr):Prop:=∀o i,subscripted b false o i=operate [o,i] (getItem o i)
def IxR(X:Cx)(r:R2):Prop:=
  ∀(value slice:Expr) (pins:List (Addr × Obj)) (s:Shared) (σ:St) (H:Hp) (x y:V) (v u:Value) (Q:VK),Inv X pins σ H s→RelV x v→RelV y u→r x y H Q→
    subscripted slice false v u=operate [v,u] (getItem v u)→wpAny (model X.prog X.w) X.A (subscriptTail value slice v u) (EP X pins σ Q) X.xe s
def MtR(X:Cx)(id:String)(r:V→List V→Hp→VK→Prop):Prop:=
  ∀(pins:List (Addr × Obj)) (s:Shared) (σ:St) (H:Hp) (x:V) (xs:List V) (v:Value) (us:List Value) (Q:VK),Inv X pins σ H s→RelV x v→Vals xs us→r x xs H Q→
    wpAny (model X.prog X.w) X.A (call (.builtin id) (v::us)) (EP X pins σ Q) X.xe s
section
variable{X:Cx}{a b:Expr}{ta tb:TE}{pos:Pos}
theorem IxR.or{r r':R2}(h:IxR X r)(h':IxR X r'):IxR X (fun x y H Q=>r x y H Q∨r' x y H Q):=by
  intro value slice pins s σ H x y v u Q I rx ry q hs
  rcases q with q | q
  · exact h value slice pins s σ H x y v u Q I rx ry q hs
  · exact h' value slice pins s σ H x y v u Q I rx ry q hs
theorem MtR.or{id:String}{r r':V→List V→Hp→VK→Prop}(h:MtR X id r)(h':MtR X id r'):MtR X id (fun x xs H Q=>r x xs H Q∨r' x xs H Q):=by
  intro pins s σ H x xs v us Q I rx rs q
  rcases q with q | q
  · exact h pins s σ H x xs v us Q I rx rs q
  · exact h' pins s σ H x xs v us Q I rx rs q
theorem pe_ix{r:R2}(hr:IxR X r)(ha:PE X a ta)(hb:PE X b tb)(hs:PlainIx b):PE X (.Subscript a b pos) (tOp r ta tb):=by
  intro pins s σ H Q I h
  exact Subscript_ (binT ha hb I h fun v u s2 x y H2 I2 rx ry q=>hr a b pins s2 σ H2 x y v u Q I2 rx ry q (hs _ _))
def rIxL(K:PySem.W.Frag):R2:=fun x y H Q=>∃p xs i v,x=.ref p∧y=.int i∧SqL K H p xs∧atI xs i=some v∧Q v H
def rIxT(K:PySem.W.Frag):R2:=fun x y H Q=>∃p xs i v,x=.ref p∧y=.int i∧SqT K H p xs∧atI xs i=some v∧Q v H
def rIxS:R2:=fun x y H Q=>∃z i c,x=.str z∧y=.int i∧z.length≤sizeLine∧atI z.cps.toList i=some c∧Q (.str ⟨#[c]⟩) H
theorem ix_list:IxR X (rIxL X.K):=by
  intro value slice pins s σ H x y v u Q I rx ry h hs
  obtain⟨p,xs,i,z,rfl,rfl,hq,he,q⟩:=h
  cases rx
  obtain⟨t,rfl⟩:=ry
  obtain⟨its,r,pl,hz⟩:=I.list hq
  obtain⟨j,h1,h2,h3,h4,h5⟩:=atI_get he
  obtain⟨w,ew,rw'⟩:=r.get h2
  have hl:=r.length
  have hn:=line63
  have fin:EP X pins σ Q w s:=⟨z,H,I,rw',q⟩
  by_cases h0:0≤i
  · have hj:i.toNat=j:=by
      rw[seqIndex_of h0 h5]at h1
      exact Option.some.inj h1
    exact item_listR pl.isList h0 (by omega) (by rw[hj];simpa using ew) fin hs
  · have hj:(i+(its.toArray.size:Int)).toNat=j:=by
      rw[seqIndex_neg (by omega) h4]at h1
      rw[List.size_toArray,← hl]
      exact Option.some.inj h1
    exact subscriptTail_builtinR (x:=w) pl.isList.typeIs slot_list_getitem.lookup
      (wpAny_getItem_list_neg (Q:=fun r s'=>r=w∧EP X pins σ Q r s') pl.isList (by omega) (by rw[List.size_toArray] <;>omega) (by omega) (by rw[hj];simpa using ew) ⟨rfl,fin⟩) hs
theorem ix_tup:IxR X (rIxT X.K):=by
  intro value slice pins s σ H x y v u Q I rx ry h hs
  obtain⟨p,xs,i,z,rfl,rfl,hq,he,q⟩:=h
  cases rx
  obtain⟨t,rfl⟩:=ry
  obtain⟨its,r,pl,hz⟩:=I.tuple hq
  obtain⟨j,h1,h2,h3,h4,h5⟩:=atI_get he
  obtain⟨w,ew,rw'⟩:=r.get h2
  have hl:=r.length
  have hn:=line63
  have fin:EP X pins σ Q w s:=⟨z,H,I,rw',q⟩
  exact subscriptTail_builtinR (x:=w) pl.typeIs slot_tuple_getitem.lookup
    (getItem_tuple (j:=j) (Q:=fun r s'=>r=w∧EP X pins σ Q r s') pl (by omega) (by omega) (by rw[List.size_toArray,← hl];exact h1) (by simpa using ew) ⟨rfl,fin⟩) hs
theorem ix_str:IxR X rIxS:=by
  intro value slice pins s σ H x y v u Q I rx ry h hs
  obtain⟨z,i,c,rfl,rfl,hz,he,q⟩:=h
  obtain⟨t,rfl⟩:=rx
  obtain⟨t',rfl⟩:=ry
  obtain⟨j,h1,h2,h3,h4,h5⟩:=atI_get he
  have hl:z.cps.toList.length=z.length:=by simp[Str.length]
  rw[hl]at h1 h4 h5
  have hn:=line63
  exact tail_any (typeIs_str s z t) slot_str_getitem.lookup (getItem_str (c:=c) (by
    have e1:decide (i < -(2 ^ 63:Int))=false:=decide_eq_false (by omega)
    have e2:decide (i ≥ 2 ^ 63)=false:=decide_eq_false (by omega)
    rw[e1,e2,Bool.or_false]) (by rw[h1];simpa using h2) ⟨.str ⟨#[c]⟩,H,I.tok _,⟨_,rfl⟩,q⟩) hs
theorem mapSeq_set(its:List Value)(n j:Nat)(u:Value):Obj.mapSeq (·.setIfInBounds j u) { cls:=.type "list",data:=.seq its.toArray n }={ cls:=.type "list",data:=.seq (its.set j u).toArray n }:=by
  simp[Obj.mapSeq]
theorem Inv.lst{pins:List (Addr × Obj)}{σ:St}{H:Hp}{s:Shared}{p:Addr}{xs:List V}(I:Inv X pins σ H s)(h:H p=some (.lst xs)) :
    ∃(its:List Value) (n:Nat),Vals xs its∧s.heap.get? p=some { cls:=.type "list",data:=.seq its.toArray n }∧xs.length≤sizeLine:=by
  obtain⟨z,its,n,r,e⟩:=I.hok p _ h
  exact⟨its,n,r,e,z⟩
theorem Inv.lstUpd{pins:List (Addr × Obj)}{σ:St}{H:Hp}{s:Shared}{p:Addr}{xs ys:List V}{its its':List Value}{n n':Nat}{f:Obj→Obj}(I:Inv X pins σ H s)(h:H p=some (.lst xs))
    (ho:s.heap.get? p=some { cls:=.type "list",data:=.seq its.toArray n }) (hf:f { cls:=.type "list",data:=.seq its.toArray n }={ cls:=.type "list",data:=.seq its'.toArray n' }) (r:Vals ys its') (hz:ys.length≤sizeLine) (t:Nat) :
    Inv X pins σ (upd H p (.lst ys)) { s with heap:=s.heap.update p f,toks:=t }:=by
  have e:(s.heap.update p f).get? p=some { cls:=.type "list",data:=.seq its'.toArray n' }:=by
    rw[Heap.get?_update_self f ho (by rw[hf] <;>rfl),hf]
  refine I.write (x:=p) (e:=p) (by rw[h];trivial) (.inl rfl) (fun b u hb q=>(Heap.get?_update_other _ _ (Ne.symm hb)).trans q) ⟨_,e⟩ ?_
  exact⟨hz,its',n',r,e⟩
def rSetL:V→V→V→Hp→(Hp→Prop)→Prop:=fun o i v H Q=>∃p xs k j,o=.ref p∧i=.int k∧H p=some (.lst xs)∧ixN xs.length k=some j∧Q (upd H p (.lst (xs.set j v)))
theorem set_list:PSet X rSetL:=by
  intro pins s σ H o i v ov iv u Q I ro ri rv h
  obtain⟨p,xs,k,j,rfl,rfl,hp,hj,q⟩:=h
  cases ro
  obtain⟨t,rfl⟩:=ri
  obtain⟨its,n,r,ho,hz⟩:=I.lst hp
  obtain⟨h1,h2,h3,h4⟩:=ixN_seq hj
  have hl:=r.length
  have hn:=line63
  have I':Inv X pins σ (upd H p (.lst (xs.set j v))) { s with heap:=s.heap.update p (Obj.mapSeq (·.setIfInBounds j u)) }:=
    I.lstUpd hp ho (mapSeq_set its n j u) (r.set rv j) (by rw[List.length_set];exact hz) s.toks
  by_cases h0:0≤k
  · have hk:k.toNat=j:=by
      rw[seqIndex_of h0 h4]at h1
      exact Option.some.inj h1
    exact PySem.W.ki_setAt ho h0 (by omega) (by rw[List.size_toArray,← hl];exact h4) (by rw[hk];exact⟨_,I',q⟩)
  · have hk:(k+(its.toArray.size:Int)).toNat=j:=by
      rw[seqIndex_neg (by omega) h3]at h1
      rw[List.size_toArray,← hl]
      exact Option.some.inj h1
    exact PySem.W.ki_setBack ho (by omega) (by rw[List.size_toArray,← hl];exact h3) (by omega) (by rw[hk];exact⟨_,I',q⟩)
theorem slice_bounds(lo hi:Option Int)(n:Nat):(sliceBounds lo hi none n).1=((HT.sIx n 0 lo:Nat):Int)∧(sliceBounds lo hi none n).2.1=((HT.sIx n n hi:Nat):Int)∧(sliceBounds lo hi none n).2.2=1:=by
  refine⟨?_,?_,rfl⟩
  · cases lo with
    | none=>simp[sliceBounds,HT.sIx]
    | some i=>
      simp only[sliceBounds,HT.sIx,Option.getD_none,show(1:Int) > 0 by decide,if_true]
      by_cases h:i < 0
      · simp only[h,if_true] <;>omega
      · simp only[h,if_false] <;>omega
  · cases hi with
    | none=>simp[sliceBounds,HT.sIx]
    | some i=>
      simp only[sliceBounds,HT.sIx,Option.getD_none,show(1:Int) > 0 by decide,if_true]
      by_cases h:i < 0
      · simp only[h,if_true] <;>omega
      · simp only[h,if_false] <;>omega
theorem slicePick_cut(its:List Value)(lo hi:Option Int):slicePick its.toArray lo hi none=((its.drop (HT.sIx its.length 0 lo)).take (HT.sIx its.length its.length hi - HT.sIx its.length 0 lo)).toArray:=by
  obtain⟨h1,h2,h3⟩:=slice_bounds lo hi its.toArray.size
  unfold slicePick
  rw[h1,h2,h3]
  simp only[sliceRange_one,pick_run,List.size_toArray] <;>rfl
def rSlL(K:PySem.W.Frag):V→Option Int→Option Int→Hp→VK→Prop:=fun x lo hi H Q=>∃a xs,x=.ref a∧SqL K H a xs∧∀p,H p=none→Q (.ref p) (upd H p (.lst (cutV xs lo hi)))
theorem sl_list:SlR X (rSlL X.K):=by
  intro pins s σ H x v vl vu lo hi sl Q I rx hs pl pu h
  obtain⟨a,xs,rfl,hx,q⟩:=h
  cases rx
  obtain⟨its,r,ht,hz⟩:=I.list hx
  have hlen:=r.length
  refine⟨"list",_,slot_list_getitem.lookup,ht.isList.typeIs,?_⟩
  refine wpAny_getItem_list_slice ht.isList hs pl pu .none (by simp) ?_ (by rw[List.size_toArray] <;>omega)
  rw[slicePick_cut,← hlen]
  refine⟨.ref s.heap.objs.size,_,I.laid (t':=s.toks) (o:=.lst (cutV xs lo hi)) (fun b ob q=>Heap.get?_push_of_some _ q) (Nat.le_refl _) ?_,rfl,q _ (I.hok.fresh (Nat.le_refl _))⟩
  exact⟨Nat.le_trans (cutV_length xs lo hi) hz,_,0,(r.drop (HT.sIx xs.length 0 lo)).take (HT.sIx xs.length xs.length hi - HT.sIx xs.length 0 lo),Heap.get?_push_size _ rfl⟩
theorem CallR.or{f:Value}{r r':List V→Hp→VK→Prop}(h:CallR X f r)(h':CallR X f r'):CallR X f (fun xs H Q=>r xs H Q∨r' xs H Q):=by
  intro pins s σ H xs us Q I rs q
  rcases q with q | q
  · exact h pins s σ H xs us Q I rs q
  · exact h' pins s σ H xs us Q I rs q
theorem call_list_of:CallR X (.type "list") (fun xs H Q=>∃p ys,xs=[.ref p]∧(SqL X.K H p ys∨SqT X.K H p ys)∧∀l,H l=none→Q (.ref l) (upd H l (.lst ys))):=by
  intro pins s σ H xs us Q I r h
  obtain⟨p,ys,rfl,hq,q⟩:=h
  obtain⟨u,rfl,rx⟩:=vals1 r
  cases rx
  have fin:∀(its:List Value),Vals ys its→ys.length≤sizeLine→∀(h':Heap) (c':Nat),(∀b o',s.heap.get? b=some o'→h'.get? b=some o')→
      h'.get? s.heap.objs.size=some { cls:=.type "list",dict:=none,data:=.seq its.toArray c',slots:=#[] }→EP X pins σ Q (.ref s.heap.objs.size) { s with heap:=h' }:=fun its r' hz h' c' kp e=>
    ⟨.ref s.heap.objs.size,_,I.laid (t':=s.toks) kp (Nat.le_refl _) (show ObjOk X.prog X.w _ h' _ (.lst ys)from⟨hz,its,c',r',e⟩),rfl,q _ (I.hok.fresh (Nat.le_refl _))⟩
  rcases hq with hq | hq
  · obtain⟨its,r',pl,hz⟩:=I.list hq
    have hlen:=r'.length
    obtain⟨o,ho,hc,n,hd⟩:=pl.isList
    exact call_list_seq p (.inl rfl) ho hc hd (fun h' c' kp e=>fin its r' hz h' c' kp e) (by simp only[List.size_toArray] <;>omega)
  · obtain⟨its,r',pl,hz⟩:=I.tuple hq
    have hlen:=r'.length
    obtain⟨o,ho,hc,n,hd⟩:=pl
    exact call_list_seq p (.inr rfl) ho hc hd (fun h' c' kp e=>fin its r' hz h' c' kp e) (by simp only[List.size_toArray] <;>omega)
theorem call_tuple_of:CallR X (.type "tuple") (fun xs H Q=>∃p ys,xs=[.ref p]∧((SqL X.K H p ys∧∀l,H l=none→Q (.ref l) (upd H l (.tup ys)))∨(SqT X.K H p ys∧Q (.ref p) H))):=by
  intro pins s σ H xs us Q I r h
  obtain⟨p,ys,rfl,h⟩:=h
  obtain⟨u,rfl,rx⟩:=vals1 r
  cases rx
  rcases h with ⟨hq,q⟩ | ⟨hq,q⟩
  · obtain⟨its,r',pl,hz⟩:=I.list hq
    have hlen:=r'.length
    refine call_tuple_list pl.isList (fun h' kp=>?_) (by simp only[List.size_toArray] <;>omega)
    have I1:Inv X pins σ H { s with heap:=h' }:=I.kept (t':=s.toks) kp
    have I2:Inv X pins σ (upd H h'.objs.size (.tup ys)) { s with heap:=h'.push { cls:=.type "tuple",data:=.seq its.toArray } }:=
      I1.laid (t':=s.toks) (fun b o e=>Heap.get?_push_of_some _ e) (Nat.le_refl _) (show ObjOk X.prog X.w _ _ _ (.tup ys)from⟨hz,its,r',IsTup.new _ _,fun _=>⟨_,Heap.get?_push_size _ rfl,rfl⟩⟩)
    exact⟨.ref h'.objs.size,_,I2,rfl,q _ (I1.hok.fresh (Nat.le_refl _))⟩
  · obtain⟨its,r',pl,hz⟩:=I.tuple hq
    exact call_tuple_same pl ⟨.ref p,H,I,rfl,q⟩
def tyV(K:PySem.W.Frag)(T:String)(x:V)(H:Hp):Prop:=match x with
  | .str _=>T="str"
  | .int _=>T="int"
  | .ref p=>(T="list"∧∃xs,SqL K H p xs)∨(T="tuple"∧∃o,K.lookup p=some o∧o.cls=.type "tuple"∧o.dict=none)∨
      (T="dict"∧((∃kvs,H p=some (.dK kvs))∨∃kvs,H p=some (.dT kvs)))∨(T="set"∧∃S n,H p=some (.set S n))
  | _=>False
theorem tyV_is{pins:List (Addr × Obj)}{σ:St}{H:Hp}{s:Shared}{T:String}{x:V}{v:Value}(I:Inv X pins σ H s)(r:RelV x v)(ty:tyV X.K T x H) :
    s.TypeIs v T∧∀a,v=.ref a→∃ob,s.heap.get? a=some ob∧ob.dict=none:=by
  cases x with
  | str z=>
    obtain⟨t,rfl⟩:=r
    cases (show T="str" from ty)
    exact⟨typeIs_str s z t,fun _ e=>nomatch e⟩
  | int i=>
    obtain⟨t,rfl⟩:=r
    cases (show T="int" from ty)
    exact⟨typeIs_int s i t,fun _ e=>nomatch e⟩
  | ref p=>
    cases r
    rcases ty with ⟨rfl,xs,hq⟩ | ⟨rfl,o,hk,hc,hd⟩ | ⟨rfl,hk⟩ | ⟨rfl,S,n,hk⟩
    · obtain⟨its,_,pl,_⟩:=I.list hq
      refine⟨pl.isList.typeIs,fun a e=>?_⟩
      cases e
      obtain⟨o,n,e,c,hd,_⟩:=pl
      exact⟨o,e,hd⟩
    · refine⟨⟨o,I.kIn p o hk,hc⟩,fun a e=>?_⟩
      cases e
      exact⟨o,I.kIn _ o hk,hd⟩
    · have z:∃o,s.heap.get? p=some o∧o.ExactDict:=by
        rcases hk with ⟨kvs,hk⟩ | ⟨kvs,hk⟩
        · obtain⟨_,_,_,_,o,_,_,e,ex,_⟩:=I.hok p _ hk
          exact⟨o,e,ex⟩
        · obtain⟨_,_,_,_,o,_,_,e,ex,_⟩:=I.hok p _ hk
          exact⟨o,e,ex⟩
      obtain⟨o,e,ex⟩:=z
      refine⟨⟨o,e,ex.1⟩,fun a e2=>?_⟩
      cases e2
      exact⟨o,e,ex.2.1⟩
    · obtain⟨o,_,_,_,e,ex,_⟩:=I.hok p _ hk
      refine⟨⟨o,e,ex.1⟩,fun a e2=>?_⟩
      cases e2
      exact⟨o,e,ex.2.1⟩
  | _=>exact False.elim ty
def tBM(K:PySem.W.Frag)(T:String)(r:V→List V→Hp→VK→Prop)(to:TE)(t:TA):TE:=fun σ H Q=>to σ H fun x H1=>tyV K T x H1∧t σ H1 fun xs H2=>r x xs H2 Q
variable{o e:Expr}{es:List Expr}{to:TE}{t:TA}{name:Str}{apos cpos:Pos}{T id:String}{r:V→List V→Hp→VK→Prop}
theorem pe_bm(pa:PlainAttrs T)(slot:Slot T name id)(hty:typeOf (.builtin id)=pure (.type "method_descriptor"))(hm:MtR X id r)(ho:PE X o to)(ha:PA X (e::es) t)
    (hbase:attributeBase o name X.env (eval o X.env)=eval o X.env:=by rfl)
    (hfew:((backTo cpos (starEach (e::es) X.env)).all (fun x=>!x.1) && (backToKw cpos (keywordEach [] X.env)).all (fun x=>x.1.isSome)
      && decide ((e::es).length+([]:List Keyword).length+(if([]:List Keyword).isEmpty then 0 else 1) < 30))=true:=by rfl)
    (hline:(apos.endLine == cpos.line)=true:=by rfl) (hs:starEach (e::es) X.env=(false,eval e X.env)::starEach es X.env:=by rfl) (hplain:(backTo cpos (starEach es X.env)).any (·.1)=false:=by rfl) :
    PE X (.Call (.Attribute o name apos) (e::es) [] cpos) (tBM X.K T r to t):=by
  intro pins s σ H Q I h
  refine wpAny_Call_method_late hbase hfew hline rfl (thn (ho pins s σ H _ I h) fun v s1 ⟨x,H1,I1,r1,ty,q1⟩=>?_)
  obtain⟨h1,h2⟩:=tyV_is I1 r1 ty
  refine⟨T,id,pa,slot,hty,h1,h2,?_⟩
  have hA:=ha cpos pins s1 σ H1 _ I1 q1
  rw[hs]at hA ⊢
  refine Calls.callWith_builtin (by show(false || (backTo cpos (starEach es X.env)).any (·.1))=false;rw[hplain] <;>rfl) (Calls.evalArgs_plain ?_)
  exact thn hA fun us s2 ⟨vs,H2,I2,r2,q2⟩=>hm pins s2 σ H2 x vs v us Q I2 r1 r2 q2
end
end L2
namespace L2
open PySem PySem.Spec PyProof.Rows
def MtM(X:Cx)(id:String)(r:V→List V→Hp→VK→Prop):Prop:=
  ∀(pins:List (Addr × Obj)) (s:Shared) (σ:St) (H:Hp) (x:V) (xs:List V) (v:Value) (us:List Value) (Q:VK),Inv X pins σ H s→RelV x v→Vals xs us→r x xs H Q→
    wpAny (model X.prog X.w) X.A (call (.builtin id) (v::us)) (EP X pins σ Q) X.xe s
theorem Vals.one:∀{x:V} {us:List Value},Vals [x] us→∃u,us=[u]∧RelV x u
  | _,_,.cons r .nil=>⟨_,rfl,r⟩
theorem Vals.two:∀{x y:V} {us:List Value},Vals [x,y] us→∃u v,us=[u,v]∧RelV x u∧RelV y v
  | _,_,_,.cons r (.cons q .nil)=>⟨_,_,rfl,r,q⟩
theorem Vals.zero:∀{us:List Value},Vals [] us→us=[]
  | _,.nil=>rfl
theorem Vals.eraseIdx:∀{xs:List V} {us:List Value} (i:Nat),Vals xs us→Vals (xs.eraseIdx i) (us.eraseIdx i)
  | _,_,_,.nil=>.nil
  | _,_,0,.cons _ t=>t
  | _,_,i+1,.cons r t=>.cons r (Vals.eraseIdx i t)
theorem Vals.reverse{xs:List V}{us:List Value}(h:Vals xs us):Vals xs.reverse us.reverse:=by
  induction h with
  | nil=>exact .nil
  | cons r t ih=>rw[List.reverse_cons,List.reverse_cons];exact Vals.append ih (.cons r .nil)
theorem Vals.rep{xs:List V}{us:List Value}(h:Vals xs us):∀k:Nat,Vals (List.replicate k xs).flatten (List.replicate k us).flatten
  | 0=>.nil
  | k+1=>by
    rw[List.replicate_succ,List.replicate_succ,List.flatten_cons,List.flatten_cons]
    exact Vals.append h (Vals.rep h k)
theorem len_erase{α:Type}:∀(l:List α) (i:Nat),(l.eraseIdx i).length≤l.length
  | [],_=>Nat.le_refl _
  | _::_,0=>Nat.le_succ _
  | _::r,i+1=>Nat.succ_le_succ (len_erase r i)
theorem foldl_rep(its:List Value):∀(k:Nat) (acc:List Value),
    List.foldl (fun x1 x2=>x1++x2) acc.toArray (List.replicate k its.toArray)=(acc++(List.replicate k its).flatten).toArray
  | 0,acc=>by simp
  | k+1,acc=>by
    have e:acc.toArray++its.toArray=(acc++its).toArray:=by simp
    have e2:(acc++its)++(List.replicate k its).flatten=acc++(List.replicate (k+1) its).flatten:=by
      rw[List.replicate_succ,List.flatten_cons,List.append_assoc]
    rw[← e2,← foldl_rep its k (acc++its),← e,List.replicate_succ,List.foldl_cons]
section
variable{X:Cx}{pins:List (Addr × Obj)}{σ:St}{H:Hp}{s:Shared}{l b:Addr}{xs ys zs:List V}
theorem Inv.lset{its its':List Value}{n:Nat}{f:Array Value→Array Value}{t':Nat}(I:Inv X pins σ H s)(hH:H l=some (.lst xs))
    (e:s.heap.get? l=some { cls:=.type "list",data:=.seq its.toArray n }) (hf:f its.toArray=its'.toArray) (hv:Vals ys its') (hz:ys.length≤sizeLine) :
    Inv X pins σ (upd H l (.lst ys)) { s with heap:=s.heap.update l (Obj.mapSeq f),toks:=t' }:=by
  have q:=PySem.IsL.update e f
  rw[hf]at q
  refine I.write (x:=l) (e:=l) (by rw[hH];exact trivial) (.inl rfl) (fun b' u hb hu=>(Heap.get?_update_other s.heap (Obj.mapSeq f) (Ne.symm hb)).trans hu) ⟨_,q⟩ ?_
  exact⟨hz,its',_,hv,q⟩
theorem Inv.lnew{its:List Value}{t':Nat}(I:Inv X pins σ H s)(hv:Vals ys its)(hz:ys.length≤sizeLine) :
    Inv X pins σ (upd H s.heap.objs.size (.lst ys)) { s with heap:=s.heap.push { cls:=.type "list",data:=.seq its.toArray },toks:=t' }:=
  I.laid (fun _ _ q=>Heap.get?_push_of_some _ q) (Nat.le_refl _) ⟨hz,its,0,hv,Heap.get?_push_size _ rfl⟩
theorem Inv.fresh(I:Inv X pins σ H s):H s.heap.objs.size=none:=I.hok.fresh (Nat.le_refl _)
theorem Inv.lstM(I:Inv X pins σ H s)(hH:H l=some (.lst xs)):xs.length≤sizeLine∧∃(its:List Value) (n:Nat),Vals xs its∧xs.length=its.length∧s.heap.get? l=some { cls:=.type "list",data:=.seq its.toArray n }:=by
  obtain⟨z,its,n,r,e⟩:=I.hok l _ hH
  exact⟨z,its,n,r,r.length,e⟩
theorem notLongL{n:Nat}(h:n≤sizeLine):Builtin.List.listTooLong n=false:=by
  unfold Builtin.List.listTooLong
  exact decide_eq_false (by omega)
end
section
variable{X:Cx}
def rAppend:V→List V→Hp→VK→Prop:=fun x vs H Q=>∃l xs y,x=.ref l∧vs=[y]∧H l=some (.lst xs)∧xs.length < sizeLine∧Q .non (upd H l (.lst (xs++[y])))
theorem mt_append:MtM X "list.append" rAppend:=by
  intro pins s σ H x vs v us Q I rx rv h
  obtain⟨l,xs,y,rfl,rfl,hH,hz,q⟩:=h
  cases rx
  obtain⟨u,rfl,ru⟩:=rv.one
  obtain⟨z,its,n,r,hl,e⟩:=I.lstM hH
  refine call_meets F.slot_list_append ⟨_,e,rfl⟩ F.entry_list_append (F.args_list_append_2 _ _) (PySem.list_append l its.toArray n u (by rw[List.size_toArray];omega)) ⟨e,?_⟩
  refine⟨.non,_,I.lset (its':=its++[u]) hH e (by simp) (r.append (.cons ru .nil)) ?_,rfl,q⟩
  rw[List.length_append,List.length_singleton]
  omega
def rPopAt:V→List V→Hp→VK→Prop:=fun x vs H Q=>∃l xs i k y,x=.ref l∧vs=[.int i]∧H l=some (.lst xs)∧-(2 ^ 63)≤i∧i < 2 ^ 63∧seqIndex? i xs.length=some k∧xs[k]? = some y∧Q y (upd H l (.lst (xs.eraseIdx k)))
theorem mt_popAt:MtM X "list.pop" rPopAt:=by
  intro pins s σ H x vs v us Q I rx rv h
  obtain⟨l,xs,i,k,y,rfl,rfl,hH,h1,h2,hk,hy,q⟩:=h
  cases rx
  obtain⟨u,rfl,ru⟩:=rv.one
  obtain⟨t,rfl⟩:=ru
  obtain⟨z,its,n,r,hl,e⟩:=I.lstM hH
  obtain⟨w,hw,rw'⟩:=r.get hy
  refine call_meets F.slot_list_pop ⟨_,e,rfl⟩ F.entry_list_pop (F.args_list_pop_2 _ _)
    (MeetsSeq.list_pop_at l its.toArray n i t k w (fitsIndex_both h1 h2) (by rw[List.size_toArray,← hl];exact hk) (by rw[← Array.getElem?_toList];exact hw) (by rw[List.size_toArray];omega)) ⟨e,?_⟩
  refine⟨y,_,I.lset (its':=its.eraseIdx k) hH e ?_ (r.eraseIdx k) ?_,rw',q⟩
  · show its.toArray.eraseIdxIfInBounds k=(its.eraseIdx k).toArray
    rw[List.eraseIdxIfInBounds_toArray]
  · have:=len_erase xs k
    omega
def rRep:R2:=fun x y H Q=>∃l k xs,x=.ref l∧y=.int k∧H l=some (.lst xs)∧-(2 ^ 63)≤k∧k < 2 ^ 63∧xs.length * k.toNat≤sizeLine∧
  ∀p,H p=none→Q (.ref p) (upd H p (.lst (List.replicate k.toNat xs).flatten))
theorem len_rep{α:Type}(xs:List α)(k:Nat):(List.replicate k xs).flatten.length=k * xs.length:=by
  induction k with
  | zero=>simp
  | succ k ih=>rw[List.replicate_succ,List.flatten_cons,List.length_append,ih,Nat.succ_mul,Nat.add_comm]
theorem op_rep:OpR X (binaryOp .Mult) rRep:=by
  intro pins s σ H x y v u Q I rx ry h
  obtain⟨l,k,xs,rfl,rfl,hH,h1,h2,hz,q⟩:=h
  cases rx
  obtain⟨t,rfl⟩:=ry
  obtain⟨z,its,n,r,hl,e⟩:=I.lstM hH
  have hlen:its.toArray.size * k.toNat≤sizeLine:=by rw[List.size_toArray,← hl];exact hz
  have hcap:¬its.toArray.size * k.toNat > (2 ^ 63 - 1) / 8:=by
    have:(sizeLine:Nat)≤(2 ^ 63 - 1) / 8:=by decide
    omega
  have hfit:¬(!Builtin.List.listFitsIndex k)=true:=by
    rw[fitsIndex_both h1 h2]
    exact Bool.false_ne_true
  have hlong:¬Builtin.List.listTooLong (its.toArray.size * k.toNat)=true:=by
    rw[notLongL hlen]
    exact Bool.false_ne_true
  have hnew:List.foldl (fun x1 x2=>x1++x2) #[] (List.replicate (if its.toArray.isEmpty=true then 0 else k.toNat) its.toArray)=(List.replicate k.toNat its).flatten.toArray:=by
    have f0:∀m:Nat,List.foldl (fun x1 x2=>x1++x2) #[] (List.replicate m its.toArray)=(List.replicate m its).flatten.toArray:=fun m=>by
      have:=foldl_rep its m []
      rw[List.nil_append]at this
      exact this
    rw[f0]
    cases its with
    | nil=>simp
    | cons a r'=>rw[if_neg (by simp)]
  refine wpAny_binaryOp_repeat_ref (T:="list") (U:="int") (by decide) ⟨_,e,rfl⟩ (fun s'=>typeIs_int s' k t) noFill_list_mul F.fills_int_mul F.slot_int_rmul repeat_list F.slot_int_index.lookup
    (call_meets F.slot_int_rmul (typeIs_int s k t) F.entry_int_rmul (F.args_int_rmul_2 _ _) (int___rmul___int_list k t l its.toArray n)
      ⟨e,rfl,⟨_,e,rfl⟩,call_meets F.slot_list_mul ⟨_,e,rfl⟩ F.entry_list_mul (F.args_list_mul_2 _ _) (AutoListH.list___mul___list_int_3 l its.toArray n k t hfit hcap hlong) ⟨e,?_⟩⟩)
  rw[hnew]
  exact⟨.ref _,_,I.lnew (t':=s.toks) (r.rep k.toNat) (by rw[len_rep,Nat.mul_comm];exact hz),rfl,q _ I.fresh⟩
end
section
variable{prog:Program}{w:World}{A:Around}{E:Value→Shared→Prop}{s:Shared}
set_option maxRecDepth 100000 in
end
section
variable{X:Cx}
end
end L2
namespace Att
open PySem PySem.W PySem.Calls PyProof.Rows
theorem ints_of_wellAll{P:Params}{h:Heap}:∀(ns:List Int) (vs:List Value),WellAll P h vs (ns.map WData.int)→IntsAre vs ns:=by
  intro ns
  induction ns with
  | nil=>
    intro vs w
    rw[List.map_nil]at w
    cases w
    exact .nil
  | cons n ns ih=>
    intro vs w
    rw[List.map_cons]at w
    cases w with
    | cons a b=>
      cases a
      exact .cons _ _ (ih _ b)
theorem script_of{l:OpenLaw}{n:Nat}(hn:l.most=some n){P:Params}{h:Heap}{args:List WData}{vals:List Value}
    (hpre:l.row.toRowW.claim.pre args=true) (hwl:WellAll P h vals args) :
    ∃a vs ns,vals=[Value.ref a]∧args=[WData.list (ns.map WData.int)]∧h.get? a=some { cls:=.type "list",data:=.seq vs.toArray }∧IntsAre vs ns∧ns.length≤n:=by
  have hsh:WShape.hasAll [] args [.list .int]=true:=(pre_splitW hpre).1
  have hc:l.pre.holds [] { args:=args }=true:=(pre_splitW hpre).2
  obtain⟨d,r,rfl,h1,h2⟩:=hasAllW_cons hsh
  obtain rfl:=hasAllW_nil h2
  obtain⟨xs,rfl,h3⟩:=hasW_list h1
  obtain⟨ns,rfl⟩:=items_int h3
  have hlen:ns.length≤n:=by
    unfold OpenLaw.pre at hc
    have h4:(WTm.not (.lt (.lit (.int (n:Int))) (.len (.arg 0)))).holds [] { args:=[.list (ns.map .int)] }=true:=by
      have h4:=(holds_andW hc).1
      rw[hn]at h4
      exact h4
    have h5:=condW_of h4 (w_not (w_lt w_lit (w_len_list (w_arg rfl))))
    rw[List.length_map]at h5
    refine Nat.le_of_not_lt fun q=>?_
    have q':(n:Int) < ((ns.length:Nat):Int):=by omega
    first
      | (rw[decide_eq_true q']at h5;exact absurd h5 (by decide))
      | (simp at h5;omega)
  cases hwl with
  | cons w1 w2=>
    cases w2
    cases w1 with
    | list ho hall=>exact⟨_,_,ns,rfl,rfl,ho,ints_of_wellAll ns _ hall,hlen⟩
theorem post_true(l:OpenLaw)(args:List WData):l.row.toRowW.claim.post args (.bool true) args=true:=
  postW_of (r:=l.row.toRowW) (X:=(true == true))
    (show WShape.has [] (.bool true) .bool=true by first | rfl | decide | simp[WShape.has,WShape.arms,WShape.armsAll])
    (show(WTm.eq .res (.lit (.bool true))).value [] { args:=args,res:=some (.bool true),after:=args }=some (.bool (true == true))from w_eq_bool (w_res rfl) w_lit) rfl
theorem attach_call{l:OpenLaw}{n:Nat}{q:Program}{loose:List Str}{XP:(Str→Option Value)→Heap→Prop}{YP:World→Heap→Prop}{d:DefRec}
    (hn:l.most=some n) (hdf:d.params.defaults=[])
    (call:∀(w:World) (s₀ s₁:Shared) (mg mb:Str→Option Value) (fa:Addr) (o:Obj) (pm cd doc:Value) (a:Addr) (vs:List Value) (ns:List Int),
      Ground q loose [] XP w s₀ mg mb s₁.heap→YP w s₁.heap→
      s₁.heap.get? fa=some o→o.data=.func (docDef d.name d.params d.body d.scope pm cd doc)→s₁.heap.CodeRec cd d.name→mg d.name=some (.ref fa)→
      s₁.heap.get? a=some { cls:=.type "list",data:=.seq vs.toArray }→IntsAre vs ns→ns.length≤n→s₁.gens=#[]→
      codeAny (model l.prog w) callerA (.call (.ref fa) ⟨[.ref a],[]⟩) (fun r s'=>r=.ok (.ret (.bool true))∧OldK s₁.heap s'.heap∧s'.os=s₁.os∧AllBare s'.gens) s₁) :
    WalkO q loose XP YP l.row.toRowW d [] (fun f vs=>PySem.call f vs):=by
  intro w s₀ s₁ mg mb G Y fa o pm cd doc dV kV ho hd hcd hD hmg hg args vals as hpre hlay hrd hwl hlo
  obtain rfl:dV=.none:=Dflts.none hD hdf
  obtain rfl:kV=.none:=Dflts.noKw hD
  obtain⟨a,vs,ns,rfl,rfl,hobj,hints,hlen⟩:=script_of hn hpre hwl
  refine enter_call (codeAny_mono (call w s₀ s₁ mg mb fa o pm cd doc a vs ns G Y ho (fd_plain hd) hcd hmg hobj hints hlen hg) fun r s' hq=>?_)
  obtain⟨rfl,h2,h3,h4⟩:=hq
  exact⟨.inl ⟨.bool true,.bool true,[],rfl,fun _=>rfl,.bool true,post_true l _,fun _=>⟨List.Pairwise.nil,fun _ hm=>(nomatch hm)⟩⟩,h2,h3,h4⟩
section
variable{prog:Program}{w:World}{A:Around}{E:Value→Shared→Prop}{s:Shared}{K:Frag}
def ledger(h:Heap)(L d:Addr):List (Addr × Obj):=(List.range h.objs.size).filterMap fun a=>if a=L∨a=d then none else(h.get? a).map fun o=>(a,o)
end
end Att
namespace L2
open PySem PySem.Spec PyProof.Rows
theorem vals_ints:∀{vs:List Value} {ns:List Int},IntsAre vs ns→Vals (ns.map V.int) vs
  | _,_,.nil=>.nil
  | _,_,.cons n t h=>.cons ⟨t,rfl⟩ (vals_ints h)
def Only(H:Hp):Prop:=∀b,H b=none∨∃o xs,H b=some (.frz o (.lst xs))
theorem law_call{P:Program}{w:World}{K:PySem.W.Frag}{mg mb:Str→Option Value}{CX:CXT}{k:Nat}{fa a:Addr}{fd:FuncData}{x:Str}{sp:Sp}{s₁:Shared}{vs:List Value}{ns:List Int}
    (KX:K.In s₁.heap) (hns:s₁.heap.Ns mainGlobals mg) (hb:s₁.heap.Ns builtinsNs mb) (hbb:∀x:Str,x≠"__name__"→mb x=bootBuiltins x) (hlim:s₁.heap.NoLimit) (hsee:s₁.heap.NoSeer) (hg:s₁.gens=#[])
    (ha:s₁.heap.get? a=some { cls:=.type "list",data:=.seq vs.toArray }) (hi:IntsAre vs ns) (hl:ns.length≤sizeLine) (hr:Room k callerA)
    (F:∀base:Heap,K.In base→base.Ns mainGlobals mg→FnOk P w K mg base CX k fa fd [x] sp) (hbind:∀(s:Shared) (u:Value),BindsTo s fd ⟨[u],[]⟩ [(x,u)])
    (hsp:∀H:Hp,Only H→SqL K H a (ns.map V.int)→sp [.ref a] H (fun v _=>v=.bl true) fun _ _ _=>False)
    (hCX:∀H e s',CX [] H s₁ (fun _ _ _=>False) e s'→False) :
    codeAny (model P w) callerA (.call (.ref fa) ⟨[.ref a],[]⟩) (fun r s'=>r=.ok (.ret (.bool true))∧OldK s₁.heap s'.heap∧s'.os=s₁.os∧AllBare s'.gens) s₁:=by
  have rv:=vals_ints hi
  have lenV:=hi.length
  have core:∀H:Hp,Only H→SqL K H a (ns.map V.int)→HOk P w H s₁.heap→(∀b,H b≠none→b=a)→(H a≠none→K.lookup a=none)→
      codeAny (model P w) callerA (.call (.ref fa) ⟨[.ref a],[]⟩) (fun r s'=>r=.ok (.ret (.bool true))∧OldK s₁.heap s'.heap∧s'.os=s₁.os∧AllBare s'.gens) s₁:=by
    intro H hO hS hok hA hK
    have base_of:∀{b:Addr} {o:Obj},s₁.heap.get? b=some o→H b=none→(hidT s₁.heap H).get? b=some o:=fun e n=>hidT_get e n
    have noA:∀{b:Addr} {o:Obj} {es:Array DictEntry} {ep:Nat},s₁.heap.get? b=some o→o.data=.dict es ep→H b=none:=fun{b o es ep} e d=>by
      cases q:H b with
      | none=>rfl
      | some u=>
        have e':b=a:=hA b (by rw[q];simp)
        subst e'
        rw[ha]at e;cases e
        have d':Data.seq vs.toArray _=Data.dict es ep:=d
        cases d'
    have nsK:∀{b:Addr} {m:Str→Option Value},s₁.heap.Ns b m→(hidT s₁.heap H).Ns b m:=fun{b m} ⟨o,es,ep,e,d,r⟩=>⟨o,es,ep,base_of e (noA e d),d,r⟩
    have hKb:K.In (hidT s₁.heap H):=fun b o e=>base_of (KX b o e) (by
      cases q:H b with
      | none=>rfl
      | some u=>
        have e':b=a:=hA b (by rw[q];simp)
        subst e'
        rw[hK (by rw[q];simp)]at e;cases e)
    have hM:Mod K mg (hidT s₁.heap H):=⟨hKb,nsK hns,⟨mb,nsK hb,hbb⟩,let⟨mc,h1,h2⟩:=hlim;⟨mc,nsK h1,h2⟩,
      ⟨let⟨mc,h1,h2⟩:=hsee.statics;⟨mc,nsK h1,h2⟩,let⟨mc,h1,h2⟩:=hsee.mods;⟨mc,nsK h1,h2⟩,let⟨mc,h1,h2⟩:=hsee.imp;⟨mc,nsK h1,h2⟩,by
        obtain⟨mg',bm,ob,n1,n2,n3,n4,n5⟩:=hsee.main
        refine⟨mg',bm,ob,nsK n1,n2,base_of n3 ?_,n4,n5⟩
        cases q:H bm with
        | none=>rfl
        | some u=>
          have e':bm=a:=hA bm (by rw[q];simp)
          subst e'
          rw[ha]at n3;cases n3
          exact absurd (show Value.type "list"=Value.type "module" from n4) (fun z=>by injection z with z;exact absurd z (by decide))⟩⟩
    have e0:Env0 P w K mg (hidT s₁.heap H) callerA [] s₁ H:=⟨rfl,hM,fun b o e=>of_hidT e,Nat.le_of_eq (hidT_size _ _),trivial,fun b hb=>absurd (show b∈([]:List Addr)from hb) (by simp),hok,.of_eq hg⟩
    refine codeAny_mono ((F _ hKb (nsK hns)).run callerA [] s₁ H ⟨[.ref a],[]⟩ [.ref a] [.ref a] _ _ hr e0 (hbind s₁ (.ref a)) (.cons rfl .nil) (hsp H hO hS)) fun r s' h=>?_
    cases r with
    | error e=>exact(hCX H e s' h).elim
    | ok fl=>
      cases fl with
      | next=>exact False.elim h
      | brk=>exact False.elim h
      | cont=>exact False.elim h
      | ret u=>
        obtain⟨v,H',os,bare,un,hok',r',q⟩:=h
        have q':v=.bl true:=q
        subst q'
        obtain rfl:u=Value.bool true:=r'
        refine⟨rfl,OldK.of_keep fun b o e=>?_,os,bare⟩
        cases q:H b with
        | none=>exact un.keep b o e q (by intro z;exact absurd (show b∈([]:List Addr)from z) (by simp)) (by simp)
        | some u=>
          rcases hO b with z | ⟨ob,xs,z⟩
          · rw[q]at z;cases z
          · have z2:=un.frzs b ob _ z
            obtain⟨e1,_⟩:=hok b _ z
            obtain⟨e2,_⟩:=hok' b _ z2
            rw[e]at e1;cases e1
            exact e2
  cases hk:K.lookup a with
  | some o=>
    have e:=KX a o hk
    rw[ha]at e
    cases e
    refine core (fun _=>none) (fun _=>.inl rfl) (.inr ⟨_,vs.toArray,_,hk,rfl,rfl,rfl,by rw[List.size_toArray,lenV];exact hl,by simpa using rv⟩) (fun b u z=>by have z':(none:Option HO)=some u:=z;cases z') (fun b z=>absurd rfl z) fun z=>absurd rfl z
  | none=>
    refine core (fun b=>if b=a then some (.frz { cls:=.type "list",data:=.seq vs.toArray } (.lst (ns.map V.int)))else none) (fun b=>?_) (.inl (.inr ⟨{ cls:=.type "list",data:=.seq vs.toArray },if_pos rfl⟩)) (fun b u z=>?_) (fun b z=>?_) fun _=>hk
    · by_cases hb:b=a
      · exact .inr ⟨_,_,if_pos hb⟩
      · exact .inl (if_neg hb)
    · by_cases hb:b=a
      · have z':=(if_pos hb).symm.trans z
        cases z'
        subst hb
        exact⟨ha,by rw[List.length_map];exact hl,vs,_,rv,ha⟩
      · have z':=(if_neg hb).symm.trans z
        cases z'
    · by_cases hb:b=a
      · exact hb
      · exact absurd (if_neg hb) z
end L2
namespace L2
open PySem PySem.Spec PyProof.Rows
abbrev KOf{K:PySem.W.Frag}{h:Heap}(_:K.In h):PySem.W.Frag:=K
theorem walk_of{l:PySem.W.OpenLaw}{n k:Nat}{q:Program}{loose:List Str}{XP:(Str→Option Value)→Heap→Prop}{YP:World→Heap→Prop}{d:DefRec}{K:Params→PySem.W.Frag}{CX:World→CXT}{sp:World→Sp}{x:Str}
    (hn:l.most=some n) (hn2:n≤sizeLine) (hdf:d.params.defaults=[]) (hr:Room k callerA) (hq:importsNone q=true)
    (hY:∀(w:World) (h:Heap),YP w h→(K w.params).In h)
    (F:∀(w:World) (mg:Str→Option Value) (fa:Addr) (h:Heap),(K w.params).In h→h.Ns mainGlobals mg→mg d.name=some (.ref fa)→
      ∃fd:FuncData,(∀(s:Shared) (u:Value),BindsTo s fd ⟨[u],[]⟩ [(x,u)])∧
        ∀base:Heap,(K w.params).In base→base.Ns mainGlobals mg→FnOk l.prog w (K w.params) mg base (CX w) k fa fd [x] (sp w))
    (hsp:∀(w:World) (H:Hp) (a:Addr) (ns:List Int),ns.length≤n→Only H→SqL (K w.params) H a (ns.map V.int)→sp w [.ref a] H (fun v _=>v=.bl true) fun _ _ _=>False)
    (hCX:∀(w:World) (H:Hp) (s:Shared) (e:Value) (s':Shared),CX w [] H s (fun _ _ _=>False) e s'→False) :
    PySem.W.WalkO q loose XP YP l.row.toRowW d [] (fun f vs=>PySem.call f vs):=by
  refine Att.attach_call hn hdf fun w s₀ s₁ mg mb fa o pm cd doc a vs ns G Y ho hd hcd hmg hobj hints hlen hg=>?_
  have KX:=hY w _ Y
  obtain⟨fd,hb,hF⟩:=F w mg fa _ KX G.T.g hmg
  exact law_call KX G.T.g G.T.b G.T.builtins G.T.nolimit (G.T.seer hq) hg hobj hints (Nat.le_trans hlen hn2) hr hF hb (fun H hO hS=>hsp w H a ns hlen hO hS) fun H e s'=>hCX w H s₁ e s'
end L2
namespace L2
open PySem PySem.Spec PyProof.Rows
def inClass(s:Stmt)(j:Nat):Stmt:=match s with
  | .ClassDef _ _ _ body _ _ _ _ _ _ _=>body.getD j (.Pass ⟨0,0,0,0⟩)
  | _=>.Pass ⟨0,0,0,0⟩
def defArgs(s:Stmt):Arguments:=match s with
  | .FunctionDef _ a _ _ _ _ _ _ _ _=>a
  | _=>{ posonlyargs:=[],args:=[],vararg:=none,kwonlyargs:=[],kw_defaults:=[],kwarg:=none,defaults:=[] }
def defBody(s:Stmt):List Stmt:=match s with
  | .FunctionDef _ _ b _ _ _ _ _ _ _=>b
  | _=>[]
def defScope(s:Stmt):Scope:=match s with
  | .FunctionDef _ _ _ _ _ _ sc _ _ _=>sc
  | _=>{ kind:=.function,names:=[],isGenerator:=false,isCoroutine:=false }
abbrev CX0:CXT:=fun _ _ _ _ _ _=>False
abbrev E0:XK:=fun _ _ _=>False
theorem pass0{X:Cx}:Passes CX0 X E0:=fun _ _ _ _ _ _ _ h=>h.elim
structure Fun(K:PySem.W.Frag)(x qual:Str)(st:Stmt)(f:Addr)(fd:FuncData):Prop where
  ex:∃(oc:Value) (od:Option Addr) (kV doc pm:Value) (an:Option Addr) (cdv ct:Value) (osl:Array (Option Value)),
    fd=PySem.W.fnOf x qual (defArgs st) (defBody st) (defScope st) .none kV doc pm an cdv ct∧K.lookup f=some ⟨oc,od,.func fd,osl⟩∧PySem.W.codeIn K cdv qual=true
  kp:PySem.W.keepIn K (.ref f)=true
section
variable{P:Program}{w:World}{K:PySem.W.Frag}{mg:Str→Option Value}{base:Heap}
theorem Fun.ok{x qual:Str}{st:Stmt}{f:Addr}{fd:FuncData}{N ps:List Str}{k:Nat}{sp:Sp}(F:Fun K x qual st f fd)(S:FnScope N ps (defScope st))(len:∀vs H Q E,sp vs H Q E→vs.length=ps.length)
    (hbody:∀(cdv:Value) (A:Around) (outer:List Env) (s:Shared) (H:Hp) (vs:List V) (Q:VK) (E:XK),Room k (A.deeper (envOfC qual (defScope st) s.heap.objs.size f cdv))→sp vs H Q E→
      ∃t,PSs (cxOf CX0 P w K mg base N qual (defScope st) f cdv A outer s H E).nox (defBody st) t∧t { nx:=fun _ H'=>Q .non H',rt:=Q } (start N vs) H):FnOk P w K mg base CX0 (k+1) f fd ps sp:=by
  obtain⟨oc,od,kV,doc,pm,an,cdv,ct,osl,rfl,lk,hcd⟩:=F.ex
  refine fn_of lk hcd S len fun A outer s H vs Q E hr hsp=>?_
  obtain⟨t,h,q⟩:=hbody cdv A outer s H vs Q E hr hsp
  exact⟨t,h.nox,q⟩
theorem Fun.binds{x qual:Str}{st:Stmt}{f:Addr}{fd:FuncData}{ps:List Str}(F:Fun K x qual st f fd)
    (h:∀(kV doc pm:Value) (an:Option Addr) (cdv ct:Value) (us:List Value),us.length=ps.length→bindArgs (PySem.W.fnOf x qual (defArgs st) (defBody st) (defScope st) .none kV doc pm an cdv ct) ⟨us,[]⟩=pure (ps.zip us)):Binds K fd ps []:=by
  obtain⟨oc,od,kV,doc,pm,an,cdv,ct,osl,rfl,lk,hcd⟩:=F.ex
  exact .all (h kV doc pm an cdv ct)
theorem fun_mk{x qual:Str}{st:Stmt}{f:Addr}{oc:Value}{od an:Option Addr}{osl:Array (Option Value)}{kV doc pm cdv ct:Value}(l:K.lookup f=some ⟨oc,od,.func (PySem.W.fnOf x qual (defArgs st) (defBody st) (defScope st) .none kV doc pm an cdv ct),osl⟩)
    (c:PySem.W.codeIn K cdv qual=true) (k:PySem.W.keepIn K (.ref f)=true):Fun K x qual st f (PySem.W.fnOf x qual (defArgs st) (defBody st) (defScope st) .none kV doc pm an cdv ct):=⟨⟨oc,od,kV,doc,pm,an,cdv,ct,osl,rfl,l,c⟩,k⟩
end
theorem hu_of{A:Around}{k:Nat}(hr:Room k A):A.units+1 < cLine:=Nat.lt_of_le_of_lt (Nat.add_le_add_left (by decide:1≤64) _) hr.units
section
variable{X:Cx}
theorem pv(i:Nat){x:Str}{pos:Pos}(hN:X.N[i]? = some x:=by rfl)(hv:Vis X.env.scope x:=by first | exact Or.inl rfl | exact Or.inr (Or.inl rfl) | exact Or.inr (Or.inr rfl))(hd:(x == ("__debug__":Str))=false:=by decide)
    (hcd:(x == ("__classdict__":Str))=false:=by decide):PE X (.Name x pos) (tVar i):=pe_var hN hv hd hcd
end
theorem iteF{A B:Prop}(h:B):if false=true then A else B:=by
  rw[if_neg Bool.false_ne_true]
  exact h
theorem iteT{A B:Prop}(h:A):if true=true then A else B:=by
  rw[if_pos rfl]
  exact h
def Same(H H':Hp):Prop:=∀b o,H b=some o→H' b=some o
theorem Same.refl(H:Hp):Same H H:=fun _ _ h=>h
theorem Same.trans{H H1 H2:Hp}(a:Same H H1)(b:Same H1 H2):Same H H2:=fun c o h=>b c o (a c o h)
theorem Same.free{H H':Hp}(e:Same H H'){l:Addr}(h:H' l=Option.none):H l=Option.none:=by
  cases q:H l with
  | none=>rfl
  | some o=>
    rw[e l o q]at h
    cases h
theorem Same.seq{K:PySem.W.Frag}{H H':Hp}{a:Addr}{xs:List V}(e:Same H H')(h:SqL K H a xs):SqL K H' a xs:=by
  rcases h with (h | ⟨o,h⟩) | h
  · exact .inl (.inl (e _ _ h))
  · exact .inl (.inr ⟨o,e _ _ h⟩)
  · exact .inr h
end L2
set_option maxHeartbeats 4000000
namespace L2
open PySem PySem.Spec PyProof.Rows PySem.SeqAt
section
variable{X:Cx}
def CDivB(_ j:Int):Prop:=j≠0∧j.natAbs.log2 < 9000
theorem op_fdivB:OpR X (binaryOp .FloorDiv) (rI CDivB fun i j=>.int (i.fdiv j)):=opI fun _ _ _ _ _ _ _ hc q=>floordiv_int hc.1 q (Or.inl (PyProof.noPylong_of_log2 hc.2))
def rIsi(K:PySem.W.Frag):List V→Hp→VK→Prop:=fun xs H Q=>∃x n t b,xs=[x,.ty n]∧TyOf K H x t∧PySem.W.kitOne K t (.type n)=some b∧Q (.bl b) H
theorem call_isi:CallR X (.builtin "isinstance") (rIsi X.K):=by
  intro pins s σ H xs us Q I r h
  obtain⟨x,n,t,b,rfl,ty,e,q⟩:=h
  cases r with
  | cons rx r1=>
    cases r1 with
    | cons ry r2=>
      cases r2
      cases ry
      exact isinst_ok I rx ty e fun tk=>⟨.bl b,H,I.tok _,rfl,q⟩
structure MkO(K:PySem.W.Frag)(C:Addr):Prop where
  makes:PySem.W.makesIn K C=true
  init:PySem.W.findIn K (.ref C) "__init__"=some (some (.builtin "object.__init__"))
  kp:PySem.W.keepIn K (.ref C)=true
def tMakeO(C:Addr):TE:=fun _ H Q=>∀x dx,H x=none→H dx=none→dx≠x→Q (.ref x) (upd (upd H dx (.own x)) x (.ins C dx []))
theorem pe_makeO{C:Addr}{x:Str}{p pos:Pos}(M:MkO X.K C)(hg:Gl X x)(hm:X.mg x=some (.ref C))(hdb:(x == ("__debug__":Str))=false:=by decide):PE X (.Call (.Name x p) [] [] pos) (tMakeO C):=by
  intro pins s σ H Q I h
  refine wpAny_Call_Name_kw (ld_glob I hg hm ?_ hdb)
  refine PySem.W.callWith_K0 I.kIn M.kp ?_
  have hq:=h (s.heap.objs.size+1) s.heap.objs.size (I.hok.fresh (Nat.le_succ _)) (I.hok.fresh (Nat.le_refl _)) (Nat.ne_of_lt (Nat.lt_succ_self _))
  have I2:=Inv.made (C:=C) I
  have Y:=PySem.W.makes_of (M:=model X.prog X.w) I.kIn M.makes
  refine wpAny_call (make_map0 I.kIn M.makes M.init (fun self=>PySem.W.Looks.of_pure (PySem.W.oi_bind self)) ?_)
  have t1:PySem.W.Looks (model X.prog X.w) ((s.heap.push PySem.W.emptyDict).push (PySem.W.instObj C s.heap.objs.size)) (typeOf (.ref (s.heap.objs.size+1))) (.ref C):=
    (PySem.W.Looks.ld (o:=PySem.W.instObj C s.heap.objs.size) (by have e:((s.heap.push PySem.W.emptyDict).push (PySem.W.instObj C s.heap.objs.size)).get? (s.heap.push PySem.W.emptyDict).objs.size=some (PySem.W.instObj C s.heap.objs.size):=Heap.get?_push_size _ rfl;rw[Heap.size_push]at e;exact e)).andThen .now
  have t2:PySem.W.Looks (model X.prog X.w) ((s.heap.push PySem.W.emptyDict).push (PySem.W.instObj C s.heap.objs.size)) (isInstance (.ref (s.heap.objs.size+1)) (.type "object")) true:=
    t1.andThen (Y.top.keeps fun b o e=>Heap.get?_push_of_some _ (Heap.get?_push_of_some _ e))
  refine PySem.codeAny_call_builtin PySem.W.oi_plain PySem.W.entry_oi (@PySem.W.check_slot (model X.prog X.w) _ _ _ "object.__init__" "object" "__init__" (.ref (s.heap.objs.size+1)) [] [] _ PySem.W.oi_kind PySem.W.oi_split t2 (PySem.W.oi_args (.ref (s.heap.objs.size+1))) ?_)
  rw[PySem.W.oi_run]
  exact wpAny_pure (And.intro rfl ⟨V.ref (s.heap.objs.size+1),_,I2,rfl,hq⟩)
end
mutual
inductive Is(K:PySem.W.Frag)(H:Hp):V→PyData→Prop
  | non:Is K H .non .none
  | bl (b:Bool):Is K H (.bl b) (.bool b)
  | int (i:Int):Is K H (.int i) (.int i)
  | str (x:Str):Is K H (.str x) (.str x)
  | tup {a:Addr} {xs:List V} {ds:List PyData}:SqT K H a xs→IsAll K H xs ds→Is K H (.ref a) (.tuple ds)
  | lst {a:Addr} {xs:List V} {ds:List PyData}:SqL K H a xs→IsAll K H xs ds→Is K H (.ref a) (.list ds)
inductive IsAll(K:PySem.W.Frag)(H:Hp):List V→List PyData→Prop
  | nil:IsAll K H [] []
  | cons {v:V} {vs:List V} {d:PyData} {ds:List PyData}:Is K H v d→IsAll K H vs ds→IsAll K H (v::vs) (d::ds)
end
theorem Same.tup{K:PySem.W.Frag}{H H':Hp}{a:Addr}{xs:List V}(e:Same H H')(h:SqT K H a xs):SqT K H' a xs:=by
  rcases h with (h | ⟨o,h⟩) | h
  · exact .inl (.inl (e _ _ h))
  · exact .inl (.inr ⟨o,e _ _ h⟩)
  · exact .inr h
mutual
theorem Is.same{K:PySem.W.Frag}{H H':Hp}(e:Same H H'):∀{v:V} {d:PyData},Is K H v d→Is K H' v d
  | _,_,.non=>.non
  | _,_,.bl b=>.bl b
  | _,_,.int i=>.int i
  | _,_,.str x=>.str x
  | _,_,.tup h r=>.tup (e.tup h) (IsAll.same e r)
  | _,_,.lst h r=>.lst (e.seq h) (IsAll.same e r)
theorem IsAll.same{K:PySem.W.Frag}{H H':Hp}(e:Same H H'):∀{v:List V} {d:List PyData},IsAll K H v d→IsAll K H' v d
  | _,_,.nil=>.nil
  | _,_,.cons a r=>.cons (Is.same e a) (IsAll.same e r)
end
section
variable{X:Cx}{pins:List (Addr × Obj)}{σ:St}{H:Hp}{s:Shared}
mutual
theorem Is.reads(I:Inv X pins σ H s):∀{v:V} {d:PyData} {u:Value},Is X.K H v d→RelV v u→∃as,Reads s.heap u d as
  | _,_,_,.non,r=>by cases r;exact⟨_,.none⟩
  | _,_,_,.bl b,r=>by cases r;exact⟨_,.bool b⟩
  | _,_,_,.int i,r=>by obtain⟨t,rfl⟩:=r;exact⟨_,.int i t⟩
  | _,_,_,.str x,r=>by obtain⟨t,rfl⟩:=r;exact⟨_,.str x t⟩
  | _,_,_,.tup h a,r=>by
    cases r
    obtain⟨its,rv,⟨o,ho,hc,n,hd⟩,_⟩:=I.tuple h
    obtain⟨as,hr⟩:=IsAll.reads I a rv
    exact⟨as,.tuple ho hc hd (by simpa using hr)⟩
  | _,_,_,.lst h a,r=>by
    cases r
    obtain⟨its,rv,⟨o,n,ho,hc,_,hd⟩,_⟩:=I.list h
    obtain⟨as,hr⟩:=IsAll.reads I a rv
    exact⟨_,.list ho hc hd (by simpa using hr)⟩
theorem IsAll.reads(I:Inv X pins σ H s):∀{vs:List V} {ds:List PyData} {us:List Value},IsAll X.K H vs ds→Vals vs us→∃as,ReadsAll s.heap us ds as
  | _,_,_,.nil,.nil=>⟨_,.nil⟩
  | _,_,_,.cons a r,.cons q t=>by
    obtain⟨as,h1⟩:=Is.reads I a q
    obtain⟨bs,h2⟩:=IsAll.reads I r t
    exact⟨_,.cons h1 h2⟩
end
def rEqD(K:PySem.W.Frag):R2:=fun x y H Q=>∃d d',Is K H x d∧Is K H y d'∧shaped d=true∧shaped d'=true∧noMix d d'=true∧Q (.bl (PySem.Spec.same d d')) H
theorem op_eqD(hu:X.A.units+64 < cLine):OpR X (compareOp .Eq) (rEqD X.K):=by
  intro pins s σ H x y v u Q I rx ry h
  obtain⟨d,d',hx,hy,sx,sy,nm,q⟩:=h
  obtain⟨as,ra⟩:=hx.reads I rx
  obtain⟨bs,rb⟩:=hy.reads I ry
  exact eq_dataH_same ra rb sx sy hu nm ⟨.bl _,H,I,rfl,q⟩
end
theorem iteI{i j:Int}{A B:Prop}(h1:i=j→A)(h2:¬i=j→B):if decide (V.int i=V.int j)=true then A else B:=by
  by_cases h:i=j
  · rw[if_pos (decide_eq_true (congrArg V.int h))];exact h1 h
  · rw[if_neg (by simpa using h)];exact h2 h
theorem iteP{p A B:Prop} [Decidable p](h1:p→A)(h2:¬p→B):if decide p=true then A else B:=by
  by_cases h:p
  · rw[if_pos (decide_eq_true h)];exact h1 h
  · rw[if_neg (by simpa using h)];exact h2 h
theorem same_upd{H:Hp}{p:Addr}{o:HO}(h:H p=none):Same H (upd H p o):=fun b u e=>by
  rw[upd_ne (ne_of_none e h)];exact e
end L2
namespace L2
open PySem PySem.Spec PyProof.Rows
section
variable{κ:Type} [DecidableEq κ]
def valV(kvs:List (κ × V))(k:κ):Option V:=(kvs.find? fun kv=>decide (kv.1=k)).map (·.2)
def putK(kvs:List (κ × V))(k:κ)(v:V):List (κ × V):=
  if(kvs.any fun kv=>decide (kv.1=k))=true then kvs.map (fun kv=>if kv.1=k then(kv.1,v)else kv)else kvs++[(k,v)]
def dropK(kvs:List (κ × V))(k:κ):List (κ × V):=kvs.filter fun kv=>decide (kv.1≠k)
theorem valV_pos{p:κ × V}{r:List (κ × V)}{k:κ}(e:p.1=k):valV (p::r) k=some p.2:=by simp[valV,List.find?_cons,e]
theorem valV_neg{p:κ × V}{r:List (κ × V)}{k:κ}(e:¬p.1=k):valV (p::r) k=valV r k:=by simp[valV,List.find?_cons,e]
theorem valV_any(k:κ):∀kvs:List (κ × V),(kvs.any fun kv=>decide (kv.1=k))=(valV kvs k).isSome
  | []=>rfl
  | p::r=>by
    rw[List.any_cons]
    by_cases e:p.1=k
    · simp only[valV_pos e,decide_eq_true e,Bool.true_or,Option.isSome_some]
    · rw[valV_neg e,decide_eq_false e,Bool.false_or];exact valV_any k r
theorem valV_map(k j:κ)(y:V):∀kvs:List (κ × V),valV (kvs.map fun kv=>if kv.1=k then(kv.1,y)else kv) j=(valV kvs j).map fun x=>if j=k then y else x
  | []=>rfl
  | p::r=>by
    have ih:=valV_map k j y r
    rw[List.map_cons]
    by_cases h:p.1=k
    · rw[if_pos h]
      by_cases e:p.1=j
      · rw[valV_pos (p:=(p.1,y)) e,valV_pos e,Option.map_some,if_pos (e.symm.trans h)]
      · rw[valV_neg (p:=(p.1,y)) e,valV_neg e,ih]
    · rw[if_neg h]
      by_cases e:p.1=j
      · rw[valV_pos (p:=p) e,valV_pos e,Option.map_some,if_neg (fun z=>h (e.trans z))]
      · rw[valV_neg (p:=p) e,valV_neg e,ih]
theorem valV_snoc(k j:κ)(y:V):∀kvs:List (κ × V),valV kvs k=none→valV (kvs++[(k,y)]) j=if j=k then some y else valV kvs j
  | [],_=>by
    by_cases e:k=j
    · rw[if_pos e.symm];exact valV_pos (p:=(k,y)) e
    · rw[if_neg (fun z=>e z.symm)];exact valV_neg (p:=(k,y)) e
  | p::r,hn=>by
    rw[List.cons_append]
    have hk:¬p.1=k:=fun z=>by rw[valV_pos z]at hn;cases hn
    rw[valV_neg hk]at hn
    have ih:=valV_snoc k j y r hn
    by_cases e:p.1=j
    · rw[valV_pos e,valV_pos e,if_neg (fun z=>hk (e.trans z))]
    · rw[valV_neg e,valV_neg e,ih]
theorem valV_put(kvs:List (κ × V))(k j:κ)(y:V):valV (putK kvs k y) j=if j=k then some y else valV kvs j:=by
  unfold putK
  by_cases a:(kvs.any fun kv=>decide (kv.1=k))=true
  · rw[if_pos a,valV_map]
    rw[valV_any]at a
    by_cases e:j=k
    · obtain⟨x,hx⟩:=Option.isSome_iff_exists.mp a
      rw[if_pos e,e,hx,Option.map_some,if_pos rfl]
    · rw[if_neg e]
      cases valV kvs j with
      | none=>rfl
      | some x=>rw[Option.map_some,if_neg e]
  · rw[if_neg a]
    refine valV_snoc k j y kvs ?_
    rw[valV_any]at a
    cases q:valV kvs k with
    | none=>rfl
    | some x=>rw[q]at a;exact(a rfl).elim
theorem length_putK(kvs:List (κ × V))(k:κ)(v:V):(putK kvs k v).length≤kvs.length+1:=by
  unfold putK
  split
  · rw[List.length_map];omega
  · rw[List.length_append,List.length_cons,List.length_nil];omega
theorem RelO.isSome_eq{o:Option V}{u:Option Value}(r:RelO o u):o.isSome=u.isSome:=by
  cases o with
  | none=>cases u with
    | none=>rfl
    | some _=>exact(show False from r).elim
  | some _=>cases u with
    | none=>exact(show False from r).elim
    | some _=>rfl
theorem RelO.getD{o:Option V}{u:Option Value}{d:V}{d':Value}(r:RelO o u)(rd:RelV d d'):RelV (o.getD d) (u.getD d'):=by
  cases o with
  | none=>cases u with
    | none=>exact rd
    | some _=>exact(show False from r).elim
  | some _=>cases u with
    | none=>exact(show False from r).elim
    | some _=>exact r
theorem KV.val{kvs:List (κ × V)}{vs:List (κ × Value)}(r:KV kvs vs)(k:κ):RelO (valV kvs k) (valueAt vs k):=by
  unfold KV at r
  induction r with
  | nil=>exact True.intro
  | @cons p q ps qs h t ih=>
    obtain⟨h1,h2⟩:=h
    by_cases e:p.1=k
    · have e':q.1=k:=h1.symm.trans e
      have b:valueAt (q::qs) k=some q.2:=by simp[valueAt,List.find?_cons,e']
      rw[valV_pos e,b];exact h2
    · have e':¬q.1=k:=fun z=>e (h1.trans z)
      have b:valueAt (q::qs) k=valueAt qs k:=by simp[valueAt,List.find?_cons,e']
      rw[valV_neg e,b];exact ih
theorem KV.any{kvs:List (κ × V)}{vs:List (κ × Value)}(r:KV kvs vs)(k:κ):(kvs.any fun kv=>decide (kv.1=k))=vs.any fun kv=>decide (kv.1=k):=by
  unfold KV at r
  induction r with
  | nil=>rfl
  | cons h t ih=>rw[List.any_cons,List.any_cons,ih,h.1]
theorem KV.repl{kvs:List (κ × V)}{vs:List (κ × Value)}(r:KV kvs vs)(k:κ){y:V}{u:Value}(ry:RelV y u) :
    KV (kvs.map fun kv=>if kv.1=k then(kv.1,y)else kv) (vs.map fun kv=>if kv.1=k then(kv.1,u)else kv):=by
  unfold KV at r ⊢
  induction r with
  | nil=>exact .nil
  | @cons p q ps qs h t ih=>
    rw[List.map_cons,List.map_cons]
    refine .cons ?_ ih
    obtain⟨h1,h2⟩:=h
    by_cases e:p.1=k
    · rw[if_pos e,if_pos (h1.symm.trans e)];exact⟨h1,ry⟩
    · rw[if_neg e,if_neg (fun z=>e (h1.trans z))];exact⟨h1,h2⟩
theorem KV.put{kvs:List (κ × V)}{vs:List (κ × Value)}(r:KV kvs vs)(k:κ){y:V}{u:Value}(ry:RelV y u):KV (putK kvs k y) (stored vs k u):=by
  unfold putK stored
  rw[r.any k]
  by_cases e:(vs.any fun kv=>decide (kv.1=k))=true
  · rw[if_pos e,if_pos e];exact r.repl k ry
  · rw[if_neg e,if_neg e];exact Paired.snoc r ⟨rfl,ry⟩
theorem KV.drop{kvs:List (κ × V)}{vs:List (κ × Value)}(r:KV kvs vs)(k:κ):KV (dropK kvs k) (without vs k):=by
  unfold KV at r ⊢
  unfold dropK without
  induction r with
  | nil=>exact .nil
  | @cons p q ps qs h t ih=>
    obtain⟨h1,h2⟩:=h
    rw[List.filter_cons,List.filter_cons]
    by_cases e:p.1=k
    · have a:¬decide (p.1≠k)=true:=by simp[e]
      have b:¬decide (q.1≠k)=true:=by simp[h1.symm.trans e]
      rw[if_neg a,if_neg b];exact ih
    · have e':¬q.1=k:=fun z=>e (h1.trans z)
      have a:decide (p.1≠k)=true:=by simp[e]
      have b:decide (q.1≠k)=true:=by simp[e']
      rw[if_pos a,if_pos b];exact .cons ⟨h1,h2⟩ ih
theorem KV.keys{kvs:List (κ × V)}{vs:List (κ × Value)}(r:KV kvs vs):kvs.map (·.1)=vs.map (·.1):=by
  unfold KV at r
  induction r with
  | nil=>rfl
  | cons h t ih=>rw[List.map_cons,List.map_cons,ih,h.1]
theorem KV.length{kvs:List (κ × V)}{vs:List (κ × Value)}(r:KV kvs vs):kvs.length=vs.length:=Paired.length r
end
theorem kV_is{P:Program}{w:World}{k:Key}{u:Value}(r:RelV (kV k) u):(mixKind P w).is k u=true:=by
  cases k with
  | inl i=>obtain⟨t,e⟩:=(show ∃t,u=Value.int i t from r);subst e;exact mixKind_int P w i t
  | inr x=>obtain⟨t,e⟩:=(show ∃t,u=Value.str x t from r);subst e;exact mixKind_str P w x t
theorem items_are{P:Program}{w:World}:∀{ks:List Key} {us:List Value},Vals (ks.map kV) us→ItemsAre (mixKind P w) ks us
  | [],_,r=>by rw[List.map_nil]at r;cases r;exact .nil
  | k::ks,_,r=>by
    rw[List.map_cons]at r
    cases r with
    | cons h t=>exact .cons (kV_is h) (items_are t)
abbrev KT(H:Hp):List (List Key × V)→List (List Key × Addr × Value)→Prop:=Paired fun p q=>p.1=q.1∧H q.2.1=some (.tup (p.1.map kV))∧RelV p.2 q.2.2
theorem KT.val{H:Hp}{kvs:List (List Key × V)}{xs:List (List Key × Addr × Value)}(r:KT H kvs xs)(k:List Key):RelO (valV kvs k) ((atKey xs k).map (·.2)):=by
  induction r with
  | nil=>exact True.intro
  | @cons p q ps qs h t ih=>
    obtain⟨h1,_,h2⟩:=h
    by_cases e:p.1=k
    · have e':q.1=k:=h1.symm.trans e
      have b:atKey (q::qs) k=some q.2:=by simp[atKey,List.find?_cons,e']
      rw[valV_pos e,b];exact h2
    · have e':¬q.1=k:=fun z=>e (h1.trans z)
      have b:atKey (q::qs) k=atKey qs k:=by simp[atKey,List.find?_cons,e']
      rw[valV_neg e,b];exact ih
theorem KT.repl{H:Hp}{kvs:List (List Key × V)}{xs:List (List Key × Addr × Value)}(r:KT H kvs xs)(k:List Key){y:V}{u:Value}(ry:RelV y u) :
    KT H (kvs.map fun kv=>if kv.1=k then(kv.1,y)else kv) (xs.map (putAt k u)):=by
  induction r with
  | nil=>exact .nil
  | @cons p q ps qs h t ih=>
    rw[List.map_cons,List.map_cons]
    refine .cons ?_ ih
    obtain⟨h1,h2,h3⟩:=h
    unfold putAt
    by_cases e:p.1=k
    · rw[if_pos e,if_pos (h1.symm.trans e)];exact⟨h1,h2,ry⟩
    · rw[if_neg e,if_neg (fun z=>e (h1.trans z))];exact⟨h1,h2,h3⟩
theorem KT.put{H:Hp}{kvs:List (List Key × V)}{xs:List (List Key × Addr × Value)}(r:KT H kvs xs)(k:List Key){b:Addr}{y:V}{u:Value}(hb:H b=some (.tup (k.map kV)))(ry:RelV y u) :
    KT H (putK kvs k y) (storedH xs k b u):=by
  have e:(kvs.any fun kv=>decide (kv.1=k))=(atKey xs k).isSome:=by
    rw[valV_any,(r.val k).isSome_eq,Option.isSome_map]
  unfold putK storedH
  rw[e]
  by_cases q:(atKey xs k).isSome=true
  · rw[if_pos q,if_pos q];exact r.repl k ry
  · rw[if_neg q,if_neg q];exact Paired.snoc r ⟨rfl,hb,ry⟩
theorem KT.keeps{H H':Hp}{kvs:List (List Key × V)}{xs:List (List Key × Addr × Value)}(r:KT H kvs xs)(ht:∀b ys,H b=some (.tup ys)→H' b=some (.tup ys)):KT H' kvs xs:=
  Paired.mapP r fun _ _ z=>⟨z.1,ht _ _ z.2.1,z.2.2⟩
section
variable{P:Program}{w:World}{H:Hp}{h:Heap}{a:Addr}
theorem rd_of{u:HO}(ok:HOk P w H h)(e:Rd H a u):ObjOk P w H h a u:=e.ok ok
theorem dk_rd{kvs:List (Key × V)}(ok:HOk P w H h)(e:Rd H a (.dK kvs)):kvs.length≤sizeLine∧(a == sysModules)=false∧∃vs,KV kvs vs∧h.DictOf (mixKind P w) a vs:=
  show ObjOk P w H h a (.dK kvs)from rd_of ok e
theorem dk_of{kvs:List (Key × V)}(ok:HOk P w H h)(e:H a=some (.dK kvs)):kvs.length≤sizeLine∧(a == sysModules)=false∧∃vs,KV kvs vs∧h.DictOf (mixKind P w) a vs:=dk_rd ok (.inl e)
theorem key_of{ks:List Key}(ok:HOk P w H h)(e:H a=some (.tup (ks.map kV))):(tupleKind (mixKind P w)).is h ks a:=by
  obtain⟨_,its,r,⟨o,h1,h2,n,h3⟩,_⟩:=(show ObjOk P w H h a (.tup (ks.map kV))from ok a _ e)
  exact⟨o,its.toArray,n,h1,h2,h3,by simpa using items_are r⟩
theorem dt_rd{kvs:List (List Key × V)}(ok:HOk P w H h)(e:Rd H a (.dT kvs)):kvs.length≤sizeLine∧(a == sysModules)=false∧
    ∃xs,KT H kvs xs∧h.DictOfH (tupleKind (mixKind P w)) a xs:=by
  obtain⟨z,y,xs,r,o,es,ep,h1,h2,h3,h4,h5⟩:=(show ObjOk P w H h a (.dT kvs)from rd_of ok e)
  refine⟨z,y,xs,r,o,es,ep,h1,h2,h3,h4,fun x hx=>?_,h5⟩
  have all:∀{l:List (List Key × V)} {m:List (List Key × Addr × Value)},KT H l m→∀x∈m,(tupleKind (mixKind P w)).is h x.1 x.2.1:=by
    intro l m q
    induction q with
    | nil=>intro x hx;exact nomatch hx
    | @cons p q ps qs hq t ih=>
      intro x hx
      rcases List.mem_cons.mp hx with e | hx
      · subst e
        exact key_of ok (by rw[← hq.1];exact hq.2.1)
      · exact ih x hx
  exact all r x hx
theorem dt_of{kvs:List (List Key × V)}(ok:HOk P w H h)(e:H a=some (.dT kvs)):kvs.length≤sizeLine∧(a == sysModules)=false∧
    ∃xs,KT H kvs xs∧h.DictOfH (tupleKind (mixKind P w)) a xs:=dt_rd ok (.inl e)
end
def DGet(H:Hp)(a:Addr)(y:V)(r:Option V):Prop:=
  (∃kvs k,Rd H a (.dK kvs)∧y=kV k∧r=valV kvs k)∨∃kvs k b,Rd H a (.dT kvs)∧y=.ref b∧H b=some (.tup (k.map kV))∧r=valV kvs k
def DPut(H:Hp)(a:Addr)(y v:V)(H':Hp):Prop:=
  (∃kvs k,H a=some (.dK kvs)∧y=kV k∧kvs.length < sizeLine∧H'=upd H a (.dK (putK kvs k v)))∨
  ∃kvs k b,H a=some (.dT kvs)∧y=.ref b∧H b=some (.tup (k.map kV))∧kvs.length < sizeLine∧H'=upd H a (.dT (putK kvs k v))
theorem DGet.k{H:Hp}{a:Addr}{kvs:List (Key × V)}{k:Key}(e:H a=some (.dK kvs)):DGet H a (kV k) (valV kvs k):=.inl ⟨kvs,k,.inl e,rfl,rfl⟩
theorem DGet.t{H:Hp}{a b:Addr}{kvs:List (List Key × V)}{k:List Key}(e:H a=some (.dT kvs))(eb:H b=some (.tup (k.map kV))):DGet H a (.ref b) (valV kvs k):=.inr ⟨kvs,k,b,.inl e,rfl,eb,rfl⟩
theorem DPut.k{H:Hp}{a:Addr}{kvs:List (Key × V)}{k:Key}{v:V}(e:H a=some (.dK kvs))(hl:kvs.length < sizeLine):DPut H a (kV k) v (upd H a (.dK (putK kvs k v))):=.inl ⟨kvs,k,e,rfl,hl,rfl⟩
theorem DPut.t{H:Hp}{a b:Addr}{kvs:List (List Key × V)}{k:List Key}{v:V}(e:H a=some (.dT kvs))(eb:H b=some (.tup (k.map kV)))(hl:kvs.length < sizeLine) :
    DPut H a (.ref b) v (upd H a (.dT (putK kvs k v))):=.inr ⟨kvs,k,b,e,rfl,eb,hl,rfl⟩
section
variable{X:Cx}{pins:List (Addr × Obj)}{σ:St}{H:Hp}{s:Shared}{a:Addr}{y v:V}{u r:Value}{o:Option V}{A:Around}{E:Value→Shared→Prop}
theorem Inv.big(I:Inv X pins σ H s):sysModules < s.heap.objs.size:=by
  have h:mainGlobals < s.heap.objs.size:=(I.mod.glob.keeps I.bk).lt
  exact Nat.lt_trans (by decide) h
theorem d_getItem{Q:Value→Shared→Prop}(hu:A.units+1 < cLine)(I:Inv X pins σ H s)(g:DGet H a y (some v))(ry:RelV y u)(h:∀w' s',Inv X pins σ H s'→RelV v w'→Q w' s') :
    wpAny (model X.prog X.w) A (getItem (.ref a) u) Q E s:=by
  rcases g with ⟨kvs,k,e,ey,l⟩ | ⟨kvs,k,b,e,ey,eb,l⟩
  · subst ey
    obtain⟨z,hd,vs,rel,dd⟩:=dk_rd I.hok e
    obtain⟨w',hw,rw'⟩:=RelO.some_of (v:=v) (o:=valueAt vs k) (by rw[l];exact rel.val k)
    exact wpAny_getItem_of (kV_is ry) dd.mapOf hw (h w' _ (I.tok _) rw')
  · subst ey
    cases (show u=Value.ref b from ry)
    obtain⟨z,hd,xs,rel,dd⟩:=dt_rd I.hok e
    obtain⟨w',hw,rw'⟩:=RelO.some_of (v:=v) (o:=(atKey xs k).map (·.2)) (by rw[l];exact rel.val k)
    obtain⟨p,hp,hp2⟩:=Option.map_eq_some_iff.mp hw
    refine wpAny_getItem_heap (tupleKind_room_in1 hu) (key_of I.hok eb) dd hp ?_
    rw[hp2]
    exact h w' _ (I.tok _) rw'
theorem d_in{Q:Value→Shared→Prop}(hu:A.units+1 < cLine)(I:Inv X pins σ H s)(g:DGet H a y o)(ry:RelV y u)(h:∀s',Inv X pins σ H s'→Q (.bool o.isSome) s') :
    wpAny (model X.prog X.w) A (compareOp .In u (.ref a)) Q E s:=by
  rcases g with ⟨kvs,k,e,ey,l⟩ | ⟨kvs,k,b,e,ey,eb,l⟩
  · subst ey
    obtain⟨z,hd,vs,rel,dd⟩:=dk_rd I.hok e
    refine wpAny_in_of (kV_is ry) hd dd.mapOf ?_
    rw[← (rel.val k).isSome_eq,← l]
    exact h _ (I.tok _)
  · subst ey
    cases (show u=Value.ref b from ry)
    obtain⟨z,hd,xs,rel,dd⟩:=dt_rd I.hok e
    refine wpAny_in_heap (tupleKind_room_in1 hu) (key_of I.hok eb) hd dd ?_
    have q:=(rel.val k).isSome_eq
    rw[Option.isSome_map]at q
    rw[← q,← l]
    exact h _ (I.tok _)
theorem d_notIn{Q:Value→Shared→Prop}(hu:A.units+1 < cLine)(I:Inv X pins σ H s)(g:DGet H a y o)(ry:RelV y u)(h:∀s',Inv X pins σ H s'→Q (.bool (!o.isSome)) s') :
    wpAny (model X.prog X.w) A (compareOp .NotIn u (.ref a)) Q E s:=by
  rcases g with ⟨kvs,k,e,ey,l⟩ | ⟨kvs,k,b,e,ey,eb,l⟩
  · subst ey
    obtain⟨z,hd,vs,rel,dd⟩:=dk_rd I.hok e
    refine wpAny_notIn_of (kV_is ry) hd dd.mapOf ?_
    rw[← (rel.val k).isSome_eq,← l]
    exact h _ (I.tok _)
  · subst ey
    cases (show u=Value.ref b from ry)
    obtain⟨z,hd,xs,rel,dd⟩:=dt_rd I.hok e
    refine wpAny_notIn_heap (tupleKind_room_in1 hu) (key_of I.hok eb) hd dd ?_
    have q:=(rel.val k).isSome_eq
    rw[Option.isSome_map]at q
    rw[← q,← l]
    exact h _ (I.tok _)
theorem d_write{h':Heap}{t':Nat}{ob:HO}(I:Inv X pins σ H s)(mu:Mut (H a))(hs:Heap.SameBut a s.heap h')(he:∃q,h'.get? a=some q)(new:ObjOk X.prog X.w (upd H a ob) h' a ob) :
    Inv X pins σ (upd H a ob) { s with heap:=h',toks:=t' }:=
  I.write (x:=a) (e:=a) mu (.inl rfl) (fun b q hb z=>(hs.2 b hb).trans z) he new
theorem dk_new{P:Program}{w:World}{H':Hp}{h':Heap}{kvs:List (Key × V)}{vs:List (Key × Value)}(z:kvs.length≤sizeLine)(hd:(a == sysModules)=false)(rel:KV kvs vs)(dd:h'.DictOf (mixKind P w) a vs) :
    ObjOk P w H' h' a (.dK kvs):=⟨z,hd,vs,rel,dd⟩
theorem d_setItem{H':Hp}{Q:Unit→Shared→Prop}(hu:A.units+1 < cLine)(I:Inv X pins σ H s)(g:DPut H a y v H')(ry:RelV y u)(rv:RelV v r)(h:∀s',Inv X pins σ H' s'→Q () s') :
    wpAny (model X.prog X.w) A (setItem (.ref a) u r) Q E s:=by
  rcases g with ⟨kvs,k,e,ey,l,eH⟩ | ⟨kvs,k,b,e,ey,eb,l,eH⟩
  · subst ey eH
    obtain⟨z,hd,vs,rel,dd⟩:=dk_of I.hok e
    have hz:vs.length≤sizeLine:=by rw[← rel.length];exact z
    have hl:(putK kvs k v).length≤sizeLine:=by have:=length_putK kvs k v;omega
    refine wpAny_setItem_pairs (hsz:=hz) (kV_is ry) dd fun h' dd' hs=>h _ ?_
    have he:∃q,h'.get? a=some q:=let⟨q,_,_,hq,_⟩:=dd';⟨q,hq⟩
    exact d_write I (by rw[e];exact True.intro) hs he (dk_new hl hd (rel.put k rv) dd')
  · subst ey eH
    cases (show u=Value.ref b from ry)
    obtain⟨z,hd,xs,rel,dd⟩:=dt_of I.hok e
    have hz:xs.length≤sizeLine:=by rw[← Paired.length rel];exact z
    have hl:(putK kvs k v).length≤sizeLine:=by have:=length_putK kvs k v;omega
    refine wpAny_setItem_heap (hsz:=hz) (tupleKind_room_in1 hu) (key_of I.hok eb) dd fun h' dd' hs=>h _ ?_
    obtain⟨q,es,ep,hq,h2,h3,h4,_,h5⟩:=dd'
    refine d_write I (by rw[e];exact True.intro) hs ⟨q,hq⟩ ⟨hl,hd,_,(rel.put k eb rv).keeps fun c ys ec=>?_,q,es,ep,hq,h2,h3,h4,h5⟩
    rw[upd_ne (ne_of ec e (fun z=>nomatch z))]
    exact ec
end
section
variable{X:Cx}{pins:List (Addr × Obj)}{σ:St}{H:Hp}{s:Shared}{a:Addr}{kvs:List (Key × V)}{k:Key}{u:Value}{A:Around}{E:Value→Shared→Prop}
end
def NoSl(i:Expr):Prop:=∀ov iv,subscripted i false ov iv=operate [ov,iv] (getItem ov iv)
theorem subD_of{prog:Program}{w:World}{A:Around}{E:Value→Shared→Prop}{s:Shared}{env:Env}{value slice:Expr}{pos:Pos}{T id:String}{Q:Value→Shared→Prop}
    (hl:typeLookup (.type T) "__getitem__"=pure (some (.builtin id))) (hs:NoSl slice)
    (h:wpAny (model prog w) A (eval value env) (fun o s₁=>wpAny (model prog w) A (eval slice env) (fun i s₂=>s₂.TypeIs o T∧wpAny (model prog w) A (getItem o i) Q E s₂) E s₁) E s) :
    wpAny (model prog w) A (eval (.Subscript value slice pos) env) Q E s:=by
  refine Subscript_ (wpAny_mono h (fun o s₁ h₁=>wpAny_mono h₁ (fun i s₂ h₂=>?_) fun _ _ x=>x) fun _ _ x=>x)
  obtain⟨hT,h₂⟩:=h₂
  unfold subscriptTail
  refine wpAny_bind ?_
  rw[getitemInPython_of_ne hT.not_modules]
  refine wpAny_bind (wpAny_specialOf hT hl ?_)
  have fin:wpAny (model prog w) A (subscripted slice false o i) (fun r s₃=>wpAny (model prog w) A (letTemporaryGo value o r >>= fun _=>pure r) Q E s₃) E s₂:=by
    rw[hs o i]
    exact wpAny_operating (wpAny_mono h₂ (fun r s₃ h₃=>wpAny_bind (wpAny_letTemporaryGo (wpAny_pure h₃))) fun _ _ x=>x)
  first
    | exact wpAny_pure (wpAny_bind fin)
    | exact wpAny_bind (wpAny_pure (wpAny_bind fin))
    | exact wpAny_bind fin
theorem dict_typeIs{X:Cx}{pins:List (Addr × Obj)}{σ:St}{H:Hp}{s:Shared}{a:Addr}{y:V}{o:Option V}(I:Inv X pins σ H s)(g:DGet H a y o):s.TypeIs (.ref a) "dict":=by
  rcases g with ⟨kvs,k,e,_,_⟩ | ⟨kvs,k,b,e,_,_,_⟩
  · obtain⟨_,_,vs,_,dd⟩:=dk_rd I.hok e
    exact dd.typeIs
  · obtain⟨_,_,xs,_,dd⟩:=dt_rd I.hok e
    exact dd.typeIs
def tDGet(td ty:TE):TE:=fun σ H Q=>td σ H fun x H1=>ty σ H1 fun y H2=>∃a v,x=.ref a∧DGet H2 a y (some v)∧Q v H2
def tDIn(ty td:TE):TE:=fun σ H Q=>ty σ H fun y H1=>td σ H1 fun x H2=>∃a o,x=.ref a∧DGet H2 a y o∧Q (.bl o.isSome) H2
def tDNotIn(ty td:TE):TE:=fun σ H Q=>ty σ H fun y H1=>td σ H1 fun x H2=>∃a o,x=.ref a∧DGet H2 a y o∧Q (.bl (!o.isSome)) H2
def sDPut(td ty tv:TE):TS:=fun D σ H=>tv σ H fun v H1=>td σ H1 fun x H2=>ty σ H2 fun y H3=>∃a H4,x=.ref a∧DPut H3 a y v H4∧D.nx σ H4
section
variable{X:Cx}{o i e value:Expr}{pos pos' tpos:Pos}{td ty tv:TE}
theorem pe_dget(hu:X.A.units+1 < cLine)(ho:PE X o td)(hi:PE X i ty)(hs:NoSl i):PE X (.Subscript o i pos) (tDGet td ty):=by
  intro pins s σ H Q I h
  refine subD_of PySem.F.slot_dict_getitem.lookup hs (thn (ho pins s σ H _ I h) fun u s1 ⟨x,H1,I1,rx,q1⟩=>thn (hi pins s1 σ H1 _ I1 q1) fun iv s2 ⟨y,H2,I2,ry,a,v,ex,g,q2⟩=>?_)
  subst ex
  obtain rfl:u=Value.ref a:=rx
  exact⟨dict_typeIs I2 g,d_getItem hu I2 g ry fun w' s3 I3 rw'=>⟨v,H2,I3,rw',q2⟩⟩
theorem pc_din(hu:X.A.units+1 < cLine)(hi:PE X i ty)(ho:PE X o td):PC X .In i o (tDIn ty td):=by
  intro pins s σ H Q I h
  refine thn (hi pins s σ H _ I h) fun iv s1 ⟨y,H1,I1,ry,q1⟩=>thn (ho pins s1 σ H1 _ I1 q1) fun u s2 ⟨x,H2,I2,rx,a,ov,ex,g,q2⟩=>?_
  subst ex
  obtain rfl:u=Value.ref a:=rx
  exact d_in hu I2 g ry fun s3 I3=>⟨.bl ov.isSome,H2,I3,rfl,q2⟩
theorem pc_dnotin(hu:X.A.units+1 < cLine)(hi:PE X i ty)(ho:PE X o td):PC X .NotIn i o (tDNotIn ty td):=by
  intro pins s σ H Q I h
  refine thn (hi pins s σ H _ I h) fun iv s1 ⟨y,H1,I1,ry,q1⟩=>thn (ho pins s1 σ H1 _ I1 q1) fun u s2 ⟨x,H2,I2,rx,a,ov,ex,g,q2⟩=>?_
  subst ex
  obtain rfl:u=Value.ref a:=rx
  exact d_notIn hu I2 g ry fun s3 I3=>⟨.bl (!ov.isSome),H2,I3,rfl,q2⟩
theorem ps_dput(hu:X.A.units+1 < cLine)(ho:PE X o td)(hi:PE X i ty)(hv:PE X value tv)(hs:swapsWith value (some (.Subscript o i pos')) pos.line X.env=pure false) :
    PS X (.Assign [.Subscript o i pos'] value pos) (sDPut td ty tv):=by
  intro pins s σ H D I h
  refine wpAny_Assign_Subscript (thn (hv pins s σ H _ I h) fun r s1 ⟨v,H1,I1,rv,q1⟩=>thn (ho pins s1 σ H1 _ I1 q1) fun u s2 ⟨x,H2,I2,rx,q2⟩=>thn (hi pins s2 σ H2 _ I2 q2) fun iv s3 ⟨y,H3,I3,ry,a,H4,ex,g,q3⟩=>?_) hs
  subst ex
  obtain rfl:u=Value.ref a:=rx
  exact d_setItem hu I3 g ry rv fun s4 I4=>⟨σ,H4,I4,q3⟩
end
theorem dk_empty{P:Program}{w:World}{H:Hp}(h:Heap)(hb:sysModules < h.objs.size):ObjOk P w H (h.push { cls:=.type "dict",data:=.dict #[] }) h.objs.size (.dK []):=
  ⟨Nat.zero_le _,beq_eq_false_iff_ne.mpr (Ne.symm (Nat.ne_of_lt hb)),[],.nil,Heap.DictOf.new h⟩
def tDNewK:TE:=fun _ H Q=>∀p,H p=none→Q (.ref p) (upd H p (.dK []))
section
variable{X:Cx}{pos:Pos}
theorem pe_dnewK:PE X (.Dict [] [] pos) tDNewK:=fun pins s σ H Q I h=>
  wpAny_Dict_empty ⟨.ref s.heap.objs.size,_,I.laid (a:=s.heap.objs.size) (o:=.dK []) (t':=s.toks) (fun _ _ q=>Heap.get?_push_of_some _ q) (Nat.le_refl _) (dk_empty s.heap I.big),rfl,h _ (I.hok.fresh (Nat.le_refl _))⟩
end
def tPairs:List (TE × TE)→St→Hp→(List (V × V)→Hp→Prop)→Prop
  | [],_,H,Q=>Q [] H
  | (tk,tv)::r,σ,H,Q=>tk σ H fun x H1=>tv σ H1 fun y H2=>tPairs r σ H2 fun ps H3=>Q ((x,y)::ps) H3
abbrev VV:List (V × V)→List (Value × Value)→Prop:=Paired fun p q=>RelV p.1 q.1∧RelV p.2 q.2
def PPs(X:Cx)(pos:Pos)(keys:List (Option Expr))(values:List Expr)(trs:List (TE × TE)):Prop:=
  ∀(pins:List (Addr × Obj)) (s:Shared) (σ:St) (H:Hp) (Q:List (V × V)→Hp→Prop),Inv X pins σ H s→tPairs trs σ H Q→
    wpAny (model X.prog X.w) X.A (evalPairs (pairTrees keys values X.env pos)) (fun vs s'=>∃ps H',Inv X pins σ H' s'∧VV ps vs∧Q ps H') X.xe s
theorem pps_nil{X:Cx}{pos:Pos}:PPs X pos [] [] []:=fun pins s σ H Q I h=>pairTrees_nil_walk ⟨[],H,I,.nil,h⟩
theorem pps_cons{X:Cx}{pos:Pos}{k v:Expr}{ks:List (Option Expr)}{vs:List Expr}{tk tv:TE}{trs:List (TE × TE)}(hk:PE X k tk)(hv:PE X v tv)(hr:PPs X pos ks vs trs) :
    PPs X pos (some k::ks) (v::vs) ((tk,tv)::trs):=fun pins s σ H Q I h=>
  pairTrees_cons_walk (thn (hk pins s σ H _ I h) fun u s1 ⟨x,H1,I1,rx,q1⟩=>thn (hv pins s1 σ H1 _ I1 q1) fun w2 s2 ⟨y,H2,I2,ry,q2⟩=>
    thn (hr pins s2 σ H2 _ I2 q2) fun ws s3 ⟨ps,H3,I3,rel,q3⟩=>⟨(x,y)::ps,H3,I3,.cons ⟨rx,ry⟩ rel,q3⟩)
def mergeK(kvs more:List (Key × V)):List (Key × V):=more.foldl (fun acc kv=>putK acc kv.1 kv.2) kvs
theorem KV.merge:∀{more:List (Key × V)} {rs:List (Key × Value)} {kvs:List (Key × V)} {vs:List (Key × Value)},KV more rs→KV kvs vs→KV (mergeK kvs more) (merged vs rs):=by
  intro more rs kvs vs r
  unfold KV at r
  induction r generalizing kvs vs with
  | nil=>intro q;exact q
  | @cons p q ps qs h t ih=>
    intro r0
    have e:KV (putK kvs p.1 p.2) (stored vs q.1 q.2):=by
      have:=r0.put p.1 h.2
      rw[← h.1];exact this
    exact ih e
theorem length_mergeK:∀(more kvs:List (Key × V)),(mergeK kvs more).length≤kvs.length+more.length
  | [],kvs=>by show kvs.length≤kvs.length+0;omega
  | p::r,kvs=>by
    have h1:=length_mergeK r (putK kvs p.1 p.2)
    have h2:=length_putK kvs p.1 p.2
    show(mergeK (putK kvs p.1 p.2) r).length≤_
    rw[List.length_cons];omega
theorem carries_of{P:Program}{w:World}:∀{kvs:List (Key × V)} {ws:List (Value × Value)},VV (kvs.map fun kv=>(kV kv.1,kv.2)) ws→∃rs,Carries (mixKind P w) ws rs∧KV kvs rs
  | [],_,r=>by rw[List.map_nil]at r;cases r;exact⟨[],True.intro,.nil⟩
  | p::kvs,_,r=>by
    rw[List.map_cons]at r
    cases r with
    | @cons a b as bs h t=>
      obtain⟨rs,c,q⟩:=carries_of (P:=P) (w:=w) t
      obtain⟨b1,b2⟩:=b
      exact⟨(p.1,b2)::rs,⟨kV_is h.1,rfl,c⟩,.cons ⟨rfl,h.2⟩ q⟩
def tDisp(trs:List (TE × TE)):TE:=fun σ H Q=>∀p,H p=none→tPairs trs σ (upd H p (.dK [])) fun ps H2=>H2 p=some (.dK [])∧∃kvs:List (Key × V),ps=kvs.map (fun kv=>(kV kv.1,kv.2))∧kvs.length≤15∧Q (.ref p) (upd H2 p (.dK (mergeK [] kvs)))
theorem pe_disp{X:Cx}{pos:Pos}{keys:List (Option Expr)}{values:List Expr}{trs:List (TE × TE)}(h:PPs X pos keys values trs)(hall:keys.all (·.isSome)=true)(hl:keys.length=values.length)(h0:keys≠[])
    (h15:keys.length≤15):PE X (.Dict keys values pos) (tDisp trs):=by
  intro pins s σ H Q I q
  have hn:=I.hok.fresh (Nat.le_refl s.heap.objs.size)
  have I1:=I.laid (a:=s.heap.objs.size) (o:=.dK []) (h':=s.heap.push { cls:=.type "dict",data:=.dict #[] }) (t':=s.toks) (fun _ _ q=>Heap.get?_push_of_some _ q) (Nat.le_refl _) (dk_empty s.heap I.big)
  refine wpAny_Dict_walk (knd:=mixKind X.prog X.w) hall hl h0 h15 (thn (h pins _ σ _ _ I1 (q _ hn)) fun ws s2 ⟨ps,H2,I2,rel,e,kvs,ep,lk,q2⟩=>?_)
  subst ep
  obtain⟨rs,c,rk⟩:=carries_of (P:=X.prog) (w:=X.w) rel
  obtain⟨z,hd,vs0,r0,dd⟩:=dk_of I2.hok e
  cases r0
  refine⟨rs,c,dd,fun h' dd' hs=>⟨.ref s.heap.objs.size,_,?_,rfl,q2⟩⟩
  have hz:(mergeK [] kvs).length≤sizeLine:=by
    have h1:=length_mergeK kvs []
    rw[List.length_nil]at h1
    rw[sizeLine_eq];omega
  have he:∃q,h'.get? s.heap.objs.size=some q:=let⟨q,_,_,hq,_⟩:=dd';⟨q,hq⟩
  exact d_write I2 (by rw[e];exact True.intro) hs he (dk_new hz hd (rk.merge .nil) dd')
structure M1(X:Cx)(o:Expr)(m:Str)(apos:Pos)(e:Expr)(cpos:Pos):Prop where
  base:attributeBase o m X.env (eval o X.env)=eval o X.env
  few:((backTo cpos (starEach [e] X.env)).all (fun x=>!x.1) && (backToKw cpos (keywordEach [] X.env)).all (fun x=>x.1.isSome)
    && decide (([e]:List Expr).length+([]:List Keyword).length+(if([]:List Keyword).isEmpty then 0 else 1) < 30))=true
  line:(apos.endLine == cpos.line)=true
  trees:backTo cpos (starEach [e] X.env)=[(false,eval e X.env)]
structure M2(X:Cx)(o:Expr)(m:Str)(apos:Pos)(e f:Expr)(cpos:Pos):Prop where
  base:attributeBase o m X.env (eval o X.env)=eval o X.env
  few:((backTo cpos (starEach [e,f] X.env)).all (fun x=>!x.1) && (backToKw cpos (keywordEach [] X.env)).all (fun x=>x.1.isSome)
    && decide (([e,f]:List Expr).length+([]:List Keyword).length+(if([]:List Keyword).isEmpty then 0 else 1) < 30))=true
  line:(apos.endLine == cpos.line)=true
  trees:backTo cpos (starEach [e,f] X.env)=[(false,eval e X.env),(false,eval f X.env)]
section
variable{X:Cx}{pins:List (Addr × Obj)}{σ:St}{H:Hp}{s:Shared}{a:Addr}{y d:V}{u r:Value}{o:Option V}{A:Around}{E:Value→Shared→Prop}
end
section
variable{X:Cx}{o e f:Expr}{apos cpos:Pos}{td ty tx:TE}
end
section
variable{X:Cx}{pins:List (Addr × Obj)}{σ:St}{H:Hp}{s:Shared}{a:Addr}{kvs:List (Key × V)}{A:Around}{E:Value→Shared→Prop}
theorem d_copyOf{Q:Value→Shared→Prop}(I:Inv X pins σ H s)(e:Rd H a (.dK kvs))(h:∀p s',H p=none→Inv X pins σ (upd H p (.dK kvs)) s'→Q (.ref p) s'):wpAny (model X.prog X.w) A (call (.type "dict") [.ref a]) Q E s:=by
  obtain⟨z,hd,vs,rel,dd⟩:=dk_rd I.hok e
  refine kt_call_dict hd dd (by rw[← rel.length];exact z) fun h' dd' hs=>?_
  refine h _ _ (I.hok.fresh (Nat.le_refl _)) (I.laid (a:=s.heap.objs.size) (o:=.dK kvs) (t':=s.toks) (fun b q hq=>?_) (Nat.le_refl _) (dk_new z (beq_eq_false_iff_ne.mpr (Ne.symm (Nat.ne_of_lt I.big))) rel dd'))
  exact(hs.2 b (Nat.ne_of_lt (Heap.lt_size hq))).trans (Heap.get?_push_of_some _ hq)
end
section
variable{X:Cx}{pins:List (Addr × Obj)}{σ:St}{H:Hp}{s:Shared}{a:Addr}{y:V}{u:Value}{A:Around}{E:Value→Shared→Prop}
end
end L2
namespace L2
open PySem PySem.Spec PyProof.Rows
def cloOf(cells:List (Str × Addr)):List (Str × NameKind)→List (Str × Addr)→List (Str × Addr)
  | [],cs=>cs
  | (n,k)::r,cs=>cloOf cells r (if(k == .free)=true then(n,(cells.lookup n).getD 0)::cs else cs)
theorem clo_for{env:Env}:∀(names:List (Str × NameKind)) (cs:List (Str × Addr)),(∀n,(n,NameKind.free)∈names→∃c,env.cells.lookup n=some c)→
    (forIn names cs fun(x:Str × NameKind) (r:List (Str × Addr))=>(match x with | (name,kind)=>if(kind == NameKind.free)=true then(do let c ← cellOf env name;pure (ForInStep.yield ((name,c)::r)))else pure (ForInStep.yield r):Sem (ForInStep (List (Str × Addr)))))=pure (cloOf env.cells names cs)
  | [],cs,_=>rfl
  | (n,k)::r,cs,h=>by
    rw[List.forIn_cons]
    by_cases hk:k=.free
    · subst hk
      obtain⟨c,hc⟩:=h n List.mem_cons_self
      have ih:=clo_for (env:=env) r ((n,c)::cs) fun m hm=>h m (List.mem_cons_of_mem _ hm)
      have e1:cellOf env n=pure c:=by unfold cellOf;rw[hc]
      simp only[beq_self_eq_true,if_true,e1,pure_bind]
      rw[ih]
      conv=>rhs;unfold cloOf
      simp only[beq_self_eq_true,if_true,hc,Option.getD_some]
    · have hb:(k == NameKind.free)=false:=by simpa using hk
      have ih:=clo_for (env:=env) r cs fun m hm=>h m (List.mem_cons_of_mem _ hm)
      simp only[hb,Bool.false_eq_true,if_false,pure_bind]
      rw[ih]
      conv=>rhs;unfold cloOf
      simp only[hb,Bool.false_eq_true,if_false]
theorem clo_closure{env:Env}{scope:Scope}(h:∀n,(n,NameKind.free)∈scope.names→∃c,env.cells.lookup n=some c):closureFor scope env=pure (cloOf env.cells scope.names []):=by
  have e:=clo_for (env:=env) scope.names [] h
  unfold closureFor
  simp only[bind_pure]
  exact e
theorem clo_in{cells:List (Str × Addr)}:∀{names:List (Str × NameKind)} {cs:List (Str × Addr)},(∀n,(n,NameKind.free)∈names→∃c,cells.lookup n=some c)→∀{y c},(cloOf cells names cs).lookup y=some c→cs.lookup y=some c∨cells.lookup y=some c
  | [],cs,_,y,c,e=>.inl e
  | (n,k)::r,cs,h,y,c,e=>by
    unfold cloOf at e
    have h':∀m,(m,NameKind.free)∈r→∃c,cells.lookup m=some c:=fun m hm=>h m (List.mem_cons_of_mem _ hm)
    rcases clo_in h' e with z | z
    · by_cases hk:k=.free
      · subst hk
        obtain⟨d,hd⟩:=h n List.mem_cons_self
        simp only[beq_self_eq_true,if_true,hd,Option.getD_some]at z
        rw[List.lookup_cons]at z
        cases hy:(y == n)with
        | true=>
          rw[hy]at z
          have:y=n:=beq_iff_eq.mp hy
          subst this
          exact .inr (hd.trans z)
        | false=>rw[hy]at z;exact .inl z
      · have hb:(k == NameKind.free)=false:=by simpa using hk
        simp only[hb,Bool.false_eq_true,if_false]at z
        exact .inl z
    · exact .inr z
theorem clo_has{cells:List (Str × Addr)}:∀{names:List (Str × NameKind)} {cs:List (Str × Addr)} {y:Str},((∃c,cs.lookup y=some c)∨(y,NameKind.free)∈names)→∃c,(cloOf cells names cs).lookup y=some c
  | [],cs,y,h=>by
    rcases h with h | h
    · exact h
    · cases h
  | (n,k)::r,cs,y,h=>by
    unfold cloOf
    refine clo_has ?_
    rcases h with ⟨c,h⟩ | h
    · left
      split
      · rw[List.lookup_cons]
        cases hy:(y == n)with
        | true=>exact⟨_,rfl⟩
        | false=>exact⟨c,h⟩
      · exact⟨c,h⟩
    · rcases List.mem_cons.mp h with e | h
      · cases e
        left
        simp only[beq_self_eq_true,if_true]
        rw[List.lookup_cons,beq_self_eq_true]
        exact⟨_,rfl⟩
      · exact .inr h
theorem compLoop_any{prog:Program}{w:World}{A:Around}{R:Result→Shared→Prop}{s:Shared}{elt target iter:Expr}{scope:Scope}{pos:Pos}{it acc:Value}{env:Env}(I:Nat→Shared→Prop)
    (turn:∀n s,I n s→wpAny (model prog w) A (pyNext it) (fun r s₁=>match r with
      | none=>R (.ok .next) s₁
      | some v=>wpAny (model prog w) A (letOwnedTupleGo target it v) (fun _ s₁'=>wpAny (model prog w) A (assign target env v) (fun _ s₂=>wpAny (model prog w) A (eval elt env) (fun x s₃=>
          wpAny (model prog w) A (call (.builtin "list.append") [acc,x]) (fun _ s₄=>∃m,m < n∧I m s₄) (fun _ _=>False) s₃) (fun _ _=>False) s₂) (fun _ _=>False) s₁') (fun _ _=>False) s₁) (fun _ _=>False) s)
    (n:Nat) (h:I n s) :
    codeAny (model prog w) A (.compLoop (.ListComp elt [⟨target,iter,[],0⟩] scope pos) 0 it acc env) R s:=by
  refine codeAny_loop rfl I (fun n s hI=>?_) n h
  show wpAny _ _ ((compTurn (.ListComp elt [⟨target,iter,[],0⟩] scope pos) 0 it acc env).onRaise (fun x=>do noteFrame x env;theTreesLotGoes x)) _ _ s
  refine wpAny_noted ?_
  rw[compTurn_list1]
  refine wpAny_bind (wpAny_standAt (wpAny_bind (wpAny_mono (turn n s hI) (fun r s₁ h₁=>?_) fun _ _ h'=>h'.elim)))
  cases r with
  | none=>exact wpAny_pure h₁
  | some v=>
    exact wpAny_bind (wpAny_mono h₁ (fun _ s1' h1'=>wpAny_bind (wpAny_mono h1' (fun _ s₂ h₂=>wpAny_bind (wpAny_bind (wpAny_mono h₂ (fun x s₃ h₃=>wpAny_bind (wpAny_mono h₃
      (fun _ s₄ h₄=>wpAny_pure (wpAny_pure ⟨rfl,h₄⟩)) fun _ _ h'=>h'.elim)) fun _ _ h'=>h'.elim))) fun _ _ h'=>h'.elim)) fun _ _ h'=>h'.elim)
theorem HOk.track{P:Program}{w:World}{H:Hp}{h:Heap}{a:Addr}{o:HO}(x:HOk P w H h)(n:H a=none)(new:ObjOk P w (upd H a o) h a o):HOk P w (upd H a o) h:=fun b u e=>by
  by_cases hb:b=a
  · subst hb;rw[upd_same]at e;cases e;exact new
  · rw[upd_ne hb]at e
    exact(x b u e).stay (fun _ _ _ q=>q) (fun c q=>by rw[upd_ne (ne_of_none q n)];exact q) fun c xs q=>by rw[upd_ne (ne_of_none q n)];exact q
theorem Un.track{fs ex:List Addr}{H H':Hp}{h h':Heap}{a:Addr}{o:HO}(u:Un fs ex H H' h h')(hp:h.objs.size≤a)(n:H' a=none):Un fs ex H (upd H' a o) h h' where
  keep:=u.keep
  slot:=u.slot
  free:=fun b ob q m hx=>by rw[upd_ne (Nat.ne_of_lt (Nat.lt_of_lt_of_le (Heap.lt_size q) hp))];exact u.free b ob q m hx
  there:=u.there
  tups:=fun b xs q=>by have z:=u.tups b xs q;rw[upd_ne (ne_of_none z n)];exact z
  frzs:=fun b ob xs q=>by have z:=u.frzs b ob xs q;rw[upd_ne (ne_of_none z n)];exact z
  tbls:=fun b ps q=>by obtain⟨m,z⟩:=u.tbls b ps q;exact⟨m,by rw[upd_ne (ne_of_none z n)];exact z⟩
theorem cells_app:∀(names:List (Str × NameKind)) (n:Nat) (acc:List (Str × Addr)),cellsFrom n names acc=cellsFrom n names []++acc
  | [],_,_=>rfl
  | (x,k)::r,n,acc=>by
    unfold cellsFrom
    split
    · rw[cells_app r (n+1) ((x,n)::acc),cells_app r (n+1) [(x,n)],List.append_assoc];rfl
    · exact cells_app r n acc
theorem cells_in:∀(names:List (Str × NameKind)) (n:Nat) (y:Str) (c:Addr),(y,c)∈cellsFrom n names []→(y,NameKind.cell)∈names
  | [],_,_,_,h=>by cases h
  | (x,k)::r,n,y,c,h=>by
    unfold cellsFrom at h
    split at h
    · rename_i hk
      rw[cells_app]at h
      rcases List.mem_append.mp h with h | h
      · exact List.mem_cons_of_mem _ (cells_in r (n+1) y c h)
      · have e:=List.mem_singleton.mp h
        cases e
        rw[show k=NameKind.cell by simpa using hk]
        exact List.mem_cons_self
    · exact List.mem_cons_of_mem _ (cells_in r n y c h)
theorem cells_has:∀(names:List (Str × NameKind)) (n:Nat) (y:Str),(y,NameKind.cell)∈names→∃c,(y,c)∈cellsFrom n names []
  | [],_,_,h=>by cases h
  | (x,k)::r,n,y,h=>by
    unfold cellsFrom
    rcases List.mem_cons.mp h with e | h
    · cases e
      rw[if_pos (show(NameKind.cell == NameKind.cell)=true by decide),cells_app]
      exact⟨n,List.mem_append_right _ List.mem_cons_self⟩
    · split
      · rw[cells_app]
        obtain⟨c,hc⟩:=cells_has r (n+1) y h
        exact⟨c,List.mem_append_left _ hc⟩
      · exact cells_has r n y h
theorem lookup_app{α:Type}:∀(l r:List (Str × α)) (y:Str),(l++r).lookup y=match l.lookup y with | some c=>some c | none=>r.lookup y
  | [],_,_=>rfl
  | (x,c)::l,r,y=>by
    rw[List.cons_append,List.lookup_cons,List.lookup_cons]
    cases (y == x)with
    | true=>rfl
    | false=>exact lookup_app l r y
theorem lookup_mem{α:Type}:∀{l:List (Str × α)} {y:Str} {c:α},(y,c)∈l→∃c',l.lookup y=some c'
  | (x,d)::l,y,c,h=>by
    rw[List.lookup_cons]
    cases hb:(y == x)with
    | true=>exact⟨d,rfl⟩
    | false=>
      rcases List.mem_cons.mp h with e | h
      · cases e;rw[beq_self_eq_true]at hb;cases hb
      · exact lookup_mem h
abbrev cbOf(env:Env)(scope:Scope)(C:Addr):List (Str × Addr):=cellsFrom (C+1) scope.names (cloOf env.cells scope.names [])
theorem cb_lookup{env:Env}{scope:Scope}{C:Addr}{y:Str}{c:Addr}(h:(cbOf env scope C).lookup y=some c):(y,c)∈cellsFrom (C+1) scope.names []∨(cloOf env.cells scope.names []).lookup y=some c:=by
  rw[show cbOf env scope C=_ from cells_app _ _ _,lookup_app]at h
  split at h
  · rename_i e;cases h;exact .inl (PySem.mem_of_lookup e)
  · exact .inr h
theorem cb_own{env:Env}{scope:Scope}{C:Addr}{y:Str}{c:Addr}(k:scope.names.lookup y=some .cell)(h:(cbOf env scope C).lookup y=some c):(y,c)∈cellsFrom (C+1) scope.names []:=by
  rw[show cbOf env scope C=_ from cells_app _ _ _,lookup_app]at h
  obtain⟨d,hd⟩:=cells_has scope.names (C+1) y (PySem.mem_of_lookup k)
  obtain⟨d',hd'⟩:=lookup_mem hd
  rw[hd']at h
  cases h
  exact PySem.mem_of_lookup hd'
theorem cells_above:∀(names:List (Str × NameKind)) (n:Nat) (y:Str) (c:Addr),(y,c)∈cellsFrom n names []→n≤c
  | [],_,_,_,h=>by cases h
  | (x,k)::r,n,y,c,h=>by
    unfold cellsFrom at h
    split at h
    · rw[cells_app]at h
      rcases List.mem_append.mp h with h | h
      · have:=cells_above r (n+1) y c h;omega
      · cases List.mem_singleton.mp h;exact Nat.le_refl _
    · exact cells_above r n y c h
theorem cells_inj:∀(names:List (Str × NameKind)) (n:Nat) (x y:Str) (c:Addr),(x,c)∈cellsFrom n names []→(y,c)∈cellsFrom n names []→x=y
  | [],_,_,_,_,h,_=>by cases h
  | (z,k)::r,n,x,y,c,h,g=>by
    unfold cellsFrom at h g
    split at h
    · rename_i hk
      rw[if_pos hk]at g
      rw[cells_app]at h g
      rcases List.mem_append.mp h with h | h <;>rcases List.mem_append.mp g with g | g
      · exact cells_inj r (n+1) x y c h g
      · cases List.mem_singleton.mp g
        have:=cells_above r (n+1) x _ h;omega
      · cases List.mem_singleton.mp h
        have:=cells_above r (n+1) y _ g;omega
      · cases List.mem_singleton.mp h;cases List.mem_singleton.mp g;rfl
    · rename_i hk
      rw[if_neg hk]at g
      exact cells_inj r n x y c h g
theorem newEnv_comp{M:Model}{A:Around}{E:Value→Shared→Prop}{s:Shared}{scope:Scope}{globals:Addr}{closure:List (Str × Addr)}{qual:Str}{env:Env}{Q:Env→Shared→Prop}
    (hQ:∀h':Heap,h'.Ns s.heap.objs.size (fun _=>none)→(∀b o,s.heap.get? b=some o→h'.get? b=some o)→CellsOk h' (s.heap.objs.size+1) (cellsFrom (s.heap.objs.size+1) scope.names [])→
      Q (newEnv scope s.heap.objs.size globals (cellsFrom (s.heap.objs.size+1) scope.names closure) qual none .none (some env) builtinsNs) { s with heap:=h',toks:=s.toks+([]:List (Str × Value)).length }) :
    wpAny M A (newFunctionEnv scope globals closure [] qual none .none (some env)) Q E s:=by
  simp only[newFunctionEnv,Option.isSome_some,if_true]
  refine wpAny_bind (wpAny_alloc ?_)
  refine wpAny_bind (wpAny_layCells _ (fun name kind cells=>by cases hkc:kind == NameKind.cell <;>simp[hkc]) _ _ _ _ ?_)
  have ok:=cellsFrom_ok scope.names (s.heap.push { cls:=.type "dict",data:=.dict #[] }) (s.heap.objs.size+1) [] ⟨fun _ _ hm=>(nomatch hm),List.Pairwise.nil⟩ (by rw[Heap.size_push];exact Nat.le_refl _)
  rw[Heap.size_push]at ok
  rw[show({ s with heap:=s.heap.push { cls:=.type "dict",data:=.dict #[] } }:Shared).heap.objs.size=s.heap.objs.size+1 from Heap.size_push ..]
  rw[List.forIn_nil]
  refine wpAny_bind (wpAny_pure (wpAny_pure ?_))
  exact hQ _ ((Heap.Ns.new s.heap (.type "dict")).keeps (pushCells_keeps _ _)) (fun b o e=>pushCells_keeps _ _ b o (Heap.get?_push_of_some _ e)) ok
def compCx(X:Cx)(scope:Scope)(xs:List Str)(C:Addr)(s:Shared)(H:Hp)(fp:List Addr)(pn:List (Addr × Obj)):Cx:=
  { X with env:=compEnvC scope (cbOf X.env scope C) C X.env,N:=X.N++xs,s₀:=s,H₀:=H,outer:=X.stack,ex:=fp,fn:=fun y=>scope.names.lookup y == some .cell,pn:=pn,xe:=fun _ _=>False }
structure CompOk(N:List Str)(S T:Scope):Prop where
  kind:T.kind=.function
  cell:∀y∈N,T.names.lookup y≠some .cell
  names:∀y∈T.names,y.2=.local→T.names.lookup y.1=some .local
  uniq:∀y∈T.names,T.names.lookup y.1=some y.2
  free:∀y∈T.names,y.2=.free→S.names.lookup y.1=some .cell∨S.names.lookup y.1=some .free
  vis:∀y∈N,T.names.lookup y≠some .local
def rl(env:Env)(z:Str × NameKind):Str × NameKind:=match z with | (n,k)=>if(k == NameKind.free && env.scope.kind == .function && env.kindOf n == some .cell)then(n,NameKind.cell)else(n,k)
theorem rl_fst(env:Env)(n:Str)(k:NameKind):(rl env (n,k)).1=n:=by unfold rl;dsimp only;split <;>rfl
theorem rl_snd(env:Env)(n:Str)(k:NameKind):(rl env (n,k)).2=k∨(k=.free∧(rl env (n,k)).2=.cell):=by
  unfold rl
  dsimp only
  split
  · rename_i h
    simp only[Bool.and_eq_true]at h
    exact .inr ⟨by simpa using h.1.1,rfl⟩
  · exact .inl rfl
theorem rl_lookup{env:Env}:∀{names:List (Str × NameKind)} {y:Str} {k:NameKind},(names.map (rl env)).lookup y=some k→names.lookup y=some k∨(names.lookup y=some .free∧k=.cell)
  | [],_,_,h=>by cases h
  | (n,j)::r,y,k,h=>by
    have ih:=@rl_lookup env r y k
    rw[List.map_cons,show rl env (n,j)=((rl env (n,j)).1,(rl env (n,j)).2)from rfl,rl_fst,List.lookup_cons]at h
    rw[List.lookup_cons]
    cases hy:(y == n)with
    | true=>
      rw[hy]at h
      have h:(rl env (n,j)).2=k:=Option.some.inj h
      rcases rl_snd env n j with z | ⟨z1,z2⟩
      · exact .inl (by rw[← h,z])
      · exact .inr ⟨by rw[z1],by rw[← h,z2]⟩
    | false=>
      rw[hy]at h
      exact ih h
theorem relabel_free{env:Env}{scope:Scope}{y:Str}(h:(relabel scope env).names.lookup y=some .cell∨(relabel scope env).names.lookup y=some .free):scope.names.lookup y=some .free∨scope.names.lookup y=some .cell:=by
  have e:(relabel scope env).names=scope.names.map (rl env):=rfl
  rw[e]at h
  rcases h with h | h
  · rcases rl_lookup h with z | ⟨z,_⟩
    · exact .inr z
    · exact .inl z
  · rcases rl_lookup h with z | ⟨z,_⟩
    · exact .inl z
    · exact .inl z
theorem relabel_local{env:Env}{scope:Scope}{y:Str}(h:(relabel scope env).names.lookup y=some .local):scope.names.lookup y=some .local:=by
  have e:(relabel scope env).names=scope.names.map (rl env):=rfl
  rw[e]at h
  rcases rl_lookup h with z | ⟨_,z⟩
  · exact z
  · cases z
theorem Un.but{fs ex:List Addr}{H H':Hp}{h h1 h2:Heap}{C:Addr}(u:Un fs ex H H' h h1)(hb:∀b o,b≠C→h1.get? b=some o→h2.get? b=some o)(hC:h.objs.size≤C):Un fs ex H H' h h2:=by
  have ne:∀b o,h.get? b=some o→b≠C:=fun b o e=>Nat.ne_of_lt (Nat.lt_of_lt_of_le (Heap.lt_size e) hC)
  refine⟨fun b o e n hf hx=>hb b o (ne b o e) (u.keep b o e n hf hx),fun b o e n hf hx=>?_,u.free,fun b o e hx=>?_,u.tups,u.frzs,u.tbls⟩
  · obtain⟨sl,q⟩:=u.slot b o e n hf hx
    exact⟨sl,hb b _ (ne b o e) q⟩
  · obtain⟨o',q⟩:=u.there b o e hx
    exact⟨o',hb b _ (ne b o e) q⟩
theorem HOk.but{P:Program}{w:World}{H:Hp}{h1 h2:Heap}{C:Addr}(x:HOk P w H h1)(hb:∀b o,b≠C→h1.get? b=some o→h2.get? b=some o)(n:H C=none):HOk P w H h2:=fun b u e=>
  (x b u e).stay (fun c v hc q=>hb c v (by
    rcases hc with rfl | hc
    · exact ne_of_none e n
    · exact ne_of_none hc n) q) (fun _ q=>q) fun _ _ q=>q
section
variable{X:Cx}{pins:List (Addr × Obj)}{σ:St}{H:Hp}{s:Shared}{scope:Scope}{xs:List Str}{fp:List Addr}{C:Addr}
theorem comp_free(I:Inv X pins σ H s)(ok:CompOk X.N X.env.scope scope):∀n,(n,NameKind.free)∈scope.names→∃c,X.env.cells.lookup n=some c:=fun n hn=>I.ok.has n (ok.free _ hn rfl)
theorem comp_cell(I:Inv X pins σ H s)(ok:CompOk X.N X.env.scope scope){y:Str}{c:Addr}(e:(cbOf X.env scope C).lookup y=some c):(y,c)∈cellsFrom (C+1) scope.names []∨X.env.cells.lookup y=some c:=by
  rcases cb_lookup e with z | z
  · exact .inl z
  · rcases clo_in (comp_free I ok) z with z | z
    · cases z
    · exact .inr z
theorem comp_old(I:Inv X pins σ H s){y:Str}{c:Addr}(e:X.env.cells.lookup y=some c):c < s.heap.objs.size:=let⟨_,h⟩:=I.cell y c e;h.lt
theorem comp_ok(I:Inv X pins σ H s)(ok:CompOk X.N X.env.scope scope)(hf:∀b∈fp,FpOk X pins H b)(hx:∀b∈fp,b < s.heap.objs.size)(hC:s.heap.objs.size≤C) :
    (compCx X scope xs C s H fp (X.pn++pins)).Ok where
  mod:=I.mod
  kind:=ok.kind
  glob:=I.ok.glob
  blt:=I.ok.blt
  above:=hC
  inj:=fun x y c h1 h2=>by
    rcases comp_cell I ok h1 with z1 | z1 <;>rcases comp_cell I ok h2 with z2 | z2
    · exact cells_inj _ _ x y c z1 z2
    · exact absurd (Nat.lt_of_lt_of_le (comp_old I z2) (Nat.le_trans hC (Nat.le_of_lt (cells_above _ _ _ _ z1)))) (Nat.lt_irrefl _)
    · exact absurd (Nat.lt_of_lt_of_le (comp_old I z1) (Nat.le_trans hC (Nat.le_of_lt (cells_above _ _ _ _ z2)))) (Nat.lt_irrefl _)
    · exact I.ok.inj x y c z1 z2
  has:=fun y hy=>by
    show ∃c,(cbOf X.env scope C).lookup y=some c
    rw[show cbOf X.env scope C=_ from cells_app _ _ _,lookup_app]
    rcases relabel_free hy with z | z
    · obtain⟨c,hc⟩:=clo_has (cells:=X.env.cells) (cs:=[]) (.inr (PySem.mem_of_lookup z))
      split
      · rename_i c' _;exact⟨c',rfl⟩
      · exact⟨c,hc⟩
    · obtain⟨c,hc⟩:=cells_has scope.names (C+1) y (PySem.mem_of_lookup z)
      obtain⟨c',hc'⟩:=lookup_mem hc
      rw[hc']
      exact⟨c',rfl⟩
  cab:=fun x c h e=>Nat.le_trans hC (Nat.le_of_lt (cells_above _ _ _ _ (cb_own (by have h:(scope.names.lookup x == some NameKind.cell)=true:=h;simpa using h) e)))
  hd:=I.ok.hd
  frames:=I.ok.frames
  stk:=.inl rfl
  exf:=fun b hb=>⟨Nat.ne_of_lt (Nat.lt_of_lt_of_le (hx b hb) hC),fun x c e=>by
    rcases comp_cell I ok e with z | z
    · exact Nat.ne_of_gt (Nat.lt_of_lt_of_le (hx b hb) (Nat.le_trans hC (Nat.le_of_lt (cells_above _ _ _ _ z))))
    · exact(hf b hb).2.2.2.2.1 x c z⟩
  bs:=I.bs
  bsz:=Nat.le_trans I.ok.bsz I.sz
  noex:=fun b o e hb=>by
    rcases(hf b hb).2.2.2.1 with z | z
    · exact I.ok.noex b o e z
    · exact absurd (Nat.lt_of_lt_of_le (Heap.lt_size e) (Nat.le_trans I.ok.bsz z)) (Nat.lt_irrefl _)
  exfs:=fun b hb z=>by
    rcases List.mem_cons.mp (I.stkSub b z)with q | q
    · exact(hf b hb).2.1 q
    · exact(hf b hb).2.2.1 q
  funs:=I.stack
  frf:=I.stkFree
theorem comp_start(I:Inv X pins σ H s)(ok:CompOk X.N X.env.scope scope)(hf:∀b∈fp,FpOk X pins H b)(hx:∀b∈fp,b < s.heap.objs.size)(hC:s.heap.objs.size≤C){h':Heap}{t':Nat}{m:Str→Option Value}
    (hn:h'.Ns C m) (hk:∀b o,s.heap.get? b=some o→h'.get? b=some o) (hcs:CellsOk h' (C+1) (cellsFrom (C+1) scope.names [])) :
    Inv (compCx X scope xs C s H fp (X.pn++pins)) [] (σ++List.replicate xs.length none) H { s with heap:=h',toks:=t' }where
  ok:=comp_ok I ok hf hx hC
  os:=rfl
  bare:=I.bare
  base:=Un.kept hk
  loc:=by
    refine⟨m,hn,fun i x v e1 e2 e3=>?_⟩
    have e1:(X.N++xs)[i]? = some x:=e1
    have hi:i < σ.length:=by
      by_cases hi:i < σ.length
      · exact hi
      · rw[List.getElem?_append_right (by omega),List.getElem?_replicate]at e2
        split at e2 <;>cases e2
    rw[List.getElem?_append_left hi]at e2
    rw[List.getElem?_append_left (by rw[← I.len];exact hi)]at e1
    have hxN:x∈X.N:=List.mem_of_getElem? e1
    have e4:(relabel scope X.env).names.lookup x=some .cell∨(relabel scope X.env).names.lookup x=some .free:=by
      rcases e3 with z | z
      · exact absurd (relabel_local z) (ok.vis x hxN)
      · exact z
    have e5:scope.names.lookup x=some .free:=by
      rcases relabel_free e4 with z | z
      · exact z
      · exact absurd z (ok.cell x hxN)
    have e6:=ok.free _ (PySem.mem_of_lookup e5) rfl
    obtain⟨m0,_,hl⟩:=I.loc
    obtain⟨u,ru,lu⟩:=hl i x v e1 e2 (.inr e6)
    refine⟨u,ru,.inr ⟨e4,?_⟩⟩
    rcases lu with ⟨q,_⟩ | ⟨_,c,hc,o,ho,hd⟩
    · have q:X.env.scope.names.lookup x=some .local:=q
      rcases e6 with z | z <;>(rw[q]at z;cases z)
    · obtain⟨c',hc'⟩:=clo_has (cells:=X.env.cells) (cs:=[]) (.inr (PySem.mem_of_lookup e5))
      have no:(cellsFrom (C+1) scope.names []).lookup x=none:=by
        cases e:(cellsFrom (C+1) scope.names []).lookup x with
        | none=>rfl
        | some d=>
          have:=ok.uniq _ (cells_in _ _ _ _ (PySem.mem_of_lookup e))
          rw[e5]at this
          cases this
      have hb:(cbOf X.env scope C).lookup x=some c':=by
        rw[show cbOf X.env scope C=_ from cells_app _ _ _,lookup_app,no]
        exact hc'
      rcases clo_in (comp_free I ok) hc' with z | z
      · cases z
      · rw[hc]at z
        cases z
        exact⟨c,hb,o,hk _ _ ho,hd⟩
  cell:=fun x c e=>by
    rcases comp_cell I ok e with z | z
    · exact⟨none,(hcs.empty x c z).1⟩
    · obtain⟨v,o,ho,hd⟩:=I.cell x c z
      exact⟨v,o,hk _ _ ho,hd⟩
  free:=I.hok.fresh hC
  freeC:=fun x c e=>by
    rcases comp_cell I ok e with z | z
    · exact I.hok.fresh (by have:=cells_above _ _ _ _ z;omega)
    · exact I.freeC x c z
  pin:=fun p hp=>by
    rw[List.append_nil]at hp
    obtain⟨e,n,ne,nf,d⟩:=I.pin p hp
    refine⟨hk _ _ e,n,Nat.ne_of_lt (Nat.lt_of_lt_of_le (Heap.lt_size e) hC),fun z=>?_,d⟩
    rcases List.mem_cons.mp (I.stkSub p.1 z)with q | q
    · exact ne q
    · exact nf q
  hok:=I.hok.kept hk
  len:=by
    show(σ++List.replicate xs.length none).length=(X.N++xs).length
    rw[List.length_append,List.length_append,List.length_replicate,I.len]
end
abbrev CTail(J:It)(k:Nat)(g:TG)(te:TE)(σ:St)(Q:VK)(H1:Hp):Prop:=∃W:Nat→Nat→List V→Hp→Prop,(∃m,W 0 m [] H1)∧∀i m ys H,W i m ys H→
  (J.stop i H∧ys.length≤sizeLine∧∀p,H p=none→Q (.ref p) (upd H p (.lst ys)))∨
  (J.go i H∧ys.length < sizeLine∧∀x H',J.yld i H x H'→g x (σ++List.replicate k none) H' fun σ2 H2=>(∃zs,σ2=σ++zs∧zs.length=k)∧te σ2 H2 fun v H3=>∃m',m' < m∧W (i+1) m' (ys++[v]) H3)
def tComp(k:Nat)(wi:TI)(g:TG)(te:TE):TE:=fun σ H Q=>wi σ H fun J H1=>CTail J k g te σ Q H1
theorem pe_comp{X:Cx}{elt target iter:Expr}{scope:Scope}{pos:Pos}{wi:TI}{g:TG}{te:TE}{xs:List Str}(hc:X.calm=true)(ok:CompOk X.N X.env.scope scope)(hi:PI X target iter wi)
    (hg:∀C s H fp pn,PG (compCx X scope xs C s H fp pn) target g) (he:∀C s H fp pn,PE (compCx X scope xs C s H fp pn) elt te)
    (hs:∀x,foldedSetIterable iter X.env x=pure x:=by intro _;rfl):PE X (.ListComp elt [⟨target,iter,[],0⟩] scope pos) (tComp xs.length wi g te):=by
  intro pins s σ H Q I h
  rw[eval_ListComp]
  refine wpAny_comprehension_free (use:=none) rfl hs (clo_closure (comp_free I ok)) ok.kind ok.names (thn (hi pins s σ H _ I h) fun v s1 h1=>thn h1 fun itv s2 h2=>?_)
  obtain⟨it,fp,tn,J,H2,rfl,I2,T,st2,f2,W,⟨m0,w0⟩,turn⟩:=h2
  refine wpAny_newObj_type (newEnv_comp fun h₁ hns₁ hsb₁ hcl₁=>?_)
  dsimp only at hns₁ hsb₁ hcl₁ ⊢
  generalize hD:s2.heap.objs.size=D
  generalize hH3:s2.heap.push { cls:=.type "list",dict:=none,data:=.seq ([]:List Value).toArray }=h3 at hns₁ hsb₁ hcl₁ ⊢
  have k23:∀b o,s2.heap.get? b=some o→h3.get? b=some o:=fun b o e=>hH3▸Heap.get?_push_of_some _ e
  have hC:h3.objs.size=D+1:=by rw[← hH3,Heap.size_push,hD]
  have eD3:h3.get? D=some { cls:=.type "list",dict:=none,data:=.seq ([]:List Value).toArray }:=by
    rw[← hH3,← hD];exact Heap.get?_push_size _ rfl
  have I3:Inv X pins σ H2 { s2 with heap:=h3 }:=I2.kept (t':=s2.toks) k23
  have fD:FpOk X pins H2 D:=I2.fpOk (by omega) (I2.hok.fresh (by omega))
  have lt2:∀b∈fp,b < D:=fun b hb=>by
    obtain⟨o,e,_⟩:=T.obj 0 _ st2 b hb
    rw[← hD]
    exact Heap.lt_size e
  have f3:∀b∈D::fp,FpOk X pins H2 b:=fun b hb=>by
    rcases List.mem_cons.mp hb with rfl | hb
    · exact fD
    · exact f2 b hb
  have hx3:∀b∈D::fp,b < ({ s2 with heap:=h3 }:Shared).heap.objs.size:=fun b hb=>by
    show b < h3.objs.size
    rcases List.mem_cons.mp hb with rfl | hb
    · rw[hC];exact Nat.lt_succ_self _
    · rw[hC];exact Nat.lt_succ_of_lt (lt2 b hb)
  have k31:∀b o,h3.get? b=some o→h₁.get? b=some o:=hsb₁
  have okX:=comp_ok (C:=h3.objs.size) (xs:=xs) I3 ok f3 hx3 (Nat.le_refl _)
  have I4:=comp_start (C:=h3.objs.size) (xs:=xs) (t':=s2.toks+([]:List (Str × Value)).length) I3 ok f3 hx3 (Nat.le_refl _) hns₁ k31 hcl₁
  have mD:D∈D::fp:=List.mem_cons_self
  have neC:∀b∈D::fp,b≠h3.objs.size:=fun b hb=>(okX.exf b hb).1
  have stat:∀{H':Hp} {pl:List (Addr × Obj)},(∀b∈fp,H' b=none)→(∀p∈pl,p.1=D)→∀b∈fp,FpOk (compCx X scope xs h3.objs.size { s2 with heap:=h3 } H2 (D::fp) (X.pn++pins)) pl H' b:=fun hn hpl b hb=>by
    have hb':b∈D::fp:=List.mem_cons_of_mem _ hb
    refine⟨hn b hb,neC b hb',okX.exfs b hb',.inl hb',(okX.exf b hb').2,fun p hp=>?_⟩
    rcases List.mem_append.mp hp with hp | hp
    · exact(f2 b hb).2.2.2.2.2 p hp
    · rw[hpl p hp]
      exact Nat.ne_of_gt (lt2 b hb)
  have loop:codeAny (model X.prog X.w) X.A (.compLoop (.ListComp elt [⟨target,iter,[],0⟩] scope pos) 0 (.ref it) (.ref D) (compEnvC scope (cbOf X.env scope h3.objs.size) h3.objs.size X.env))
      (compPost (model X.prog X.w) X.A X.xe none (EP X pins σ Q) (.ref D) h3.objs.size) { s2 with heap:=h₁,toks:=s2.toks+([]:List (Str × Value)).length }:=by
    refine compLoop_any (fun n s'=>∃i ys its k H',Inv (compCx X scope xs h3.objs.size { s2 with heap:=h3 } H2 (D::fp) (X.pn++pins)) [] (σ++List.replicate xs.length none) H' s'∧
      s'.heap.get? D=some { cls:=.type "list",data:=.seq (its:List Value).toArray k }∧Vals ys its∧H' D=none∧tn i s'.heap∧(∀b∈fp,H' b=none)∧W i n ys H') ?_ m0
      ⟨0,[],[],_,H2,I4,k31 _ _ eD3,.nil,fD.1,T.keep _ _ _ st2 (fun b _ o e=>k31 b o (k23 b o e)),fun b hb=>(f2 b hb).1,w0⟩
    rintro n s' ⟨i,ys,its,k,H',I',eD,rv,nD,st,fr,w⟩
    have Ip:=I'.pins_of (pins':=[(D,{ cls:=.type "list",data:=.seq its.toArray k })]) fun p hp=>by
      rw[List.mem_singleton]at hp
      subst hp
      exact⟨eD,nD,neC D mD,okX.exfs D mD,fun v z=>by cases z⟩
    have one:∀p∈[(D,({ cls:=.type "list",data:=.seq its.toArray k }:Obj))],p.1=D:=fun p hp=>by rw[List.mem_singleton]at hp;rw[hp]
    rcases turn i n ys H' w with ⟨stop,hz,q⟩ | ⟨go,hz,step⟩
    · refine thn (T.done (compCx X scope xs h3.objs.size { s2 with heap:=h3 } H2 (D::fp) (X.pn++pins)) rfl rfl rfl hc i _ s' _ H' (fun _ _=>False) Ip (stat fr one) st stop) fun r s4 ⟨hr,J4⟩=>?_
      subst hr
      obtain⟨mm,hnm,_⟩:=J4.loc
      refine⟨mm,hnm,fun h' sb=>?_⟩
      obtain⟨eD4,nD4,_⟩:=J4.pin (D,{ cls:=.type "list",data:=.seq its.toArray k }) (List.mem_append_right _ List.mem_cons_self)
      have hb:∀b o,b≠h3.objs.size→s4.heap.get? b=some o→h'.get? b=some o:=fun b o hn e=>sb.extBut b o hn e
      have u0:Un (frs X.stack) (D::fp) H2 H' h3 s4.heap:=J4.base
      have u:Un (frs X.stack) (D::fp) H2 H' s2.heap h':=((Un.kept k23).trans u0).but hb (by omega)
      have os4:s4.os=s2.os:=J4.os
      refine⟨.ref D,upd H' D (.lst ys),I2.call' (s':={ s4 with heap:=h' }) (ch:=D::fp) os4 (u.track (by omega) nD4) ((J4.hok.but hb J4.free).track nD4 ⟨hz,its,k,rv,hb D _ (neC D mD) eD4⟩) J4.bare (fun b hb=>?_),rfl,q D nD4⟩
      have z:=f3 b hb
      exact⟨z.2.2.2.1,z.2.1,z.2.2.2.2.1,z.2.2.2.2.2⟩
    · refine thn (T.item (compCx X scope xs h3.objs.size { s2 with heap:=h3 } H2 (D::fp) (X.pn++pins)) rfl rfl rfl hc i _ s' _ H' (fun _ _=>False) Ip (stat fr one) st go) fun r s4 ⟨u,hr,h4⟩=>?_
      subst hr
      refine thn h4 fun _ s5 ⟨x,H5,I5,r5,y5,st5,fr5⟩=>?_
      have I5':=I5.pinned (stat fr5 one) (T.obj _ _ st5)
      refine thn (hg _ _ _ _ _ _ s5 _ H5 x u _ I5' r5 (step x H5 y5)) fun _ s6 ⟨σ6,H6,I6,⟨zs,hz6,hl6⟩,q6⟩=>?_
      refine thn (he _ _ _ _ _ _ s6 σ6 H6 _ I6 q6) fun xv s7 ⟨v,H7,I7,r7,m',hm',w7⟩=>?_
      obtain⟨eD7,nD7,_⟩:=I7.pin (D,{ cls:=.type "list",data:=.seq its.toArray k }) (List.mem_append_right _ (List.mem_append_left _ List.mem_cons_self))
      have len:=rv.length
      refine call_meets F.slot_list_append ⟨_,eD7,rfl⟩ F.entry_list_append (F.args_list_append_2 _ _) (PySem.list_append D its.toArray k xv (by rw[List.size_toArray];omega)) ⟨eD7,?_⟩
      have q:=PySem.IsL.update eD7 (fun a=>a.push xv)
      have other:∀b o,b≠D→s7.heap.get? b=some o→(s7.heap.update D (Obj.mapSeq fun a=>a.push xv)).get? b=some o:=fun b o hb e=>(Heap.get?_update_other s7.heap _ (Ne.symm hb)).trans e
      have pinF:∀b∈fp,∀o,s5.heap.get? b=some o→s7.heap.get? b=some o∧H7 b=none:=fun b hb o e=>
        ⟨(I7.pin (b,o) (List.mem_append_right _ (List.mem_append_right _ (mem_pinsAt hb e)))).1,(I7.pin (b,o) (List.mem_append_right _ (List.mem_append_right _ (mem_pinsAt hb e)))).2.1⟩
      have I7':=I7.pins_of (pins':=[]) fun p hp=>by cases hp
      have I8:=I7'.turned (t':=s7.toks) (it:=D) other nD7 (neC D mD) (.inl mD) (okX.exf D mD).2 (fun p hp=>by
        rw[List.append_nil]at hp
        exact fD.2.2.2.2.2 p hp)
      have I9:=I8.weak (σ':=σ++List.replicate xs.length none) (by rw[hz6,List.length_append,List.length_append,List.length_replicate,hl6]) (fun j v' e=>by
        have hj:j < σ.length:=by
          by_cases hj:j < σ.length
          · exact hj
          · rw[List.getElem?_append_right (by omega),List.getElem?_replicate]at e
            split at e <;>cases e
        rw[List.getElem?_append_left hj]at e
        rw[hz6,List.getElem?_append_left hj]
        exact e)
      have e9:its.toArray.push xv=(its++[xv]).toArray:=by simp
      rw[e9]at q
      refine⟨m',hm',i+1,ys++[v],its++[xv],_,H7,I9,q,rv.append (.cons r7 .nil),nD7,T.keep _ _ _ st5 (fun b hb o e=>other b o (Nat.ne_of_lt (lt2 b hb)) (pinF b hb o e).1),fun b hb=>?_,w7⟩
      obtain⟨o,e,_⟩:=T.obj _ _ st5 b hb
      exact(pinF b hb o e).2
  exact codeAny_compStart_list loop (T.self _ 0 _ _ _ (T.keep _ _ _ st2 fun b _ o e=>k31 b o (k23 b o e)) loop)
end L2
namespace L2
open PySem PySem.Spec PyProof.Rows
abbrev Cx.rn(X:Cx)(i:Nat)(y:Str):Cx:={ X with N:=X.N.set i y }
section
variable{X:Cx}{pins:List (Addr × Obj)}{σ:St}{H:Hp}{s:Shared}{i:Nat}{y:Str}
theorem Inv.rn(I:Inv X pins σ H s)(h:σ[i]? = some none):Inv (X.rn i y) pins σ H s:=
  ⟨⟨I.ok.mod,I.ok.kind,I.ok.glob,I.ok.blt,I.ok.above,I.ok.inj,I.ok.has,I.ok.cab,I.ok.hd,I.ok.frames,I.ok.stk,I.ok.exf,I.ok.bs,I.ok.bsz,I.ok.noex,I.ok.exfs,I.ok.funs,I.ok.frf⟩,I.os,I.bare,I.base,
    let⟨m,hn,hl⟩:=I.loc;⟨m,hn,fun j x v e1 e2 e3=>by
      by_cases z:i=j
      · subst z;rw[h]at e2;cases e2
      · exact hl j x v (by rw[← e1];exact(List.getElem?_set_ne z).symm) e2 e3⟩,I.cell,I.free,I.freeC,I.pin,I.hok,by rw[I.len];exact List.length_set.symm⟩
theorem Inv.unrn(ok:X.Ok)(I:Inv (X.rn i y) pins σ H s)(h:σ[i]? = some none):Inv X pins σ H s:=
  ⟨ok,I.os,I.bare,I.base,let⟨m,hn,hl⟩:=I.loc;⟨m,hn,fun j x v e1 e2 e3=>by
      by_cases z:i=j
      · subst z;rw[h]at e2;cases e2
      · exact hl j x v (by rw[← e1];exact List.getElem?_set_ne z) e2 e3⟩,I.cell,I.free,I.freeC,I.pin,I.hok,by rw[I.len];exact List.length_set⟩
theorem pe_hide{e:Expr}{t:TE}(i:Nat)(y:Str)(h:PE (X.rn i y) e t):PE X e (fun σ H Q=>σ[i]? = some none∧t σ H Q):=by
  intro pins s σ H Q I ⟨hi,q⟩
  exact thn (h pins s σ H Q (I.rn hi) q) fun v s1 ⟨x,H1,I1,r,q1⟩=>⟨x,H1,I1.unrn I.ok hi,r,q1⟩
end
end L2
namespace L2
open PySem PySem.Spec PyProof.Rows
theorem compLoop_if{prog:Program}{w:World}{A:Around}{R:Result→Shared→Prop}{s:Shared}{elt target iter c:Expr}{scope:Scope}{pos:Pos}{it acc:Value}{env:Env}(I:Nat→Shared→Prop)
    (turn:∀n s,I n s→wpAny (model prog w) A (pyNext it) (fun r s₁=>match r with
      | none=>R (.ok .next) s₁
      | some v=>wpAny (model prog w) A (letOwnedTupleGo target it v) (fun _ s₁'=>wpAny (model prog w) A (assign target env v) (fun _ s₂=>wpAny (model prog w) A (isTrue c env (eval c env)) (fun ok s₂'=>
          if ok=true then wpAny (model prog w) A (eval elt env) (fun x s₃=>wpAny (model prog w) A (call (.builtin "list.append") [acc,x]) (fun _ s₄=>∃m,m < n∧I m s₄) (fun _ _=>False) s₃) (fun _ _=>False) s₂'
          else ∃m,m < n∧I m s₂') (fun _ _=>False) s₂) (fun _ _=>False) s₁') (fun _ _=>False) s₁) (fun _ _=>False) s)
    (n:Nat) (h:I n s) :
    codeAny (model prog w) A (.compLoop (.ListComp elt [⟨target,iter,[c],0⟩] scope pos) 0 it acc env) R s:=by
  refine codeAny_loop rfl I (fun n s hI=>?_) n h
  show wpAny _ _ ((compTurn (.ListComp elt [⟨target,iter,[c],0⟩] scope pos) 0 it acc env).onRaise (fun x=>do noteFrame x env;theTreesLotGoes x)) _ _ s
  refine wpAny_noted ?_;rw[compTurn_list]
  refine wpAny_bind (wpAny_standAt (wpAny_bind (wpAny_mono (turn n s hI) (fun r s₁ h₁=>?_) fun _ _ h'=>h'.elim)))
  cases r with
  | none=>exact wpAny_pure h₁
  | some v=>
    refine wpAny_bind (wpAny_mono h₁ (fun _ s1' h1'=>wpAny_bind (wpAny_mono h1' (fun _ s₂ h₂=>wpAny_bind (wpAny_tests_one (wpAny_mono h₂ (fun ok s₃ h₃=>?_) fun _ _ h'=>h'.elim))) fun _ _ h'=>h'.elim)) fun _ _ h'=>h'.elim)
    cases ok with
    | false=>exact wpAny_pure ⟨rfl,h₃⟩
    | true=>
      exact wpAny_bind (wpAny_bind (wpAny_mono h₃ (fun x s₄ h₄=>wpAny_bind (wpAny_mono h₄ (fun _ s₅ h₅=>wpAny_pure (wpAny_pure ⟨rfl,h₅⟩)) fun _ _ h'=>h'.elim)) fun _ _ h'=>h'.elim))
abbrev CTailI(J:It)(k:Nat)(g:TG)(tc:TT)(te:TE)(σ:St)(Q:VK)(H1:Hp):Prop:=∃W:Nat→Nat→List V→Hp→Prop,(∃m,W 0 m [] H1)∧∀i m ys H,W i m ys H→
  (J.stop i H∧ys.length≤sizeLine∧∀p,H p=none→Q (.ref p) (upd H p (.lst ys)))∨
  (J.go i H∧ys.length < sizeLine∧∀x H',J.yld i H x H'→g x (σ++List.replicate k none) H' fun σ2 H2=>(∃zs,σ2=σ++zs∧zs.length=k)∧tc σ2 H2 fun b H3=>if b=true then te σ2 H3 fun v H4=>∃m',m' < m∧W (i+1) m' (ys++[v]) H4 else ∃m',m' < m∧W (i+1) m' ys H3)
def tCompIf(k:Nat)(wi:TI)(g:TG)(tc:TT)(te:TE):TE:=fun σ H Q=>wi σ H fun J H1=>CTailI J k g tc te σ Q H1
theorem pe_compif{X:Cx}{elt target iter c:Expr}{scope:Scope}{pos:Pos}{wi:TI}{g:TG}{tc:TT}{te:TE}{xs:List Str}(hc:X.calm=true)(ok:CompOk X.N X.env.scope scope)(hi:PI X target iter wi)
    (hg:∀C s H fp pn,PG (compCx X scope xs C s H fp pn) target g) (ht:∀C s H fp pn,PT (compCx X scope xs C s H fp pn) c tc) (he:∀C s H fp pn,PE (compCx X scope xs C s H fp pn) elt te)
    (hs:∀x,foldedSetIterable iter X.env x=pure x:=by intro _;rfl):PE X (.ListComp elt [⟨target,iter,[c],0⟩] scope pos) (tCompIf xs.length wi g tc te):=by
  intro pins s σ H Q I h
  rw[eval_ListComp]
  refine wpAny_comprehension_free (use:=none) rfl hs (clo_closure (comp_free I ok)) ok.kind ok.names (thn (hi pins s σ H _ I h) fun v s1 h1=>thn h1 fun itv s2 h2=>?_)
  obtain⟨it,fp,tn,J,H2,rfl,I2,T,st2,f2,W,⟨m0,w0⟩,turn⟩:=h2
  refine wpAny_newObj_type (newEnv_comp fun h₁ hns₁ hsb₁ hcl₁=>?_)
  dsimp only at hns₁ hsb₁ hcl₁ ⊢
  generalize hD:s2.heap.objs.size=D
  generalize hH3:s2.heap.push { cls:=.type "list",dict:=none,data:=.seq ([]:List Value).toArray }=h3 at hns₁ hsb₁ hcl₁ ⊢
  have k23:∀b o,s2.heap.get? b=some o→h3.get? b=some o:=fun b o e=>hH3▸Heap.get?_push_of_some _ e
  have hC:h3.objs.size=D+1:=by rw[← hH3,Heap.size_push,hD]
  have eD3:h3.get? D=some { cls:=.type "list",dict:=none,data:=.seq ([]:List Value).toArray }:=by
    rw[← hH3,← hD];exact Heap.get?_push_size _ rfl
  have I3:Inv X pins σ H2 { s2 with heap:=h3 }:=I2.kept (t':=s2.toks) k23
  have fD:FpOk X pins H2 D:=I2.fpOk (by omega) (I2.hok.fresh (by omega))
  have lt2:∀b∈fp,b < D:=fun b hb=>by
    obtain⟨o,e,_⟩:=T.obj 0 _ st2 b hb
    rw[← hD]
    exact Heap.lt_size e
  have f3:∀b∈D::fp,FpOk X pins H2 b:=fun b hb=>by
    rcases List.mem_cons.mp hb with rfl | hb
    · exact fD
    · exact f2 b hb
  have hx3:∀b∈D::fp,b < ({ s2 with heap:=h3 }:Shared).heap.objs.size:=fun b hb=>by
    show b < h3.objs.size
    rcases List.mem_cons.mp hb with rfl | hb
    · rw[hC];exact Nat.lt_succ_self _
    · rw[hC];exact Nat.lt_succ_of_lt (lt2 b hb)
  have k31:∀b o,h3.get? b=some o→h₁.get? b=some o:=hsb₁
  have okX:=comp_ok (C:=h3.objs.size) (xs:=xs) I3 ok f3 hx3 (Nat.le_refl _)
  have I4:=comp_start (C:=h3.objs.size) (xs:=xs) (t':=s2.toks+([]:List (Str × Value)).length) I3 ok f3 hx3 (Nat.le_refl _) hns₁ k31 hcl₁
  have mD:D∈D::fp:=List.mem_cons_self
  have neC:∀b∈D::fp,b≠h3.objs.size:=fun b hb=>(okX.exf b hb).1
  have stat:∀{H':Hp} {pl:List (Addr × Obj)},(∀b∈fp,H' b=none)→(∀p∈pl,p.1=D)→∀b∈fp,FpOk (compCx X scope xs h3.objs.size { s2 with heap:=h3 } H2 (D::fp) (X.pn++pins)) pl H' b:=fun hn hpl b hb=>by
    have hb':b∈D::fp:=List.mem_cons_of_mem _ hb
    refine⟨hn b hb,neC b hb',okX.exfs b hb',.inl hb',(okX.exf b hb').2,fun p hp=>?_⟩
    rcases List.mem_append.mp hp with hp | hp
    · exact(f2 b hb).2.2.2.2.2 p hp
    · rw[hpl p hp]
      exact Nat.ne_of_gt (lt2 b hb)
  have loop:codeAny (model X.prog X.w) X.A (.compLoop (.ListComp elt [⟨target,iter,[c],0⟩] scope pos) 0 (.ref it) (.ref D) (compEnvC scope (cbOf X.env scope h3.objs.size) h3.objs.size X.env))
      (compPost (model X.prog X.w) X.A X.xe none (EP X pins σ Q) (.ref D) h3.objs.size) { s2 with heap:=h₁,toks:=s2.toks+([]:List (Str × Value)).length }:=by
    refine compLoop_if (fun n s'=>∃i ys its k H',Inv (compCx X scope xs h3.objs.size { s2 with heap:=h3 } H2 (D::fp) (X.pn++pins)) [] (σ++List.replicate xs.length none) H' s'∧
      s'.heap.get? D=some { cls:=.type "list",data:=.seq (its:List Value).toArray k }∧Vals ys its∧H' D=none∧tn i s'.heap∧(∀b∈fp,H' b=none)∧W i n ys H') ?_ m0
      ⟨0,[],[],_,H2,I4,k31 _ _ eD3,.nil,fD.1,T.keep _ _ _ st2 (fun b _ o e=>k31 b o (k23 b o e)),fun b hb=>(f2 b hb).1,w0⟩
    rintro n s' ⟨i,ys,its,k,H',I',eD,rv,nD,st,fr,w⟩
    have Ip:=I'.pins_of (pins':=[(D,{ cls:=.type "list",data:=.seq its.toArray k })]) fun p hp=>by
      rw[List.mem_singleton]at hp
      subst hp
      exact⟨eD,nD,neC D mD,okX.exfs D mD,fun v z=>by cases z⟩
    have one:∀p∈[(D,({ cls:=.type "list",data:=.seq its.toArray k }:Obj))],p.1=D:=fun p hp=>by rw[List.mem_singleton]at hp;rw[hp]
    rcases turn i n ys H' w with ⟨stop,hz,q⟩ | ⟨go,hz,step⟩
    · refine thn (T.done (compCx X scope xs h3.objs.size { s2 with heap:=h3 } H2 (D::fp) (X.pn++pins)) rfl rfl rfl hc i _ s' _ H' (fun _ _=>False) Ip (stat fr one) st stop) fun r s4 ⟨hr,J4⟩=>?_
      subst hr
      obtain⟨mm,hnm,_⟩:=J4.loc
      refine⟨mm,hnm,fun h' sb=>?_⟩
      obtain⟨eD4,nD4,_⟩:=J4.pin (D,{ cls:=.type "list",data:=.seq its.toArray k }) (List.mem_append_right _ List.mem_cons_self)
      have hb:∀b o,b≠h3.objs.size→s4.heap.get? b=some o→h'.get? b=some o:=fun b o hn e=>sb.extBut b o hn e
      have u0:Un (frs X.stack) (D::fp) H2 H' h3 s4.heap:=J4.base
      have u:Un (frs X.stack) (D::fp) H2 H' s2.heap h':=((Un.kept k23).trans u0).but hb (by omega)
      have os4:s4.os=s2.os:=J4.os
      refine⟨.ref D,upd H' D (.lst ys),I2.call' (s':={ s4 with heap:=h' }) (ch:=D::fp) os4 (u.track (by omega) nD4) ((J4.hok.but hb J4.free).track nD4 ⟨hz,its,k,rv,hb D _ (neC D mD) eD4⟩) J4.bare (fun b hb=>?_),rfl,q D nD4⟩
      have z:=f3 b hb
      exact⟨z.2.2.2.1,z.2.1,z.2.2.2.2.1,z.2.2.2.2.2⟩
    · refine thn (T.item (compCx X scope xs h3.objs.size { s2 with heap:=h3 } H2 (D::fp) (X.pn++pins)) rfl rfl rfl hc i _ s' _ H' (fun _ _=>False) Ip (stat fr one) st go) fun r s4 ⟨u,hr,h4⟩=>?_
      subst hr
      refine thn h4 fun _ s5 ⟨x,H5,I5,r5,y5,st5,fr5⟩=>?_
      have I5':=I5.pinned (stat fr5 one) (T.obj _ _ st5)
      refine thn (hg _ _ _ _ _ _ s5 _ H5 x u _ I5' r5 (step x H5 y5)) fun _ s6 ⟨σ6,H6,I6,⟨zs,hz6,hl6⟩,q6⟩=>?_
      have pinF:∀{s7:Shared} {σ7:St} {H7:Hp},Inv (compCx X scope xs h3.objs.size { s2 with heap:=h3 } H2 (D::fp) (X.pn++pins)) ([(D,{ cls:=.type "list",data:=.seq its.toArray k })]++pinsAt fp s5.heap) σ7 H7 s7→∀b∈fp,∀o,s5.heap.get? b=some o→s7.heap.get? b=some o∧H7 b=none:=fun I7 b hb o e=>
        ⟨(I7.pin (b,o) (List.mem_append_right _ (List.mem_append_right _ (mem_pinsAt hb e)))).1,(I7.pin (b,o) (List.mem_append_right _ (List.mem_append_right _ (mem_pinsAt hb e)))).2.1⟩
      have back:∀{H7:Hp} {s7:Shared},Inv (compCx X scope xs h3.objs.size { s2 with heap:=h3 } H2 (D::fp) (X.pn++pins)) [] σ6 H7 s7→Inv (compCx X scope xs h3.objs.size { s2 with heap:=h3 } H2 (D::fp) (X.pn++pins)) [] (σ++List.replicate xs.length none) H7 s7:=fun I8=>
        I8.weak (by rw[hz6,List.length_append,List.length_append,List.length_replicate,hl6]) (fun j v' e=>by
          have hj:j < σ.length:=by
            by_cases hj:j < σ.length
            · exact hj
            · rw[List.getElem?_append_right (by omega),List.getElem?_replicate]at e
              split at e <;>cases e
          rw[List.getElem?_append_left hj]at e
          rw[hz6,List.getElem?_append_left hj]
          exact e)
      refine thn (ht _ _ _ _ _ _ s6 σ6 H6 _ I6 q6) fun ok s6' ⟨H6',I6',q6'⟩=>?_
      cases ok with
      | false=>
        obtain⟨m',hm',w7⟩:=(show ∃m',m' < n∧W (i+1) m' ys H6' from q6')
        obtain⟨eD7,nD7,_⟩:=I6'.pin (D,{ cls:=.type "list",data:=.seq its.toArray k }) (List.mem_append_right _ (List.mem_append_left _ List.mem_cons_self))
        refine⟨m',hm',i+1,ys,its,_,H6',back (I6'.pins_of (pins':=[]) fun p hp=>by cases hp),eD7,rv,nD7,T.keep _ _ _ st5 (fun b hb o e=>(pinF I6' b hb o e).1),fun b hb=>?_,w7⟩
        obtain⟨o,e,_⟩:=T.obj _ _ st5 b hb
        exact(pinF I6' b hb o e).2
      | true=>
        refine thn (he _ _ _ _ _ _ s6' σ6 H6' _ I6' q6') fun xv s7 ⟨v,H7,I7,r7,m',hm',w7⟩=>?_
        obtain⟨eD7,nD7,_⟩:=I7.pin (D,{ cls:=.type "list",data:=.seq its.toArray k }) (List.mem_append_right _ (List.mem_append_left _ List.mem_cons_self))
        have len:=rv.length
        refine call_meets F.slot_list_append ⟨_,eD7,rfl⟩ F.entry_list_append (F.args_list_append_2 _ _) (PySem.list_append D its.toArray k xv (by rw[List.size_toArray];omega)) ⟨eD7,?_⟩
        have q:=PySem.IsL.update eD7 (fun a=>a.push xv)
        have other:∀b o,b≠D→s7.heap.get? b=some o→(s7.heap.update D (Obj.mapSeq fun a=>a.push xv)).get? b=some o:=fun b o hb e=>(Heap.get?_update_other s7.heap _ (Ne.symm hb)).trans e
        have I7':=I7.pins_of (pins':=[]) fun p hp=>by cases hp
        have I8:=I7'.turned (t':=s7.toks) (it:=D) other nD7 (neC D mD) (.inl mD) (okX.exf D mD).2 (fun p hp=>by
          rw[List.append_nil]at hp
          exact fD.2.2.2.2.2 p hp)
        have e9:its.toArray.push xv=(its++[xv]).toArray:=by simp
        rw[e9]at q
        refine⟨m',hm',i+1,ys++[v],its++[xv],_,H7,back I8,q,rv.append (.cons r7 .nil),nD7,T.keep _ _ _ st5 (fun b hb o e=>other b o (Nat.ne_of_lt (lt2 b hb)) (pinF I7 b hb o e).1),fun b hb=>?_,w7⟩
        obtain⟨o,e,_⟩:=T.obj _ _ st5 b hb
        exact(pinF I7 b hb o e).2
  exact codeAny_compStart_list loop (T.self _ 0 _ _ _ (T.keep _ _ _ st2 fun b _ o e=>k31 b o (k23 b o e)) loop)
end L2
namespace L2
open PySem PySem.Spec PyProof.Rows
theorem ps_setC{X:Cx}{i₀:Nat}{x₀:Str}{pos₀ pos₁:Pos}{elt target iter:Expr}{scope:Scope}{pos:Pos}{wi:TI}{g:TG}{te:TE}{xs:List Str}(hN:X.N.Nodup)(hi₀:X.N[i₀]? = some x₀)(hx₀:Loc X.env.scope x₀)(hc:X.calm=true)(ok:CompOk X.N X.env.scope scope)(hi:PI X target iter wi)
    (hg:∀C s H fp pn,PG (compCx X scope xs C s H fp pn) target g) (he:∀C s H fp pn,PE (compCx X scope xs C s H fp pn) elt te)
    (hs:∀x,foldedSetIterable iter X.env x=pure x:=by intro _;rfl) (hw:swapsWith (.ListComp elt [⟨target,iter,[],0⟩] scope pos) (some (.Name x₀ pos₀)) pos₁.line X.env=pure true:=by rfl)
    (hf₀:X.fn x₀=true∨X.env.scope.names.lookup x₀=some .local:=by first | exact .inl rfl | exact .inr rfl | assumption) :
    PS X (.Assign [.Name x₀ pos₀] (.ListComp elt [⟨target,iter,[],0⟩] scope pos) pos₁) (tAsg (tComp xs.length wi g te) (gName i₀)):=by
  intro pins s σ H D₀ I h
  rw[exec_Assign_Name_used _ _ _ _ hw]
  refine wpAny_bind (wpAny_standAt (wpAny_bind ?_))
  show wpAny _ _ (comprehension _ _ _ _ _ _ _ _ >>= _) _ _ _
  refine wpAny_bind (wpAny_comprehension_free (Q:=fun _ s'=>wpAny (model X.prog X.w) X.A (pure ()) (fun _ s''=>wpAny (model X.prog X.w) X.A (pure Flow.next) (SP X pins D₀) X.xe s'') X.xe s') (use:=some (assign (.Name x₀ pos₀) X.env)) rfl hs (clo_closure (comp_free I ok)) ok.kind ok.names (thn (hi pins s σ H _ I h) fun v s1 h1=>thn h1 fun itv s2 h2=>?_))
  obtain⟨it,fp,tn,J,H2,rfl,I2,T,st2,f2,W,⟨m0,w0⟩,turn⟩:=h2
  refine wpAny_newObj_type (newEnv_comp fun h₁ hns₁ hsb₁ hcl₁=>?_)
  dsimp only at hns₁ hsb₁ hcl₁ ⊢
  generalize hD:s2.heap.objs.size=D
  generalize hH3:s2.heap.push { cls:=.type "list",dict:=none,data:=.seq ([]:List Value).toArray }=h3 at hns₁ hsb₁ hcl₁ ⊢
  have k23:∀b o,s2.heap.get? b=some o→h3.get? b=some o:=fun b o e=>hH3▸Heap.get?_push_of_some _ e
  have hC:h3.objs.size=D+1:=by rw[← hH3,Heap.size_push,hD]
  have eD3:h3.get? D=some { cls:=.type "list",dict:=none,data:=.seq ([]:List Value).toArray }:=by
    rw[← hH3,← hD];exact Heap.get?_push_size _ rfl
  have I3:Inv X pins σ H2 { s2 with heap:=h3 }:=I2.kept (t':=s2.toks) k23
  have fD:FpOk X pins H2 D:=I2.fpOk (by omega) (I2.hok.fresh (by omega))
  have lt2:∀b∈fp,b < D:=fun b hb=>by
    obtain⟨o,e,_⟩:=T.obj 0 _ st2 b hb
    rw[← hD]
    exact Heap.lt_size e
  have f3:∀b∈D::fp,FpOk X pins H2 b:=fun b hb=>by
    rcases List.mem_cons.mp hb with rfl | hb
    · exact fD
    · exact f2 b hb
  have hx3:∀b∈D::fp,b < ({ s2 with heap:=h3 }:Shared).heap.objs.size:=fun b hb=>by
    show b < h3.objs.size
    rcases List.mem_cons.mp hb with rfl | hb
    · rw[hC];exact Nat.lt_succ_self _
    · rw[hC];exact Nat.lt_succ_of_lt (lt2 b hb)
  have k31:∀b o,h3.get? b=some o→h₁.get? b=some o:=hsb₁
  have okX:=comp_ok (C:=h3.objs.size) (xs:=xs) I3 ok f3 hx3 (Nat.le_refl _)
  have I4:=comp_start (C:=h3.objs.size) (xs:=xs) (t':=s2.toks+([]:List (Str × Value)).length) I3 ok f3 hx3 (Nat.le_refl _) hns₁ k31 hcl₁
  have mD:D∈D::fp:=List.mem_cons_self
  have neC:∀b∈D::fp,b≠h3.objs.size:=fun b hb=>(okX.exf b hb).1
  have stat:∀{H':Hp} {pl:List (Addr × Obj)},(∀b∈fp,H' b=none)→(∀p∈pl,p.1=D)→∀b∈fp,FpOk (compCx X scope xs h3.objs.size { s2 with heap:=h3 } H2 (D::fp) (X.pn++pins)) pl H' b:=fun hn hpl b hb=>by
    have hb':b∈D::fp:=List.mem_cons_of_mem _ hb
    refine⟨hn b hb,neC b hb',okX.exfs b hb',.inl hb',(okX.exf b hb').2,fun p hp=>?_⟩
    rcases List.mem_append.mp hp with hp | hp
    · exact(f2 b hb).2.2.2.2.2 p hp
    · rw[hpl p hp]
      exact Nat.ne_of_gt (lt2 b hb)
  have loop:codeAny (model X.prog X.w) X.A (.compLoop (.ListComp elt [⟨target,iter,[],0⟩] scope pos) 0 (.ref it) (.ref D) (compEnvC scope (cbOf X.env scope h3.objs.size) h3.objs.size X.env))
      (compPost (model X.prog X.w) X.A X.xe (some (assign (.Name x₀ pos₀) X.env)) (fun _ s'=>wpAny (model X.prog X.w) X.A (pure ()) (fun _ s''=>wpAny (model X.prog X.w) X.A (pure Flow.next) (SP X pins D₀) X.xe s'') X.xe s') (.ref D) h3.objs.size) { s2 with heap:=h₁,toks:=s2.toks+([]:List (Str × Value)).length }:=by
    refine compLoop_any (fun n s'=>∃i ys its k H',Inv (compCx X scope xs h3.objs.size { s2 with heap:=h3 } H2 (D::fp) (X.pn++pins)) [] (σ++List.replicate xs.length none) H' s'∧
      s'.heap.get? D=some { cls:=.type "list",data:=.seq (its:List Value).toArray k }∧Vals ys its∧H' D=none∧tn i s'.heap∧(∀b∈fp,H' b=none)∧W i n ys H') ?_ m0
      ⟨0,[],[],_,H2,I4,k31 _ _ eD3,.nil,fD.1,T.keep _ _ _ st2 (fun b _ o e=>k31 b o (k23 b o e)),fun b hb=>(f2 b hb).1,w0⟩
    rintro n s' ⟨i,ys,its,k,H',I',eD,rv,nD,st,fr,w⟩
    have Ip:=I'.pins_of (pins':=[(D,{ cls:=.type "list",data:=.seq its.toArray k })]) fun p hp=>by
      rw[List.mem_singleton]at hp
      subst hp
      exact⟨eD,nD,neC D mD,okX.exfs D mD,fun v z=>by cases z⟩
    have one:∀p∈[(D,({ cls:=.type "list",data:=.seq its.toArray k }:Obj))],p.1=D:=fun p hp=>by rw[List.mem_singleton]at hp;rw[hp]
    rcases turn i n ys H' w with ⟨stop,hz,q⟩ | ⟨go,hz,step⟩
    · refine thn (T.done (compCx X scope xs h3.objs.size { s2 with heap:=h3 } H2 (D::fp) (X.pn++pins)) rfl rfl rfl hc i _ s' _ H' (fun _ _=>False) Ip (stat fr one) st stop) fun r s4 ⟨hr,J4⟩=>?_
      subst hr
      obtain⟨mm,hnm,_⟩:=J4.loc
      obtain⟨eD4,nD4,_⟩:=J4.pin (D,{ cls:=.type "list",data:=.seq its.toArray k }) (List.mem_append_right _ List.mem_cons_self)
      have u0:Un (frs X.stack) (D::fp) H2 H' h3 s4.heap:=J4.base
      have u:Un (frs X.stack) (D::fp) H2 H' s2.heap s4.heap:=(Un.kept k23).trans u0
      have os4:s4.os=s2.os:=J4.os
      have nC4:H' h3.objs.size=none:=J4.free
      have IX:Inv X pins σ (upd H' D (.lst ys)) s4:=I2.call' (s':=s4) (ch:=D::fp) os4 (u.track (by omega) nD4) (J4.hok.track nD4 ⟨hz,its,k,rv,eD4⟩) J4.bare (fun b hb=>by
        have z:=f3 b hb
        exact⟨z.2.2.2.1,z.2.1,z.2.2.2.2.1,z.2.2.2.2.2⟩)
      have fC:FpOk X pins H2 h3.objs.size:=I2.fpOk (by omega) (I2.hok.fresh (by omega))
      have nCX:upd H' D (.lst ys) h3.objs.size=none:=by rw[upd_ne (Ne.symm (neC D mD))];exact nC4
      refine wpAny_assign_Name (store_ok2 IX hN hi₀ hx₀ (v:=.ref D) rfl (fun s5 I5 ⟨a5,sb5,ha5⟩=>⟨mm,?_,fun h' sb=>?_⟩) hf₀)
      · have:h3.objs.size≠a5:=by
          rcases ha5 with e | e
          · rw[e];exact fC.2.1
          · exact Ne.symm (fC.2.2.2.2.1 x₀ a5 e)
        obtain⟨o,es,ep,e,r⟩:=hnm
        exact⟨o,es,ep,sb5.extBut _ _ this e,r⟩
      · have I6:Inv X pins (σ.set i₀ (some (.ref D))) (upd H' D (.lst ys)) { s5 with heap:=h' }:=I5.turned (t':=s5.toks) (it:=h3.objs.size) (fun b o hb e=>sb.extBut b o hb e) nCX fC.2.1 fC.2.2.2.1 fC.2.2.2.2.1 fC.2.2.2.2.2
        exact wpAny_pure (wpAny_pure ⟨_,_,I6,q D nD4⟩)
    · refine thn (T.item (compCx X scope xs h3.objs.size { s2 with heap:=h3 } H2 (D::fp) (X.pn++pins)) rfl rfl rfl hc i _ s' _ H' (fun _ _=>False) Ip (stat fr one) st go) fun r s4 ⟨u,hr,h4⟩=>?_
      subst hr
      refine thn h4 fun _ s5 ⟨x,H5,I5,r5,y5,st5,fr5⟩=>?_
      have I5':=I5.pinned (stat fr5 one) (T.obj _ _ st5)
      refine thn (hg _ _ _ _ _ _ s5 _ H5 x u _ I5' r5 (step x H5 y5)) fun _ s6 ⟨σ6,H6,I6,⟨zs,hz6,hl6⟩,q6⟩=>?_
      refine thn (he _ _ _ _ _ _ s6 σ6 H6 _ I6 q6) fun xv s7 ⟨v,H7,I7,r7,m',hm',w7⟩=>?_
      obtain⟨eD7,nD7,_⟩:=I7.pin (D,{ cls:=.type "list",data:=.seq its.toArray k }) (List.mem_append_right _ (List.mem_append_left _ List.mem_cons_self))
      have len:=rv.length
      refine call_meets F.slot_list_append ⟨_,eD7,rfl⟩ F.entry_list_append (F.args_list_append_2 _ _) (PySem.list_append D its.toArray k xv (by rw[List.size_toArray];omega)) ⟨eD7,?_⟩
      have q:=PySem.IsL.update eD7 (fun a=>a.push xv)
      have other:∀b o,b≠D→s7.heap.get? b=some o→(s7.heap.update D (Obj.mapSeq fun a=>a.push xv)).get? b=some o:=fun b o hb e=>(Heap.get?_update_other s7.heap _ (Ne.symm hb)).trans e
      have pinF:∀b∈fp,∀o,s5.heap.get? b=some o→s7.heap.get? b=some o∧H7 b=none:=fun b hb o e=>
        ⟨(I7.pin (b,o) (List.mem_append_right _ (List.mem_append_right _ (mem_pinsAt hb e)))).1,(I7.pin (b,o) (List.mem_append_right _ (List.mem_append_right _ (mem_pinsAt hb e)))).2.1⟩
      have I7':=I7.pins_of (pins':=[]) fun p hp=>by cases hp
      have I8:=I7'.turned (t':=s7.toks) (it:=D) other nD7 (neC D mD) (.inl mD) (okX.exf D mD).2 (fun p hp=>by
        rw[List.append_nil]at hp
        exact fD.2.2.2.2.2 p hp)
      have I9:=I8.weak (σ':=σ++List.replicate xs.length none) (by rw[hz6,List.length_append,List.length_append,List.length_replicate,hl6]) (fun j v' e=>by
        have hj:j < σ.length:=by
          by_cases hj:j < σ.length
          · exact hj
          · rw[List.getElem?_append_right (by omega),List.getElem?_replicate]at e
            split at e <;>cases e
        rw[List.getElem?_append_left hj]at e
        rw[hz6,List.getElem?_append_left hj]
        exact e)
      have e9:its.toArray.push xv=(its++[xv]).toArray:=by simp
      rw[e9]at q
      refine⟨m',hm',i+1,ys++[v],its++[xv],_,H7,I9,q,rv.append (.cons r7 .nil),nD7,T.keep _ _ _ st5 (fun b hb o e=>other b o (Nat.ne_of_lt (lt2 b hb)) (pinF b hb o e).1),fun b hb=>?_,w7⟩
      obtain⟨o,e,_⟩:=T.obj _ _ st5 b hb
      exact(pinF b hb o e).2
  exact codeAny_compStart_list loop (T.self _ 0 _ _ _ (T.keep _ _ _ st2 fun b _ o e=>k31 b o (k23 b o e)) loop)
theorem ps_setCI{X:Cx}{i₀:Nat}{x₀:Str}{pos₀ pos₁:Pos}{elt target iter c:Expr}{scope:Scope}{pos:Pos}{wi:TI}{g:TG}{tc:TT}{te:TE}{xs:List Str}(hN:X.N.Nodup)(hi₀:X.N[i₀]? = some x₀)(hx₀:Loc X.env.scope x₀)(hc:X.calm=true)(ok:CompOk X.N X.env.scope scope)(hi:PI X target iter wi)
    (hg:∀C s H fp pn,PG (compCx X scope xs C s H fp pn) target g) (ht:∀C s H fp pn,PT (compCx X scope xs C s H fp pn) c tc) (he:∀C s H fp pn,PE (compCx X scope xs C s H fp pn) elt te)
    (hs:∀x,foldedSetIterable iter X.env x=pure x:=by intro _;rfl) (hw:swapsWith (.ListComp elt [⟨target,iter,[c],0⟩] scope pos) (some (.Name x₀ pos₀)) pos₁.line X.env=pure true:=by rfl)
    (hf₀:X.fn x₀=true∨X.env.scope.names.lookup x₀=some .local:=by first | exact .inl rfl | exact .inr rfl | assumption) :
    PS X (.Assign [.Name x₀ pos₀] (.ListComp elt [⟨target,iter,[c],0⟩] scope pos) pos₁) (tAsg (tCompIf xs.length wi g tc te) (gName i₀)):=by
  intro pins s σ H D₀ I h
  rw[exec_Assign_Name_used _ _ _ _ hw]
  refine wpAny_bind (wpAny_standAt (wpAny_bind ?_))
  show wpAny _ _ (comprehension _ _ _ _ _ _ _ _ >>= _) _ _ _
  refine wpAny_bind (wpAny_comprehension_free (Q:=fun _ s'=>wpAny (model X.prog X.w) X.A (pure ()) (fun _ s''=>wpAny (model X.prog X.w) X.A (pure Flow.next) (SP X pins D₀) X.xe s'') X.xe s') (use:=some (assign (.Name x₀ pos₀) X.env)) rfl hs (clo_closure (comp_free I ok)) ok.kind ok.names (thn (hi pins s σ H _ I h) fun v s1 h1=>thn h1 fun itv s2 h2=>?_))
  obtain⟨it,fp,tn,J,H2,rfl,I2,T,st2,f2,W,⟨m0,w0⟩,turn⟩:=h2
  refine wpAny_newObj_type (newEnv_comp fun h₁ hns₁ hsb₁ hcl₁=>?_)
  dsimp only at hns₁ hsb₁ hcl₁ ⊢
  generalize hD:s2.heap.objs.size=D
  generalize hH3:s2.heap.push { cls:=.type "list",dict:=none,data:=.seq ([]:List Value).toArray }=h3 at hns₁ hsb₁ hcl₁ ⊢
  have k23:∀b o,s2.heap.get? b=some o→h3.get? b=some o:=fun b o e=>hH3▸Heap.get?_push_of_some _ e
  have hC:h3.objs.size=D+1:=by rw[← hH3,Heap.size_push,hD]
  have eD3:h3.get? D=some { cls:=.type "list",dict:=none,data:=.seq ([]:List Value).toArray }:=by
    rw[← hH3,← hD];exact Heap.get?_push_size _ rfl
  have I3:Inv X pins σ H2 { s2 with heap:=h3 }:=I2.kept (t':=s2.toks) k23
  have fD:FpOk X pins H2 D:=I2.fpOk (by omega) (I2.hok.fresh (by omega))
  have lt2:∀b∈fp,b < D:=fun b hb=>by
    obtain⟨o,e,_⟩:=T.obj 0 _ st2 b hb
    rw[← hD]
    exact Heap.lt_size e
  have f3:∀b∈D::fp,FpOk X pins H2 b:=fun b hb=>by
    rcases List.mem_cons.mp hb with rfl | hb
    · exact fD
    · exact f2 b hb
  have hx3:∀b∈D::fp,b < ({ s2 with heap:=h3 }:Shared).heap.objs.size:=fun b hb=>by
    show b < h3.objs.size
    rcases List.mem_cons.mp hb with rfl | hb
    · rw[hC];exact Nat.lt_succ_self _
    · rw[hC];exact Nat.lt_succ_of_lt (lt2 b hb)
  have k31:∀b o,h3.get? b=some o→h₁.get? b=some o:=hsb₁
  have okX:=comp_ok (C:=h3.objs.size) (xs:=xs) I3 ok f3 hx3 (Nat.le_refl _)
  have I4:=comp_start (C:=h3.objs.size) (xs:=xs) (t':=s2.toks+([]:List (Str × Value)).length) I3 ok f3 hx3 (Nat.le_refl _) hns₁ k31 hcl₁
  have mD:D∈D::fp:=List.mem_cons_self
  have neC:∀b∈D::fp,b≠h3.objs.size:=fun b hb=>(okX.exf b hb).1
  have stat:∀{H':Hp} {pl:List (Addr × Obj)},(∀b∈fp,H' b=none)→(∀p∈pl,p.1=D)→∀b∈fp,FpOk (compCx X scope xs h3.objs.size { s2 with heap:=h3 } H2 (D::fp) (X.pn++pins)) pl H' b:=fun hn hpl b hb=>by
    have hb':b∈D::fp:=List.mem_cons_of_mem _ hb
    refine⟨hn b hb,neC b hb',okX.exfs b hb',.inl hb',(okX.exf b hb').2,fun p hp=>?_⟩
    rcases List.mem_append.mp hp with hp | hp
    · exact(f2 b hb).2.2.2.2.2 p hp
    · rw[hpl p hp]
      exact Nat.ne_of_gt (lt2 b hb)
  have loop:codeAny (model X.prog X.w) X.A (.compLoop (.ListComp elt [⟨target,iter,[c],0⟩] scope pos) 0 (.ref it) (.ref D) (compEnvC scope (cbOf X.env scope h3.objs.size) h3.objs.size X.env))
      (compPost (model X.prog X.w) X.A X.xe (some (assign (.Name x₀ pos₀) X.env)) (fun _ s'=>wpAny (model X.prog X.w) X.A (pure ()) (fun _ s''=>wpAny (model X.prog X.w) X.A (pure Flow.next) (SP X pins D₀) X.xe s'') X.xe s') (.ref D) h3.objs.size) { s2 with heap:=h₁,toks:=s2.toks+([]:List (Str × Value)).length }:=by
    refine compLoop_if (fun n s'=>∃i ys its k H',Inv (compCx X scope xs h3.objs.size { s2 with heap:=h3 } H2 (D::fp) (X.pn++pins)) [] (σ++List.replicate xs.length none) H' s'∧
      s'.heap.get? D=some { cls:=.type "list",data:=.seq (its:List Value).toArray k }∧Vals ys its∧H' D=none∧tn i s'.heap∧(∀b∈fp,H' b=none)∧W i n ys H') ?_ m0
      ⟨0,[],[],_,H2,I4,k31 _ _ eD3,.nil,fD.1,T.keep _ _ _ st2 (fun b _ o e=>k31 b o (k23 b o e)),fun b hb=>(f2 b hb).1,w0⟩
    rintro n s' ⟨i,ys,its,k,H',I',eD,rv,nD,st,fr,w⟩
    have Ip:=I'.pins_of (pins':=[(D,{ cls:=.type "list",data:=.seq its.toArray k })]) fun p hp=>by
      rw[List.mem_singleton]at hp
      subst hp
      exact⟨eD,nD,neC D mD,okX.exfs D mD,fun v z=>by cases z⟩
    have one:∀p∈[(D,({ cls:=.type "list",data:=.seq its.toArray k }:Obj))],p.1=D:=fun p hp=>by rw[List.mem_singleton]at hp;rw[hp]
    rcases turn i n ys H' w with ⟨stop,hz,q⟩ | ⟨go,hz,step⟩
    · refine thn (T.done (compCx X scope xs h3.objs.size { s2 with heap:=h3 } H2 (D::fp) (X.pn++pins)) rfl rfl rfl hc i _ s' _ H' (fun _ _=>False) Ip (stat fr one) st stop) fun r s4 ⟨hr,J4⟩=>?_
      subst hr
      obtain⟨mm,hnm,_⟩:=J4.loc
      obtain⟨eD4,nD4,_⟩:=J4.pin (D,{ cls:=.type "list",data:=.seq its.toArray k }) (List.mem_append_right _ List.mem_cons_self)
      have u0:Un (frs X.stack) (D::fp) H2 H' h3 s4.heap:=J4.base
      have u:Un (frs X.stack) (D::fp) H2 H' s2.heap s4.heap:=(Un.kept k23).trans u0
      have os4:s4.os=s2.os:=J4.os
      have nC4:H' h3.objs.size=none:=J4.free
      have IX:Inv X pins σ (upd H' D (.lst ys)) s4:=I2.call' (s':=s4) (ch:=D::fp) os4 (u.track (by omega) nD4) (J4.hok.track nD4 ⟨hz,its,k,rv,eD4⟩) J4.bare (fun b hb=>by
        have z:=f3 b hb
        exact⟨z.2.2.2.1,z.2.1,z.2.2.2.2.1,z.2.2.2.2.2⟩)
      have fC:FpOk X pins H2 h3.objs.size:=I2.fpOk (by omega) (I2.hok.fresh (by omega))
      have nCX:upd H' D (.lst ys) h3.objs.size=none:=by rw[upd_ne (Ne.symm (neC D mD))];exact nC4
      refine wpAny_assign_Name (store_ok2 IX hN hi₀ hx₀ (v:=.ref D) rfl (fun s5 I5 ⟨a5,sb5,ha5⟩=>⟨mm,?_,fun h' sb=>?_⟩) hf₀)
      · have:h3.objs.size≠a5:=by
          rcases ha5 with e | e
          · rw[e];exact fC.2.1
          · exact Ne.symm (fC.2.2.2.2.1 x₀ a5 e)
        obtain⟨o,es,ep,e,r⟩:=hnm
        exact⟨o,es,ep,sb5.extBut _ _ this e,r⟩
      · have I6:Inv X pins (σ.set i₀ (some (.ref D))) (upd H' D (.lst ys)) { s5 with heap:=h' }:=I5.turned (t':=s5.toks) (it:=h3.objs.size) (fun b o hb e=>sb.extBut b o hb e) nCX fC.2.1 fC.2.2.2.1 fC.2.2.2.2.1 fC.2.2.2.2.2
        exact wpAny_pure (wpAny_pure ⟨_,_,I6,q D nD4⟩)
    · refine thn (T.item (compCx X scope xs h3.objs.size { s2 with heap:=h3 } H2 (D::fp) (X.pn++pins)) rfl rfl rfl hc i _ s' _ H' (fun _ _=>False) Ip (stat fr one) st go) fun r s4 ⟨u,hr,h4⟩=>?_
      subst hr
      refine thn h4 fun _ s5 ⟨x,H5,I5,r5,y5,st5,fr5⟩=>?_
      have I5':=I5.pinned (stat fr5 one) (T.obj _ _ st5)
      refine thn (hg _ _ _ _ _ _ s5 _ H5 x u _ I5' r5 (step x H5 y5)) fun _ s6 ⟨σ6,H6,I6,⟨zs,hz6,hl6⟩,q6⟩=>?_
      have pinF:∀{s7:Shared} {σ7:St} {H7:Hp},Inv (compCx X scope xs h3.objs.size { s2 with heap:=h3 } H2 (D::fp) (X.pn++pins)) ([(D,{ cls:=.type "list",data:=.seq its.toArray k })]++pinsAt fp s5.heap) σ7 H7 s7→∀b∈fp,∀o,s5.heap.get? b=some o→s7.heap.get? b=some o∧H7 b=none:=fun I7 b hb o e=>
        ⟨(I7.pin (b,o) (List.mem_append_right _ (List.mem_append_right _ (mem_pinsAt hb e)))).1,(I7.pin (b,o) (List.mem_append_right _ (List.mem_append_right _ (mem_pinsAt hb e)))).2.1⟩
      have back:∀{H7:Hp} {s7:Shared},Inv (compCx X scope xs h3.objs.size { s2 with heap:=h3 } H2 (D::fp) (X.pn++pins)) [] σ6 H7 s7→Inv (compCx X scope xs h3.objs.size { s2 with heap:=h3 } H2 (D::fp) (X.pn++pins)) [] (σ++List.replicate xs.length none) H7 s7:=fun I8=>
        I8.weak (by rw[hz6,List.length_append,List.length_append,List.length_replicate,hl6]) (fun j v' e=>by
          have hj:j < σ.length:=by
            by_cases hj:j < σ.length
            · exact hj
            · rw[List.getElem?_append_right (by omega),List.getElem?_replicate]at e
              split at e <;>cases e
          rw[List.getElem?_append_left hj]at e
          rw[hz6,List.getElem?_append_left hj]
          exact e)
      refine thn (ht _ _ _ _ _ _ s6 σ6 H6 _ I6 q6) fun ok s6' ⟨H6',I6',q6'⟩=>?_
      cases ok with
      | false=>
        obtain⟨m',hm',w7⟩:=(show ∃m',m' < n∧W (i+1) m' ys H6' from q6')
        obtain⟨eD7,nD7,_⟩:=I6'.pin (D,{ cls:=.type "list",data:=.seq its.toArray k }) (List.mem_append_right _ (List.mem_append_left _ List.mem_cons_self))
        refine⟨m',hm',i+1,ys,its,_,H6',back (I6'.pins_of (pins':=[]) fun p hp=>by cases hp),eD7,rv,nD7,T.keep _ _ _ st5 (fun b hb o e=>(pinF I6' b hb o e).1),fun b hb=>?_,w7⟩
        obtain⟨o,e,_⟩:=T.obj _ _ st5 b hb
        exact(pinF I6' b hb o e).2
      | true=>
        refine thn (he _ _ _ _ _ _ s6' σ6 H6' _ I6' q6') fun xv s7 ⟨v,H7,I7,r7,m',hm',w7⟩=>?_
        obtain⟨eD7,nD7,_⟩:=I7.pin (D,{ cls:=.type "list",data:=.seq its.toArray k }) (List.mem_append_right _ (List.mem_append_left _ List.mem_cons_self))
        have len:=rv.length
        refine call_meets F.slot_list_append ⟨_,eD7,rfl⟩ F.entry_list_append (F.args_list_append_2 _ _) (PySem.list_append D its.toArray k xv (by rw[List.size_toArray];omega)) ⟨eD7,?_⟩
        have q:=PySem.IsL.update eD7 (fun a=>a.push xv)
        have other:∀b o,b≠D→s7.heap.get? b=some o→(s7.heap.update D (Obj.mapSeq fun a=>a.push xv)).get? b=some o:=fun b o hb e=>(Heap.get?_update_other s7.heap _ (Ne.symm hb)).trans e
        have I7':=I7.pins_of (pins':=[]) fun p hp=>by cases hp
        have I8:=I7'.turned (t':=s7.toks) (it:=D) other nD7 (neC D mD) (.inl mD) (okX.exf D mD).2 (fun p hp=>by
          rw[List.append_nil]at hp
          exact fD.2.2.2.2.2 p hp)
        have e9:its.toArray.push xv=(its++[xv]).toArray:=by simp
        rw[e9]at q
        refine⟨m',hm',i+1,ys++[v],its++[xv],_,H7,back I8,q,rv.append (.cons r7 .nil),nD7,T.keep _ _ _ st5 (fun b hb o e=>other b o (Nat.ne_of_lt (lt2 b hb)) (pinF I7 b hb o e).1),fun b hb=>?_,w7⟩
        obtain⟨o,e,_⟩:=T.obj _ _ st5 b hb
        exact(pinF I7 b hb o e).2
  exact codeAny_compStart_list loop (T.self _ 0 _ _ _ (T.keep _ _ _ st2 fun b _ o e=>k31 b o (k23 b o e)) loop)
theorem ps_hideA{X:Cx}{st:Stmt}{te:TE}{i₀:Nat}(i:Nat)(y:Str)(hi:i₀≠i)(h:PS (X.rn i y) st (tAsg te (gName i₀))):PS X st (fun D σ H=>σ[i]? = some none∧tAsg te (gName i₀) D σ H):=by
  intro pins s σ H D I ⟨h0,q⟩
  have e:(fun v H1=>(σ.set i₀ (some v))[i]? = some none∧D.nx (σ.set i₀ (some v)) H1)=fun v H1=>D.nx (σ.set i₀ (some v)) H1:=by
    funext v H1
    exact propext ⟨fun z=>z.2,fun z=>⟨by rw[List.getElem?_set_ne hi];exact h0,z⟩⟩
  have q':tAsg te (gName i₀) { D with nx:=fun σ' H'=>σ'[i]? = some none∧D.nx σ' H',rt:=fun _ _=>False,bk:=fun _ _=>False,ct:=fun _ _=>False } σ H:=by
    show te σ H fun v H1=>(σ.set i₀ (some v))[i]? = some none∧D.nx (σ.set i₀ (some v)) H1
    rw[e]
    exact q
  refine thn (h pins s σ H _ (I.rn h0) q') fun f s1 sp=>?_
  cases f with
  | next=>
    obtain⟨σ',H',I',z,n⟩:=sp
    exact⟨σ',H',I'.unrn I.ok z,n⟩
  | ret v=>obtain⟨_,_,_,_,_,z⟩:=sp;exact z.elim
  | brk=>obtain⟨_,_,_,z⟩:=sp;exact z.elim
  | cont=>obtain⟨_,_,_,z⟩:=sp;exact z.elim
end L2
namespace L2
open PySem PySem.Spec PyProof.Rows
section
variable{prog:Program}{w:World}{A:Around}{E:Value→Shared→Prop}{s:Shared}
theorem nextT_item{I t:Addr}{i:Nat}{vs:Array Value}{x:Value}{Q:Value→Shared→Prop}(hI:s.heap.IsTupleIter I t i)(ht:s.heap.IsTuple t vs)(e:vs[i]? = some x)
    (q:∀h',h'.IsTupleIter I t (i+1)→Heap.SameBut I s.heap h'→Q x { s with heap:=h' }):wpAny (model prog w) A (Builtin.SmallTypes.nextOf (.ref I)) Q E s:=by
  obtain⟨o,eo,co,fo⟩:=id hI;obtain⟨u,eu,_,n,fu⟩:=ht;unfold Builtin.SmallTypes.nextOf
  refine wpAny_bind (wpAny_callSpecial?_slot (name:=Str.ofString "__next__") hI.typeIs F.slot_tuple_iterator_next (wpAny_call_entry F.slot_tuple_iterator_next hI.typeIs F.entry_tuple_iterator_next ?_ (F.args_tuple_iterator_next_1 _)))
  show wpAny _ _ (field (.ref I) 0 >>= _) _ _ s
  refine wpAny_bind (wpAny_field eo fo (x:=.ref t) rfl ?_);show wpAny _ _ (if(Value.ref t == Value.none)=true then _ else _) _ _ s
  rw[if_neg (show ¬((Value.ref t == Value.none)=true)from Bool.false_ne_true)];show wpAny _ _ (field (.ref I) 1 >>= _) _ _ s
  refine wpAny_bind (wpAny_field eo fo (x:=.int i 0) rfl ?_);show wpAny _ _ (seqItems? (.ref t) >>= _) _ _ s
  refine wpAny_bind (wpAny_seqItems eu fu ?_);simp only[Int.toNat_natCast,e]
  refine wpAny_bind (wpAny_setField eo fo (by simp) (wpAny_pure ⟨x,rfl,wpAny_pure (q _ ?_ (Heap.SameBut.update ..))⟩))
  exact⟨_,Heap.get?_update_self _ eo (Obj.isFreed_of_fields (Obj.data_mapFields fo _)),(Obj.cls_mapFields ..).trans co,by rw[Obj.data_mapFields fo];simp[rawInt]⟩
theorem nextT_end{I t:Addr}{i:Nat}{vs:Array Value}{Q:Value→Shared→Prop}(hh:A.handled=none)(hI:s.heap.IsTupleIter I t i)(ht:s.heap.IsTuple t vs)(e:vs[i]? = none)
    (q:∀h' x,Heap.ExtBut I s.heap h'→(∃o,h'.get? x=some o∧o.cls=.type "StopIteration")→E (.ref x) { s with heap:=h' }):wpAny (model prog w) A (Builtin.SmallTypes.nextOf (.ref I)) Q E s:=by
  obtain⟨o,eo,co,fo⟩:=id hI;obtain⟨u,eu,_,n,fu⟩:=ht;unfold Builtin.SmallTypes.nextOf
  refine wpAny_bind (wpAny_callSpecial?_slot (name:=Str.ofString "__next__") hI.typeIs F.slot_tuple_iterator_next (wpAny_call_entry F.slot_tuple_iterator_next hI.typeIs F.entry_tuple_iterator_next ?_ (F.args_tuple_iterator_next_1 _)))
  show wpAny _ _ (field (.ref I) 0 >>= _) _ _ s
  refine wpAny_bind (wpAny_field eo fo (x:=.ref t) rfl ?_);show wpAny _ _ (if(Value.ref t == Value.none)=true then _ else _) _ _ s
  rw[if_neg (show ¬((Value.ref t == Value.none)=true)from Bool.false_ne_true)];show wpAny _ _ (field (.ref I) 1 >>= _) _ _ s
  refine wpAny_bind (wpAny_field eo fo (x:=.int i 0) rfl ?_);show wpAny _ _ (seqItems? (.ref t) >>= _) _ _ s
  refine wpAny_bind (wpAny_seqItems eu fu ?_);simp only[Int.toNat_natCast,e]
  refine wpAny_bind (wpAny_rule (wpAny_bind (wpAny_setField eo fo (by simp) ?_)));show wpAny _ _ (newExc (.type "StopIteration") [] >>= _) _ _ _
  refine wpAny_bind ?_;simp only[newExc,newTuple]
  refine wpAny_bind (wpAny_newObj_type ?_ (by size_fits));refine wpAny_bind (m:=firstArgMember _ _) (wpAny_of_eq (a:=Value.none) (by first | rfl | (simp only[firstArgMember];rfl)) ?_)
  refine wpAny_newObj_type ?_ (by size_fits);simp only[raiseNew];refine wpAny_bind (wpAny_handled ?_)
  first | rw[show A.in1.handled=none from hh] | rw[hh]
  refine wpAny_bind (wpAny_pure (wpAny_throw ?_));exact q _ _ (((Heap.SameBut.update ..).extBut.push _).push _) ⟨_,Heap.get?_push_size _ rfl,rfl⟩
end
inductive Sr
  | lst (a:Addr)
  | tup (a:Addr)
  | str (x:Str)
def Sr.it:Sr→Heap→Addr→Nat→Prop
  | .lst a,h,I,i=>h.IsListIter I a i
  | .tup a,h,I,i=>h.IsTupleIter I a i
  | .str x,h,I,i=>∃t,h.IsStrIter I (strIterType x) x t i
def Sr.has:Sr→Heap→Array Value→Prop
  | .lst a,h,vs=>h.IsList a vs
  | .tup a,h,vs=>h.IsTuple a vs
  | .str x,_,vs=>vs.size=x.cps.size
def Sr.is:Sr→Array Value→Nat→Value→Prop
  | .lst _,vs,i,v=>vs[i]? = some v
  | .tup _,vs,i,v=>vs[i]? = some v
  | .str x,_,i,v=>∃c u,x.cps[i]? = some c∧v=.str ⟨#[c]⟩ u
def Sr.fp:Sr→Addr→List Addr
  | .lst a,I=>[I,a]
  | .tup a,I=>[I,a]
  | .str _,I=>[I]
def Sr.off:Sr→Addr→Prop
  | .lst a,I=>a≠I
  | .tup a,I=>a≠I
  | .str _,_=>True
theorem Sr.fp_off{S:Sr}{I b:Addr}(h:S.off b)(hb:b≠I):b ∉ S.fp I:=by
  cases S <;>simp[Sr.fp,Sr.off]at h ⊢ <;>first | exact⟨hb,Ne.symm h⟩ | exact hb
theorem Sr.it.mv{S:Sr}{h h':Heap}{I:Addr}{i:Nat}(x:S.it h I i)(k:∀o,h.get? I=some o→h'.get? I=some o):S.it h' I i:=by
  cases S with
  | lst a=>obtain⟨o,e,r⟩:=x;exact⟨o,k o e,r⟩
  | tup a=>obtain⟨o,e,r⟩:=x;exact⟨o,k o e,r⟩
  | str z=>obtain⟨t,o,e,r⟩:=x;exact⟨t,o,k o e,r⟩
theorem Sr.it.obj{S:Sr}{h:Heap}{I:Addr}{i:Nat}(x:S.it h I i):∃o,h.get? I=some o∧∀v,o.data≠.cell v:=by
  cases S with
  | lst a=>obtain⟨o,e,_,d⟩:=x;exact⟨o,e,fun v z=>by rw[d]at z;cases z⟩
  | tup a=>obtain⟨o,e,_,d⟩:=x;exact⟨o,e,fun v z=>by rw[d]at z;cases z⟩
  | str z=>obtain⟨t,o,e,_,d⟩:=x;exact⟨o,e,fun v z=>by rw[d]at z;cases z⟩
theorem Sr.has.mv{S:Sr}{h h':Heap}{vs:Array Value}{I:Addr}(x:S.has h vs)(k:∀b o,b≠I→h.get? b=some o→h'.get? b=some o)(off:S.off I):S.has h' vs:=by
  cases S with
  | lst a=>obtain⟨o,e,r⟩:=x;exact⟨o,k a o off e,r⟩
  | tup a=>obtain⟨o,e,r⟩:=x;exact⟨o,k a o off e,r⟩
  | str z=>exact x
theorem Sr.draws{prog:Program}{w:World}{A:Around}(S:Sr)(hh:A.handled=none)(I:Addr)(off:S.off I)(vs:Array Value) :
    Draws prog w A I (S.fp I) vs.size (S.is vs) (fun i h=>S.it h I i∧S.has h vs):=by
  cases S with
  | lst a=>exact Draws.list hh I a off vs
  | tup a=>exact{
      live:=fun _ _ st=>let⟨o,e,_⟩:=st.1;⟨o,e⟩
      frame:=fun _ _ _ st k=>⟨let⟨o,e,r⟩:=st.1;⟨o,k I (by simp[Sr.fp]) o e,r⟩,let⟨o,e,r⟩:=st.2;⟨o,k a (by simp[Sr.fp]) o e,r⟩⟩
      item:=fun i s Q E hi st q=>nextT_item st.1 st.2 (x:=vs[i]) (by simp[hi]) fun h' a' b'=>q _ h' s.toks (show vs[i]? = some vs[i] by simp[hi]) ⟨a',Heap.IsTuple.extBut st.2 b'.extBut off⟩ b'
      done:=fun s Q E st q=>nextT_end hh st.1 st.2 (by simp) q }
  | str x=>
    cases ha:x.cps.all (· < 128)with
    | true=>
      have e:strIterType x="str_ascii_iterator":=by simp[strIterType,ha]
      exact{
        live:=fun _ _ st=>let⟨_,o,e,_⟩:=st.1;⟨o,e⟩
        frame:=fun _ _ _ st k=>⟨let⟨t,o,e,r⟩:=st.1;⟨t,o,k I (by simp[Sr.fp]) o e,r⟩,st.2⟩
        item:=fun i s Q E hi st q=>by
          obtain⟨⟨t,g⟩,z⟩:=st
          have hz:vs.size=x.cps.size:=z
          rw[e]at g
          exact(Draws.strAscii (prog:=prog) (w:=w) hh I x t).item i s Q E (by omega) g fun v h' tk p st' sb=>q v h' tk p ⟨⟨t,by rw[e];exact st'⟩,z⟩ sb
        done:=fun s Q E st q=>by
          obtain⟨⟨t,g⟩,z⟩:=st
          have hz:vs.size=x.cps.size:=z
          rw[e,hz]at g
          exact(Draws.strAscii (prog:=prog) (w:=w) hh I x t).done s Q E g q }
    | false=>
      have e:strIterType x="str_iterator":=by simp[strIterType,ha]
      exact{
        live:=fun _ _ st=>let⟨_,o,e,_⟩:=st.1;⟨o,e⟩
        frame:=fun _ _ _ st k=>⟨let⟨t,o,e,r⟩:=st.1;⟨t,o,k I (by simp[Sr.fp]) o e,r⟩,st.2⟩
        item:=fun i s Q E hi st q=>by
          obtain⟨⟨t,g⟩,z⟩:=st
          have hz:vs.size=x.cps.size:=z
          rw[e]at g
          exact(Draws.strWide (prog:=prog) (w:=w) hh I x t).item i s Q E (by omega) g fun v h' tk p st' sb=>q v h' tk p ⟨⟨t,by rw[e];exact st'⟩,z⟩ sb
        done:=fun s Q E st q=>by
          obtain⟨⟨t,g⟩,z⟩:=st
          have hz:vs.size=x.cps.size:=z
          rw[e,hz]at g
          exact(Draws.strWide (prog:=prog) (w:=w) hh I x t).done s Q E g q }
end L2
namespace L2
open PySem PySem.Spec PyProof.Rows
structure ZA(S1 S2:Sr)(z TI TO i1 i2:Addr):Prop where
  a:TI≠z
  b:TO≠z
  c:i1≠z
  d:i2≠z
  e:TI≠TO
  f:TI≠i1
  g:TI≠i2
  h:TO≠i1
  i:TO≠i2
  j:i1≠i2
  k:∀x∈[z,TO,i1,i2],S1.off x∧S2.off x
structure ZS(S1 S2:Sr)(v1 v2:Array Value)(z TI TO i1 i2:Addr)(n:Nat)(u:Value)(h:Heap):Prop where
  z:IsZip h z TI TO u
  ti:IsPair h TI (.ref i1) (.ref i2)
  to:∃x y,IsPair h TO x y
  s1:S1.it h i1 n
  s2:S2.it h i2 n
  h1:S1.has h v1
  h2:S2.has h v2
section
variable{prog:Program}{w:World}{A:Around}{E:Value→Shared→Prop}{s:Shared}{S1 S2:Sr}{v1 v2:Array Value}{z TI TO i1 i2:Addr}{n:Nat}
theorem zip_item(D:ZA S1 S2 z TI TO i1 i2)(hh:A.handled=none)(Z:ZS S1 S2 v1 v2 z TI TO i1 i2 n .none s.heap)(l1:n < v1.size)(l2:n < v2.size){Q:Value→Shared→Prop}
    (q:∀x y h' tk,S1.is v1 n x→S2.is v2 n y→ZS S1 S2 v1 v2 z TI TO i1 i2 (n+1) (rawInt s.heap.objs.size) h'→IsPair h' s.heap.objs.size x y→h'.objs.size=s.heap.objs.size+1→
      (∀c o,c≠z→c≠TO→c≠i1→c≠i2→s.heap.get? c=some o→h'.get? c=some o)→Q (.ref s.heap.objs.size) { s with heap:=h',toks:=tk }) :
    wpAny (model prog w) A (Builtin.«zip.__next__» ⟨[.ref z],[]⟩) (fun fin s'=>∃v,fin=.done (.ret v)∧Q v s') E s:=by
  obtain⟨hp,g0,d0,tk0,os0⟩:=s
  obtain⟨Zz,Zi,⟨x0,y0,Zo⟩,Z1,Z2,Y1,Y2⟩:=Z
  have oz:=D.k z (by simp);have oT:=D.k TO (by simp);have o1:=D.k i1 (by simp);have o2:=D.k i2 (by simp)
  show wpAny _ _ (field (.ref z) 2 >>= _) _ _ _
  refine wpAny_bind (wpAny_field Zz rfl (x:=.bool false) rfl ?_);show wpAny _ _ (field (.ref z) 3 >>= _) _ _ _
  refine wpAny_bind (wpAny_field Zz rfl (x:=.ref TI) rfl ?_);refine wpAny_bind (wpAny_seqItems Zi rfl ?_)
  show wpAny _ _ (Builtin.SmallTypes.ownedTupleIsFree (.ref z) >>= _) _ _ _
  refine wpAny_bind ?_;unfold Builtin.SmallTypes.ownedTupleIsFree
  refine wpAny_bind (wpAny_field Zz rfl (x:=.none) rfl (wpAny_pure ?_));simp only[if_true];refine wpAny_bind (wpAny_rule ?_)
  refine wpAny_bind (wpAny_field Zz rfl (x:=.ref TO) rfl ?_)
  refine wpAny_bind (wpAny_setField_rec Zz (by simp) fun g1 Za b1=>?_)
  replace Za:IsZip g1 z TI TO .ellipsis:=Za
  replace b1:Heap.SameBut z hp g1:=b1
  refine wpAny_bind ?_;simp only[List.zipIdx_cons,List.zipIdx_nil,List.forIn_cons,List.forIn_nil]
  refine wpAny_bind (wpAny_bind (wpAny_onRaise ?_));show wpAny _ _ (Builtin.SmallTypes.nextOf (.ref i1) >>= _) _ _ _
  refine wpAny_bind ((S1.draws hh i1 o1.1 v1).item n _ _ _ l1 ⟨Z1.mv fun o e=>b1.extBut _ _ D.c e,Y1.mv (fun b o hb e=>b1.extBut _ _ hb e) oz.1⟩ fun x g2 k2 px st2 b2=>wpAny_pure ?_)
  replace b2:Heap.SameBut i1 g1 g2:=b2
  have To2:IsPair g2 TO x0 y0:=b2.extBut _ _ D.h (b1.extBut _ _ D.b Zo)
  refine wpAny_bind (wpAny_seqItems To2 rfl ?_);refine wpAny_bind (wpAny_updateSeq_pair To2 fun g3 To3 b3=>?_)
  replace To3:IsPair g3 TO x y0:=To3
  replace b3:Heap.SameBut TO g2 g3:=b3
  refine wpAny_bind (wpAny_letGo (wpAny_pure ?_))
  refine wpAny_bind (wpAny_bind (wpAny_onRaise ?_));show wpAny _ _ (Builtin.SmallTypes.nextOf (.ref i2) >>= _) _ _ _
  refine wpAny_bind ((S2.draws hh i2 o2.2 v2).item n _ _ _ l2 ⟨Z2.mv fun o e=>b3.extBut _ _ D.i.symm (b2.extBut _ _ D.j.symm (b1.extBut _ _ D.d e)),
    ((Y2.mv (fun b o hb e=>b1.extBut _ _ hb e) oz.2).mv (fun b o hb e=>b2.extBut _ _ hb e) o1.2).mv (fun b o hb e=>b3.extBut _ _ hb e) oT.2⟩ fun y g4 k4 py st4 b4=>wpAny_pure ?_)
  replace b4:Heap.SameBut i2 g3 g4:=b4
  have To4:IsPair g4 TO x y0:=b4.extBut _ _ D.i To3
  refine wpAny_bind (wpAny_seqItems To4 rfl ?_);refine wpAny_bind (wpAny_updateSeq_pair To4 fun g5 To5 b5=>?_)
  replace To5:IsPair g5 TO x y:=To5
  replace b5:Heap.SameBut TO g4 g5:=b5
  refine wpAny_bind (wpAny_letGo (wpAny_pure (wpAny_pure ?_)))
  refine wpAny_bind (wpAny_seqItems To5 rfl ?_);refine wpAny_bind (wpAny_newTuple ?_)
  have sz:g5.objs.size=hp.objs.size:=by rw[b5.1,b4.1,b3.1,b2.1,b1.1]
  have Z5:IsZip g5 z TI TO .ellipsis:=b5.extBut _ _ D.b.symm (b4.extBut _ _ D.d.symm (b3.extBut _ _ D.b.symm (b2.extBut _ _ D.c.symm Za)))
  have up5:∀c o,c≠z→c≠TO→c≠i1→c≠i2→hp.get? c=some o→g5.get? c=some o:=fun c o n1 n2 n3 n4 e=>b5.extBut _ _ n2 (b4.extBut _ _ n4 (b3.extBut _ _ n2 (b2.extBut _ _ n3 (b1.extBut _ _ n1 e))))
  have I1:S1.it g5 i1 (n+1):=st2.1.mv fun o e=>b5.extBut _ _ D.h.symm (b4.extBut _ _ D.j (b3.extBut _ _ D.h.symm e))
  have I2:S2.it g5 i2 (n+1):=st4.1.mv fun o e=>b5.extBut _ _ D.i.symm e
  have H1:S1.has g5 v1:=((st2.2.mv (fun b o hb e=>b3.extBut _ _ hb e) oT.1).mv (fun b o hb e=>b4.extBut _ _ hb e) o2.1).mv (fun b o hb e=>b5.extBut _ _ hb e) oT.1
  have H2:S2.has g5 v2:=st4.2.mv (fun b o hb e=>b5.extBut _ _ hb e) oT.2
  have zlt:z < g5.objs.size:=Heap.lt_size Z5
  show wpAny _ _ (Builtin.SmallTypes.ownedTupleHandOut (.ref z) (.ref g5.objs.size) >>= _) _ _ _
  refine wpAny_bind ?_;unfold Builtin.SmallTypes.ownedTupleHandOut
  have Z6:IsZip (g5.push { cls:=.type "tuple",data:=.seq #[x,y] }) z TI TO .ellipsis:=Heap.get?_push_of_some _ Z5
  refine wpAny_bind (wpAny_setField_rec Z6 (by simp) fun g7 Z7 b7=>?_)
  replace Z7:IsZip g7 z TI TO (rawInt g5.objs.size):=Z7
  refine wpAny_setField_rec Z7 (by simp) fun g8 Z8 b8=>?_
  replace Z8:IsZip g8 z TI TO (rawInt g5.objs.size):=Z8
  have up:∀c o,c≠z→g5.get? c=some o→g8.get? c=some o:=fun c o n1 e=>b8.extBut _ _ n1 (b7.extBut _ _ n1 (Heap.get?_push_of_some _ e))
  have T8:IsPair g8 g5.objs.size x y:=b8.extBut _ _ (Nat.ne_of_gt zlt) (b7.extBut _ _ (Nat.ne_of_gt zlt) (Heap.get?_push_size _ rfl))
  have sz8:g8.objs.size=g5.objs.size+1:=by rw[b8.1,b7.1,Heap.size_push]
  rw[sz]at Z8 T8 sz8
  refine wpAny_pure ⟨_,rfl,?_⟩
  show Q (.ref g5.objs.size) _
  rw[sz]
  exact q x y g8 k4 px py ⟨Z8,up _ _ D.a (up5 _ _ D.a D.e D.f D.g Zi),⟨_,_,up _ _ D.b To5⟩,I1.mv fun o e=>up _ o D.c e,I2.mv fun o e=>up _ o D.d e,
    H1.mv (fun b o hb e=>up b o hb e) oz.1,H2.mv (fun b o hb e=>up b o hb e) oz.2⟩ T8 sz8 fun c o n1 n2 n3 n4 e=>up c o n1 (up5 c o n1 n2 n3 n4 e)
theorem zip_end(D:ZA S1 S2 z TI TO i1 i2)(hh:A.handled=none)(Z:ZS S1 S2 v1 v2 z TI TO i1 i2 n .none s.heap)(l:n=v1.size∨(n < v1.size∧n=v2.size)){Q:Fin→Shared→Prop}
    (q:∀h' x tk,(∀c o,c≠z→c≠TO→c≠i1→c≠i2→s.heap.get? c=some o→h'.get? c=some o)→(∃o,h'.get? x=some o∧o.cls=.type "StopIteration")→E (.ref x) { s with heap:=h',toks:=tk }) :
    wpAny (model prog w) A (Builtin.«zip.__next__» ⟨[.ref z],[]⟩) Q E s:=by
  obtain⟨hp,g0,d0,tk0,os0⟩:=s
  obtain⟨Zz,Zi,⟨x0,y0,Zo⟩,Z1,Z2,Y1,Y2⟩:=Z
  have oz:=D.k z (by simp);have oT:=D.k TO (by simp);have o1:=D.k i1 (by simp);have o2:=D.k i2 (by simp)
  show wpAny _ _ (field (.ref z) 2 >>= _) _ _ _
  refine wpAny_bind (wpAny_field Zz rfl (x:=.bool false) rfl ?_);show wpAny _ _ (field (.ref z) 3 >>= _) _ _ _
  refine wpAny_bind (wpAny_field Zz rfl (x:=.ref TI) rfl ?_);refine wpAny_bind (wpAny_seqItems Zi rfl ?_)
  show wpAny _ _ (Builtin.SmallTypes.ownedTupleIsFree (.ref z) >>= _) _ _ _
  refine wpAny_bind ?_;unfold Builtin.SmallTypes.ownedTupleIsFree
  refine wpAny_bind (wpAny_field Zz rfl (x:=.none) rfl (wpAny_pure ?_));simp only[if_true];refine wpAny_bind (wpAny_rule ?_)
  refine wpAny_bind (wpAny_field Zz rfl (x:=.ref TO) rfl ?_)
  refine wpAny_bind (wpAny_setField_rec Zz (by simp) fun g1 Za b1=>?_)
  replace Za:IsZip g1 z TI TO .ellipsis:=Za
  replace b1:Heap.SameBut z hp g1:=b1
  refine wpAny_bind ?_;simp only[List.zipIdx_cons,List.zipIdx_nil,List.forIn_cons,List.forIn_nil]
  have W1:S1.it g1 i1 n∧S1.has g1 v1:=⟨Z1.mv fun o e=>b1.extBut _ _ D.c e,Y1.mv (fun b o hb e=>b1.extBut _ _ hb e) oz.1⟩
  refine wpAny_bind (wpAny_bind (wpAny_onRaise ?_));show wpAny _ _ (Builtin.SmallTypes.nextOf (.ref i1) >>= _) _ _ _
  rcases l with l | ⟨l1,l2⟩
  · refine wpAny_bind ((S1.draws hh i1 o1.1 v1).done _ _ _ (l▸W1) fun g2 x b2 ⟨ox,ex,cx⟩=>?_)
    have Zb:IsZip g2 z TI TO .ellipsis:=b2 _ _ D.c.symm Za
    have xz:x≠z:=fun e=>by subst e;rw[Zb]at ex;cases ex;simp at cx
    refine wpAny_setField_rec Zb (by simp) fun g3 _ b3=>q g3 x tk0 (fun c o n1 _ n3 _ e=>b3.extBut _ _ n1 (b2 _ _ n3 (b1.extBut _ _ n1 e))) ⟨ox,b3.extBut _ _ xz ex,cx⟩
  · refine wpAny_bind ((S1.draws hh i1 o1.1 v1).item n _ _ _ l1 W1 fun x g2 k2 px st2 b2=>wpAny_pure ?_)
    replace b2:Heap.SameBut i1 g1 g2:=b2
    have To2:IsPair g2 TO x0 y0:=b2.extBut _ _ D.h (b1.extBut _ _ D.b Zo)
    refine wpAny_bind (wpAny_seqItems To2 rfl ?_);refine wpAny_bind (wpAny_updateSeq_pair To2 fun g3 To3 b3=>?_)
    replace b3:Heap.SameBut TO g2 g3:=b3
    refine wpAny_bind (wpAny_letGo (wpAny_pure ?_));refine wpAny_bind (wpAny_bind (wpAny_onRaise ?_));show wpAny _ _ (Builtin.SmallTypes.nextOf (.ref i2) >>= _) _ _ _
    refine wpAny_bind ((S2.draws hh i2 o2.2 v2).done _ _ _ (l2▸⟨Z2.mv fun o e=>b3.extBut _ _ D.i.symm (b2.extBut _ _ D.j.symm (b1.extBut _ _ D.d e)),
      ((Y2.mv (fun b o hb e=>b1.extBut _ _ hb e) oz.2).mv (fun b o hb e=>b2.extBut _ _ hb e) o1.2).mv (fun b o hb e=>b3.extBut _ _ hb e) oT.2⟩) fun g4 x' b4 ⟨ox,ex,cx⟩=>?_)
    have Zb:IsZip g4 z TI TO .ellipsis:=b4 _ _ D.d.symm (b3.extBut _ _ D.b.symm (b2.extBut _ _ D.c.symm Za))
    have xz:x'≠z:=fun e=>by subst e;rw[Zb]at ex;cases ex;simp at cx
    refine wpAny_setField_rec Zb (by simp) fun g5 _ b5=>q g5 x' k2 (fun c o n1 n2 n3 n4 e=>b5.extBut _ _ n1 (b4 _ _ n4 (b3.extBut _ _ n2 (b2.extBut _ _ n3 (b1.extBut _ _ n1 e))))) ⟨ox,b5.extBut _ _ xz ex,cx⟩
end
def Begins(h:Heap)(v:Value)(o:Obj):Prop:=∀(prog:Program) (w:World) (A:Around) (E:Value→Shared→Prop) (s:Shared) (Q:Value→Shared→Prop),(∀b u,h.get? b=some u→s.heap.get? b=some u)→
  Q (.ref s.heap.objs.size) { s with heap:=s.heap.push o }→wpAny (model prog w) A (pyIter v) Q E s
def Sr.val:Sr→Value→Prop
  | .lst a,v=>v=.ref a
  | .tup a,v=>v=.ref a
  | .str x,v=>∃t,v=.str x t
theorem Sr.begins{S:Sr}{h:Heap}{v:Value}{vs:Array Value}(e:S.val v)(x:S.has h vs):∃o:Obj,Begins h v o∧o.isFreed=false∧∀(h':Heap) (I:Addr),h'.get? I=some o→S.it h' I 0:=by
  cases S with
  | lst a=>
    cases (show v=.ref a from e)
    exact⟨_,fun _ _ _ _ s Q k q=>wpAny_pyIter_list (let⟨o,e,r⟩:=x;⟨o,k a o e,r⟩) q,rfl,fun h' I e=>⟨_,e,rfl,rfl⟩⟩
  | tup a=>
    cases (show v=.ref a from e)
    exact⟨_,fun _ _ _ _ s Q k q=>wpAny_pyIter_tuple (let⟨o,e,r⟩:=x;⟨o,k a o e,r⟩) q,rfl,fun h' I e=>⟨_,e,rfl,rfl⟩⟩
  | str z=>
    obtain⟨t,rfl⟩:=(show ∃t,v=.str z t from e)
    exact⟨_,fun _ _ _ _ s Q k q=>wpAny_pyIter_strU q,rfl,fun h' I e=>⟨t,_,e,rfl,rfl⟩⟩
abbrev zh2(h:Heap)(o1 o2:Obj):Heap:=(h.push o1).push o2
abbrev zh3(h:Heap)(o1 o2:Obj):Heap:=(zh2 h o1 o2).push { cls:=.type "tuple",data:=.seq #[.ref h.objs.size,.ref (h.push o1).objs.size] }
abbrev zh4(h:Heap)(o1 o2:Obj):Heap:=(zh3 h o1 o2).push { cls:=.type "tuple",data:=.seq #[.none,.none] }
abbrev zh5(h:Heap)(o1 o2:Obj):Heap:=(zh4 h o1 o2).push { cls:=.type "zip",data:=.fields #[.none,.bool false,.bool false,.ref (zh2 h o1 o2).objs.size,.ref (zh3 h o1 o2).objs.size] }
theorem zip_new(a b:Value)(o1 o2:Obj):Meets (Builtin.«zip.__new__» ⟨[.type "zip",a,b],[]⟩) (fun _ R s=>Begins s.heap a o1∧Begins s.heap b o2∧
      R (.ok (.ret (.ref (zh4 s.heap o1 o2).objs.size))) { s with heap:=zh5 s.heap o1 o2 }):=
  .of_wp fun prog w A R s h=>by
    obtain⟨hp,g,d,tk,os⟩:=s;obtain⟨h1,h2,h⟩:=h
    have hsub:=sub_zip
    have k1:∀{A':Around} {E':Value→Shared→Prop} {Q:Value→Shared→Prop},Q (.ref (Shared.heap ⟨hp,g,d,tk,os⟩).objs.size) ⟨hp.push o1,g,d,tk,os⟩→wpAny (model prog w) A' (pyIter a) Q E' ⟨hp,g,d,tk,os⟩:=fun q=>h1 _ _ _ _ _ _ (fun _ _ e=>e) q
    have k2:∀{A':Around} {E':Value→Shared→Prop} {Q:Value→Shared→Prop},Q (.ref (Shared.heap ⟨hp.push o1,g,d,tk,os⟩).objs.size) ⟨(hp.push o1).push o2,g,d,tk,os⟩→wpAny (model prog w) A' (pyIter b) Q E' ⟨hp.push o1,g,d,tk,os⟩:=fun q=>h2 _ _ _ _ _ _ (fun _ _ e=>Heap.get?_push_of_some _ e) q
    wp_walk using k1,k2
    exact⟨_,rfl,h⟩
theorem call_zip{prog:Program}{w:World}{A:Around}{E:Value→Shared→Prop}{s:Shared}{S1 S2:Sr}{v1 v2:Array Value}{a b:Value}{Q:Value→Shared→Prop}(e1:S1.val a)(e2:S2.val b)(x1:S1.has s.heap v1)(x2:S2.has s.heap v2)
    (q:∀h',ZS S1 S2 v1 v2 (s.heap.objs.size+4) (s.heap.objs.size+2) (s.heap.objs.size+3) s.heap.objs.size (s.heap.objs.size+1) 0 .none h'→ZA S1 S2 (s.heap.objs.size+4) (s.heap.objs.size+2) (s.heap.objs.size+3) s.heap.objs.size (s.heap.objs.size+1)→
      (∀c o,s.heap.get? c=some o→h'.get? c=some o)→Q (.ref (s.heap.objs.size+4)) { s with heap:=h' }):wpAny (model prog w) A (call (.type "zip") [a,b]) Q E s:=by
  obtain⟨o1,B1,f1,I1⟩:=Sr.begins e1 x1
  obtain⟨o2,B2,f2,I2⟩:=Sr.begins e2 x2
  refine callType_new F.called_zip (by decide) (F.typeCall_zip_2 _ _) (F.newCall_zip_2 _ _) (fun obj=>F.args_object_init_3 obj _ _) F.entry_zip_new (zip_new a b o1 o2) ⟨B1,B2,?_⟩
  have y1:(s.heap.push o1).objs.size=s.heap.objs.size+1:=Heap.size_push ..
  have y2:(zh2 s.heap o1 o2).objs.size=s.heap.objs.size+2:=by rw[Heap.size_push,y1]
  have y3:(zh3 s.heap o1 o2).objs.size=s.heap.objs.size+3:=by rw[Heap.size_push,y2]
  have y4:(zh4 s.heap o1 o2).objs.size=s.heap.objs.size+4:=by rw[Heap.size_push,y3]
  have g5:(zh5 s.heap o1 o2).get? (zh4 s.heap o1 o2).objs.size=some _:=Heap.get?_push_size _ rfl
  have g4:(zh5 s.heap o1 o2).get? (zh3 s.heap o1 o2).objs.size=some _:=Heap.get?_push_of_some _ (Heap.get?_push_size _ rfl)
  have g3:(zh5 s.heap o1 o2).get? (zh2 s.heap o1 o2).objs.size=some _:=Heap.get?_push_of_some _ (Heap.get?_push_of_some _ (Heap.get?_push_size _ rfl))
  have g2:(zh5 s.heap o1 o2).get? (s.heap.push o1).objs.size=some o2:=Heap.get?_push_of_some _ (Heap.get?_push_of_some _ (Heap.get?_push_of_some _ (Heap.get?_push_size _ f2)))
  have g1:(zh5 s.heap o1 o2).get? s.heap.objs.size=some o1:=Heap.get?_push_of_some _ (Heap.get?_push_of_some _ (Heap.get?_push_of_some _ (Heap.get?_push_of_some _ (Heap.get?_push_size _ f1))))
  have up:∀c o,s.heap.get? c=some o→(zh5 s.heap o1 o2).get? c=some o:=fun c o x=>Heap.get?_push_of_some _ (Heap.get?_push_of_some _ (Heap.get?_push_of_some _ (Heap.get?_push_of_some _ (Heap.get?_push_of_some _ x))))
  have off:∀{S:Sr} {vs:Array Value} (k:Nat),S.has s.heap vs→S.off (s.heap.objs.size+k):=fun{S vs} k x=>by
    cases S with
    | lst a=>obtain⟨o,e,_⟩:=x;exact Nat.ne_of_lt (Nat.lt_of_lt_of_le (Heap.lt_size e) (Nat.le_add_right _ k))
    | tup a=>obtain⟨o,e,_⟩:=x;exact Nat.ne_of_lt (Nat.lt_of_lt_of_le (Heap.lt_size e) (Nat.le_add_right _ k))
    | str z=>exact trivial
  have keep:∀{S:Sr} {vs:Array Value},S.has s.heap vs→S.has (zh5 s.heap o1 o2) vs:=fun{S vs} x=>by
    cases S with
    | lst a=>obtain⟨o,e,r⟩:=x;exact⟨o,up _ _ e,r⟩
    | tup a=>obtain⟨o,e,r⟩:=x;exact⟨o,up _ _ e,r⟩
    | str z=>exact x
  show _∧_
  rw[y2,y3,y4]at g5
  rw[y1,y2]at g3
  rw[y3]at g4
  rw[y1]at g2
  rw[y4]
  refine⟨⟨_,g5,rfl⟩,q _ ⟨g5,g3,⟨_,_,g4⟩,I1 _ _ g1,I2 _ _ g2,keep x1,keep x2⟩ ?_ up⟩
  have ne:∀i j:Nat,i≠j→s.heap.objs.size+i≠s.heap.objs.size+j:=fun i j hn h=>hn (Nat.add_left_cancel h)
  refine⟨ne 2 4 (by decide),ne 3 4 (by decide),ne 0 4 (by decide),ne 1 4 (by decide),ne 2 3 (by decide),ne 2 0 (by decide),ne 2 1 (by decide),ne 3 0 (by decide),ne 3 1 (by decide),ne 0 1 (by decide),fun x hx=>?_⟩
  simp only[List.mem_cons,List.not_mem_nil,or_false]at hx
  rcases hx with rfl | rfl | rfl | rfl
  · exact⟨off 4 x1,off 4 x2⟩
  · exact⟨off 3 x1,off 3 x2⟩
  · exact⟨off 0 x1,off 0 x2⟩
  · exact⟨off 1 x1,off 1 x2⟩
end L2
namespace L2
open PySem PySem.Spec PyProof.Rows
abbrev tIt(l:Addr):Obj:={ cls:=.type "tuple_iterator",data:=.fields #[.ref l,.int 0 0] }
abbrev enO(i:Addr):Obj:={ cls:=.type "enumerate",data:=.fields #[.none,.bool false,.ref i,rawInt 0,.none,.none] }
theorem enum_newT(l:Addr)(vs:Array Value)(n:Nat)(dct:Option Addr)(sl:Array (Option Value)) :
    Meets (Builtin.«enumerate.__new__» ⟨[.type "enumerate",.ref l],[]⟩) (fun _ R s=>s.heap.get? l=some { cls:=.type "tuple",dict:=dct,data:=.seq vs n,slots:=sl }∧
      R (.ok (.ret (.ref (s.heap.push (tIt l)).objs.size))) { s with heap:=(s.heap.push (tIt l)).push (enO s.heap.objs.size) }):=
  .of_wp fun prog w A R s h=>by
    obtain⟨hp,g,d,tk,os⟩:=s;obtain⟨hl,h⟩:=h;have hsub:=sub_enumerate
    have hL:Heap.IsTuple (Shared.heap ⟨hp,g,d,tk,os⟩) l vs:=⟨_,hl,rfl,n,rfl⟩
    wp_walk using AutoSeq1.wpAny_loadPart' hl
    refine wpAny_stack_any fun st=>wpAny_pure ?_;split
    · rename_i c _ _ _ _ _;cases (c == Value.type "enumerate")
      · wp_walk using AutoSeq1.wpAny_loadPart' hl,wpAny_pyIter_tuple hL;exact⟨_,rfl,h⟩
      · wp_walk using AutoSeq1.wpAny_loadPart' hl,wpAny_pyIter_tuple hL;exact⟨_,rfl,h⟩
    · wp_walk using AutoSeq1.wpAny_loadPart' hl,wpAny_pyIter_tuple hL;exact⟨_,rfl,h⟩
theorem call_enumT{prog:Program}{w:World}{A:Around}{E:Value→Shared→Prop}{s:Shared}{l:Addr}{vs:Array Value}{Q:Value→Shared→Prop}(hL:s.heap.IsTuple l vs)
    (h:∀h',IsEnum h' (s.heap.objs.size+1) s.heap.objs.size 0 .none→h'.IsTupleIter s.heap.objs.size l 0→(∀b o,s.heap.get? b=some o→h'.get? b=some o)→Q (.ref (s.heap.objs.size+1)) { s with heap:=h' }) :
    wpAny (model prog w) A (call (.type "enumerate") [.ref l]) Q E s:=by
  obtain⟨⟨c,dct,dt,sl⟩,hl,hc,n,hd⟩:=hL
  replace hc:c=.type "tuple":=hc;replace hd:dt=.seq vs n:=hd;subst hc hd
  refine callType_new F.called_enumerate (by decide) (F.typeCall_enumerate_1 _) (F.newCall_enumerate_1 _) (fun obj=>F.args_object_init_2 obj _) F.entry_enumerate_new (enum_newT l vs n dct sl) ⟨hl,?_⟩
  have hz:(s.heap.push (tIt l)).objs.size=s.heap.objs.size+1:=Heap.size_push ..
  show _∧_
  rw[hz]
  have he:IsEnum ((s.heap.push (tIt l)).push (enO s.heap.objs.size)) (s.heap.objs.size+1) s.heap.objs.size 0 .none:=by
    have:=Heap.get?_push_size (s.heap.push (tIt l)) (o:=enO s.heap.objs.size) rfl
    rw[hz]at this;exact this
  exact⟨⟨_,he,rfl⟩,h _ he ⟨_,Heap.get?_push_of_some _ (Heap.get?_push_size _ rfl),rfl,rfl⟩ fun b o x=>Heap.get?_push_of_some _ (Heap.get?_push_of_some _ x)⟩
theorem call_enum{prog:Program}{w:World}{A:Around}{E:Value→Shared→Prop}{s:Shared}{S:Sr}{vs:Array Value}{v:Value}{Q:Value→Shared→Prop}(e:S.val v)(x:S.has s.heap vs)
    (h:∀h',IsEnum h' (s.heap.objs.size+1) s.heap.objs.size 0 .none→S.it h' s.heap.objs.size 0→(∀b o,s.heap.get? b=some o→h'.get? b=some o)→Q (.ref (s.heap.objs.size+1)) { s with heap:=h' }) :
    wpAny (model prog w) A (call (.type "enumerate") [v]) Q E s:=by
  cases S with
  | lst a=>cases (show v=.ref a from e);exact call_enumerate_list x fun h' a b _ c=>h h' a b c
  | tup a=>cases (show v=.ref a from e);exact call_enumT x h
  | str z=>obtain⟨t,rfl⟩:=(show ∃t,v=.str z t from e);exact call_enumerate_str fun h' a b _ c=>h h' a ⟨t,b⟩ c
end L2
namespace L2
open PySem PySem.Spec PyProof.Rows
section
variable{X:Cx}{pins:List (Addr × Obj)}{σ:St}{H:Hp}{s:Shared}{h':Heap}
theorem Inv.turneds{t':Nat}{ch:List Addr}(I:Inv X pins σ H s)(k:∀b o,b ∉ ch→s.heap.get? b=some o→h'.get? b=some o)(hf:∀b∈ch,FpOk X pins H b):Inv X pins σ H { s with heap:=h',toks:=t' }:=by
  have nit:∀b u,H b=some u→b ∉ ch:=fun b u e z=>by rw[(hf b z).1]at e;cases e
  refine I.step (g':=s.gens) (d':=s.drawn) (ch:=ch) (fun b hb=>?_) (fun b o _ _ hc e _=>k b o hc e) (fun b o _ _ hc e _=>⟨o.slots,k b o hc e⟩) (fun _ _ _ _ n=>n) (fun b o hc e=>⟨o,k b o hc e⟩) (fun _ _ e=>e) (fun _ _ _ e=>e)
    (fun b ps e=>⟨#[],by rw[e];simp⟩) (fun m hm=>?_) (fun b u e=>?_) I.bare
  · obtain⟨f0,f1,f2,f3,f4,f5⟩:=hf b hb
    exact⟨f3,f1,f4,f5⟩
  · obtain⟨o,es,ep,ho,r⟩:=hm
    exact⟨o,es,ep,k _ o (fun z=>(hf _ z).2.1 rfl) ho,r⟩
  · refine(I.hok b u e).stay (fun c v hc q=>k c v ?_ q) (fun _ q=>q) fun _ _ q=>q
    rcases hc with z | z
    · rw[z];exact nit b u e
    · exact nit c _ z
theorem Inv.track{a:Addr}{o:HO}(I:Inv X pins σ H s)(hs:X.s₀.heap.objs.size≤a)(f:FpOk X pins H a)(new:ObjOk X.prog X.w (upd H a o) s.heap a o):Inv X pins σ (upd H a o) s:=
  ⟨I.ok,I.os,I.bare,I.base.track hs f.1,I.loc,I.cell,by rw[upd_ne (Ne.symm f.2.1)];exact I.free,fun x c e=>by rw[upd_ne (f.2.2.2.2.1 x c e)];exact I.freeC x c e,fun p hp=>by
    obtain⟨e,n,r⟩:=I.pin p hp
    exact⟨e,by rw[upd_ne (f.2.2.2.2.2 p hp)];exact n,r⟩,I.hok.track f.1 new,I.len⟩
end
def signs(x:Str):List V:=x.cps.toList.map fun c=>V.str ⟨#[c]⟩
def Sr.vals(K:PySem.W.Frag)(H:Hp):Sr→List V→Prop
  | .lst a,xs=>SqL K H a xs
  | .tup a,xs=>SqT K H a xs
  | .str x,xs=>xs=signs x
def Sr.ofV:Sr→V→Prop
  | .lst a,v=>v=.ref a
  | .tup a,v=>v=.ref a
  | .str x,v=>v=.str x
section
variable{X:Cx}{pins:List (Addr × Obj)}{σ:St}{H:Hp}{s:Shared}{S:Sr}{xs ys:List V}
theorem Sr.vals.get(I:Inv X pins σ H s)(h:S.vals X.K H xs):∃vs,S.has s.heap vs∧vs.size=xs.length∧∀i x v,xs[i]? = some x→S.is vs i v→RelV x v:=by
  cases S with
  | lst a=>
    obtain⟨its,rv,p,hz⟩:=I.list h
    refine⟨its.toArray,p.isList,by have:=rv.length;simp;omega,fun i x v e1 e2=>?_⟩
    obtain⟨u,hu,ru⟩:=rv.get e1
    have e2:its.toArray[i]? = some v:=e2
    rw[List.getElem?_toArray,hu]at e2
    cases e2
    exact ru
  | tup a=>
    obtain⟨its,rv,p,hz⟩:=I.tuple h
    refine⟨its.toArray,(show s.heap.IsTuple a its.toArray from p),by have:=rv.length;simp;omega,fun i x v e1 e2=>?_⟩
    obtain⟨u,hu,ru⟩:=rv.get e1
    have e2:its.toArray[i]? = some v:=e2
    rw[List.getElem?_toArray,hu]at e2
    cases e2
    exact ru
  | str z=>
    cases (show xs=signs z from h)
    refine⟨Array.replicate z.cps.size .none,by show(Array.replicate _ _).size=_;simp,by simp[signs],fun i x v e1 e2=>?_⟩
    obtain⟨c,u,ec,rfl⟩:=(show ∃c u,z.cps[i]? = some c∧v=.str ⟨#[c]⟩ u from e2)
    have:(signs z)[i]? = some (V.str ⟨#[c]⟩):=by simp[signs,ec]
    rw[this]at e1
    cases e1
    exact⟨u,rfl⟩
theorem Sr.vals.inj(I:Inv X pins σ H s)(h:S.vals X.K H xs)(h':S.vals X.K H ys):xs=ys:=by
  cases S with
  | lst a=>exact I.list_inj h h'
  | tup a=>exact I.tuple_inj h h'
  | str z=>exact(show xs=signs z from h).trans (show ys=signs z from h').symm
theorem Sr.ofV.val{x:V}{u:Value}(e:S.ofV x)(r:RelV x u):S.val u:=by
  cases S with
  | lst a=>cases (show x=.ref a from e);exact r
  | tup a=>cases (show x=.ref a from e);exact r
  | str z=>cases (show x=.str z from e);exact r
end
theorem Sr.vals.same{K:PySem.W.Frag}{H H':Hp}{S:Sr}{xs:List V}(h:S.vals K H xs)(hl:∀a,SqL K H a xs→SqL K H' a xs)(ht:∀a,SqT K H a xs→SqT K H' a xs):S.vals K H' xs:=by
  cases S with
  | lst a=>exact hl a h
  | tup a=>exact ht a h
  | str z=>exact h
def Itz(K:PySem.W.Frag)(S1 S2:Sr):It:=
  ⟨fun i H=>∃xs ys x y,S1.vals K H xs∧S2.vals K H ys∧xs[i]? = some x∧ys[i]? = some y,
   fun i H v H'=>∃p x y,v=.ref p∧H p=none∧H'=upd H p (.tup [x,y])∧(∀xs,S1.vals K H xs→xs[i]? = some x)∧∀ys,S2.vals K H ys→ys[i]? = some y,
   fun i H=>∃xs ys,S1.vals K H xs∧S2.vals K H ys∧(i=xs.length∨(i < xs.length∧i=ys.length))⟩
theorem turn_zip{P:Program}{w:World}{K:PySem.W.Frag}{es:List Expr}{kk:Nat}{tp:Pos}{S1 S2:Sr}{z TI TO i1 i2:Addr}(D:ZA S1 S2 z TI TO i1 i2) :
    Turn P w K (.Tuple es kk tp) (Itz K S1 S2) [z,TI,TO,i1,i2] z (fun i h=>IsZip h z TI TO .none∧IsPair h TI (.ref i1) (.ref i2)∧(∃a b,IsPair h TO a b)∧S1.it h i1 i∧S2.it h i2 i)where
  mem:=by simp
  obj:=fun i h st b hb=>by
    obtain⟨hz,hi,⟨a,a',ho⟩,h1,h2⟩:=st
    simp only[List.mem_cons,List.not_mem_nil,or_false]at hb
    rcases hb with rfl | rfl | rfl | rfl | rfl
    · exact⟨_,hz,fun v z=>by simp at z⟩
    · exact⟨_,hi,fun v z=>by simp at z⟩
    · exact⟨_,ho,fun v z=>by simp at z⟩
    · exact h1.obj
    · exact h2.obj
  keep:=fun i h h' st k=>by
    obtain⟨hz,hi,⟨a,a',ho⟩,h1,h2⟩:=st
    exact⟨k z (by simp) _ hz,k TI (by simp) _ hi,⟨a,a',k TO (by simp) _ ho⟩,h1.mv fun o e=>k i1 (by simp) o e,h2.mv fun o e=>k i2 (by simp) o e⟩
  item:=by
    intro X hP hw hK hc i pins s σ H E I hf st hg
    subst hP hw hK
    obtain⟨xs,ys,x,y,hx,hy,ex,ey⟩:=hg
    obtain⟨v1,a1,z1,r1⟩:=Sr.vals.get I hx
    obtain⟨v2,a2,z2,r2⟩:=Sr.vals.get I hy
    obtain⟨hz,hi,ho,h1,h2⟩:=st
    have l1:=(List.getElem?_eq_some_iff.mp ex).1
    have l2:=(List.getElem?_eq_some_iff.mp ey).1
    have hT:s.TypeIs (.ref z) "zip":=⟨_,hz,rfl⟩
    have lt:∀b∈[z,TI,TO,i1,i2],b≠s.heap.objs.size:=fun b hb=>by
      obtain⟨a,a',ho⟩:=ho
      simp only[List.mem_cons,List.not_mem_nil,or_false]at hb
      rcases hb with rfl | rfl | rfl | rfl | rfl
      · exact Nat.ne_of_lt (Heap.lt_size hz)
      · exact Nat.ne_of_lt (Heap.lt_size hi)
      · exact Nat.ne_of_lt (Heap.lt_size ho)
      · obtain⟨_,e,_⟩:=h1.obj;exact Nat.ne_of_lt (Heap.lt_size e)
      · obtain⟨_,e,_⟩:=h2.obj;exact Nat.ne_of_lt (Heap.lt_size e)
    unfold pyNext
    refine wpAny_bind (wpAny_attempt (wpAny_callSpecial?_slot (name:=Str.ofString "__next__") hT F.slot_zip_next (wpAny_call_entry F.slot_zip_next hT F.entry_zip_next
      (zip_item (A:=X.A.in1) D (show X.A.in1.handled=none from I.ok.hd hc) ⟨hz,hi,ho,h1,h2,a1,a2⟩ (by omega) (by omega) fun xv yv h' tk px py Z hp hs up=>wpAny_pure ?_) (F.args_zip_next_1 _))))
    refine⟨_,rfl,wpAny_letOwnedTupleGo_zip Z.z fun h'' hz'' sb=>?_⟩
    have sb:Heap.SameBut z h' h'':=sb
    have kk:∀b o,b ∉ [z,TI,TO,i1,i2]→s.heap.get? b=some o→h''.get? b=some o:=fun b o hb e=>by
      simp only[List.mem_cons,List.not_mem_nil,or_false,not_or]at hb
      exact sb.extBut _ _ hb.1 (up b o hb.1 hb.2.2.1 hb.2.2.2.1 hb.2.2.2.2 e)
    have I1:Inv X pins σ H { s with heap:=h'',toks:=tk }:=I.turneds (t':=tk) kk hf
    have fT:FpOk X pins H s.heap.objs.size:=I.fpOk (Nat.le_refl _) (I.hok.fresh (Nat.le_refl _))
    have zT:s.heap.objs.size≠z:=Ne.symm (lt z (by simp))
    have oT:IsPair h'' s.heap.objs.size xv yv:=sb.extBut _ _ zT hp
    have I2:Inv X pins σ (upd H s.heap.objs.size (.tup [x,y])) { s with heap:=h'',toks:=tk }:=I1.track (Nat.le_trans I.sz (Nat.le_refl _)) fT
      ⟨by show 2≤sizeLine;decide,[xv,yv],.cons (r1 i x xv ex px) (.cons (r2 i y yv ey py) .nil),⟨_,oT,rfl,_,rfl⟩,fun _=>⟨_,oT,rfl⟩⟩
    refine⟨.ref s.heap.objs.size,_,I2,rfl,⟨_,x,y,rfl,fT.1,rfl,fun xs' h=>by rw[Sr.vals.inj I h hx];exact ex,fun ys' h=>by rw[Sr.vals.inj I h hy];exact ey⟩,⟨hz'',sb.extBut _ _ D.a Z.ti,?_,Z.s1.mv fun o e=>sb.extBut _ _ D.c e,Z.s2.mv fun o e=>sb.extBut _ _ D.d e⟩,fun b hb=>?_⟩
    · obtain⟨a,a',ho⟩:=Z.to
      exact⟨a,a',sb.extBut _ _ D.b ho⟩
    · rw[upd_ne (lt b hb)]
      exact(hf b hb).1
  done:=by
    intro X hP hw hK hc i pins s σ H E I hf st hg
    subst hP hw hK
    obtain⟨xs,ys,hx,hy,l⟩:=hg
    obtain⟨v1,a1,z1,r1⟩:=Sr.vals.get I hx
    obtain⟨v2,a2,z2,r2⟩:=Sr.vals.get I hy
    obtain⟨hz,hi,ho,h1,h2⟩:=st
    have hT:s.TypeIs (.ref z) "zip":=⟨_,hz,rfl⟩
    unfold pyNext
    refine wpAny_bind (wpAny_attempt (wpAny_callSpecial?_slot (name:=Str.ofString "__next__") hT F.slot_zip_next (wpAny_call_entry F.slot_zip_next hT F.entry_zip_next
      (zip_end (A:=X.A.in1) D (show X.A.in1.handled=none from I.ok.hd hc) ⟨hz,hi,ho,h1,h2,a1,a2⟩ (by omega) fun h' e tk up ⟨o,eo,co⟩=>?_) (F.args_zip_next_1 _))))
    refine wpAny_bind (wpAny_isInstance (T:="StopIteration") (b:=true) ⟨o,eo,co⟩ isSubtype_stop ?_)
    refine wpAny_pure ⟨rfl,I.turneds (ch:=[z,TI,TO,i1,i2]) (t':=tk) (fun b o hb e=>?_) hf⟩
    simp only[List.mem_cons,List.not_mem_nil,or_false,not_or]at hb
    exact up b o hb.1 hb.2.2.1 hb.2.2.2.1 hb.2.2.2.2 e
  self:=fun _ _ _ _ _ st h=>wpAny_pyIter_zip st.1 h
def iZip(K:PySem.W.Frag)(ta:TA):TI:=fun σ H R=>ta σ H fun vs H1=>∃S1 S2 x y xs ys,vs=[x,y]∧Sr.ofV S1 x∧Sr.ofV S2 y∧S1.vals K H1 xs∧S2.vals K H1 ys∧R (Itz K S1 S2) H1
theorem pi_zip{X:Cx}{a b:Expr}{ta:TA}{p pos tp:Pos}{es:List Expr}{kk:Nat}(hg:Gl X "zip")(hm:X.mg "zip"=none)(ha:PA X [a,b] ta)(hs:starEach [a,b] X.env=[(false,eval a X.env),(false,eval b X.env)]:=by rfl)
    (hs2:starEach [b] X.env=[(false,eval b X.env)]:=by rfl):PI X (.Tuple es kk tp) (.Call (.Name "zip" p) [a,b] [] pos) (iZip X.K ta):=by
  intro pins s σ H R I h
  refine Call_ (ld_blt I hg hm boot_zip (PyProof.Rows.callWith_type1 (thn (ha pos pins s σ H _ I h) fun us s1 ⟨vs,H1,I1,r1,q1⟩=>?_) (by rw[hs,hs2]) (by rw[hs2];rfl)))
  obtain⟨S1,S2,x,y,xs,ys,e,e1,e2,hx,hy,q⟩:=q1
  subst e
  cases r1 with
  | cons r rr=>
    cases rr with
    | cons r' rr=>
      cases rr
      obtain⟨v1,a1,z1,_⟩:=Sr.vals.get I1 hx
      obtain⟨v2,a2,z2,_⟩:=Sr.vals.get I1 hy
      refine call_zip (e1.val r) (e2.val r') a1 a2 fun h' Z D up=>wpAny_pyIter_zip Z.z ⟨_,_,_,_,H1,rfl,I1.kept (t':=s1.toks) up,turn_zip D,⟨Z.z,Z.ti,Z.to,Z.s1,Z.s2⟩,fun b hb=>?_,q⟩
      simp only[List.mem_cons,List.not_mem_nil,or_false]at hb
      have le:s1.heap.objs.size≤b:=by rcases hb with rfl | rfl | rfl | rfl | rfl <;>omega
      exact I1.fpOk le (I1.hok.fresh le)
def Ite(K:PySem.W.Frag)(S:Sr):It:=
  ⟨fun i H=>∃xs x,S.vals K H xs∧xs[i]? = some x,fun i H v H'=>∃p x,v=.ref p∧H p=none∧H'=upd H p (.tup [.int i,x])∧∀xs,S.vals K H xs→xs[i]? = some x,fun i H=>∃xs,S.vals K H xs∧i=xs.length⟩
theorem Sr.fp_it(S:Sr)(I:Addr):I∈S.fp I:=by cases S <;>simp[Sr.fp]
theorem turn_enum{P:Program}{w:World}{K:PySem.W.Frag}{es:List Expr}{kk:Nat}{tp:Pos}{S:Sr}{e it:Addr}(D:e≠it)(o1:S.off e)(o2:S.off it) :
    Turn P w K (.Tuple es kk tp) (Ite K S) [e,it] e (fun i h=>(∃old,IsEnum h e it i old)∧S.it h it i)where
  mem:=by simp
  obj:=fun i h st b hb=>by
    obtain⟨⟨old,he⟩,h1⟩:=st
    simp only[List.mem_cons,List.not_mem_nil,or_false]at hb
    rcases hb with rfl | rfl
    · exact⟨_,he,fun v z=>by simp at z⟩
    · exact h1.obj
  keep:=fun i h h' st k=>by
    obtain⟨⟨old,he⟩,h1⟩:=st
    exact⟨⟨old,k e (by simp) _ he⟩,h1.mv fun o q=>k it (by simp) o q⟩
  item:=by
    intro X hP hw hK hc i pins s σ H E I hf st hg
    subst hP hw hK
    obtain⟨xs,x,hx,ex⟩:=hg
    obtain⟨vs,a1,z1,r1⟩:=Sr.vals.get I hx
    obtain⟨⟨old,he⟩,h1⟩:=st
    have l1:=(List.getElem?_eq_some_iff.mp ex).1
    have lt:∀b∈[e,it],b < s.heap.objs.size:=fun b hb=>by
      simp only[List.mem_cons,List.not_mem_nil,or_false]at hb
      rcases hb with rfl | rfl
      · exact Heap.lt_size he
      · obtain⟨_,q,_⟩:=h1.obj;exact Heap.lt_size q
    have hh:X.A.in1.handled=none:=I.ok.hd hc
    have W:=WalksT.enumerateD (prog:=X.prog) (w:=X.w) (A:=X.A) (S.draws hh it o2 vs) e D (Sr.fp_off o1 D) (S.fp_it it)
    refine W.item i s _ E (by omega) ⟨⟨old,he⟩,h1,a1⟩ fun T vals h' tk hP hT ht hM hk=>⟨_,rfl,W.go es kk tp i T _ _ E hM fun h'' st'' hk''=>?_⟩
    obtain⟨t,xv,px,rfl⟩:=hP
    have kk:∀b o,b ∉ [e,it]→s.heap.get? b=some o→h''.get? b=some o:=fun b o hb q=>hk'' b o hb (hk b o hb q)
    have I1:Inv X pins σ H { s with heap:=h'',toks:=tk }:=I.turneds (t':=tk) kk hf
    have fT:FpOk X pins H T:=I.fpOk hT (I.hok.fresh hT)
    have nT:T ∉ [e,it]:=W.apart i T _ hM
    have oT:h''.IsTuple T #[.int i t,xv]:=let⟨o,q,r⟩:=ht;⟨o,hk'' T o nT q,r⟩
    have I2:Inv X pins σ (upd H T (.tup [.int i,x])) { s with heap:=h'',toks:=tk }:=I1.track (Nat.le_trans I.sz hT) fT
      ⟨by show 2≤sizeLine;decide,[.int i t,xv],.cons ⟨t,rfl⟩ (.cons (r1 i x xv ex px) .nil),oT,fun z=>absurd rfl (z i x)⟩
    refine⟨.ref T,_,I2,rfl,⟨_,x,rfl,fT.1,rfl,fun xs' h=>by rw[Sr.vals.inj I h hx];exact ex⟩,⟨st''.1,st''.2.1⟩,fun b hb=>?_⟩
    rw[upd_ne (Nat.ne_of_lt (Nat.lt_of_lt_of_le (lt b hb) hT))]
    exact(hf b hb).1
  done:=by
    intro X hP hw hK hc i pins s σ H E I hf st hg
    subst hP hw hK
    obtain⟨xs,hx,l⟩:=hg
    obtain⟨vs,a1,z1,r1⟩:=Sr.vals.get I hx
    obtain⟨⟨old,he⟩,h1⟩:=st
    have hh:X.A.in1.handled=none:=I.ok.hd hc
    have W:=WalksT.enumerateD (prog:=X.prog) (w:=X.w) (A:=X.A) (S.draws hh it o2 vs) e D (Sr.fp_off o1 D) (S.fp_it it)
    have ei:i=vs.size:=by omega
    subst ei
    exact W.done s _ E ⟨⟨old,he⟩,h1,a1⟩ fun h' tk hk=>⟨rfl,I.turneds (t':=tk) hk hf⟩
  self:=fun _ _ _ _ _ st h=>by
    obtain⟨⟨old,he⟩,_⟩:=st
    exact wpAny_pyIter_enum he h
def iEnum(K:PySem.W.Frag)(ta:TA):TI:=fun σ H R=>ta σ H fun vs H1=>∃S x xs,vs=[x]∧Sr.ofV S x∧S.vals K H1 xs∧R (Ite K S) H1
theorem pi_enum{X:Cx}{a:Expr}{ta:TA}{p pos tp:Pos}{es:List Expr}{kk:Nat}(hg:Gl X "enumerate")(hm:X.mg "enumerate"=none)(ha:PA X [a] ta)(hs:starEach [a] X.env=[(false,eval a X.env)]:=by rfl) :
    PI X (.Tuple es kk tp) (.Call (.Name "enumerate" p) [a] [] pos) (iEnum X.K ta):=by
  intro pins s σ H R I h
  refine Call_ (ld_blt I hg hm boot_enumerate (PyProof.Rows.callWith_type1 (thn (ha pos pins s σ H _ I h) fun us s1 ⟨vs,H1,I1,r1,q1⟩=>?_) hs rfl))
  obtain⟨S,x,xs,e,e1,hx,q⟩:=q1
  subst e
  cases r1 with
  | cons r rr=>
    cases rr
    obtain⟨v1,a1,z1,_⟩:=Sr.vals.get I1 hx
    have off:∀k:Nat,S.off (s1.heap.objs.size+k):=fun k=>by
      cases S with
      | lst a=>obtain⟨o,q,_⟩:=a1;exact Nat.ne_of_lt (Nat.lt_of_lt_of_le (Heap.lt_size q) (Nat.le_add_right _ k))
      | tup a=>obtain⟨o,q,_⟩:=a1;exact Nat.ne_of_lt (Nat.lt_of_lt_of_le (Heap.lt_size q) (Nat.le_add_right _ k))
      | str z=>exact trivial
    refine call_enum (e1.val r) a1 fun h' he hi up=>wpAny_pyIter_enum he ⟨_,_,_,_,H1,rfl,I1.kept (t':=s1.toks) up,turn_enum (Nat.succ_ne_self _) (off 1) (off 0),⟨⟨_,he⟩,hi⟩,fun b hb=>?_,q⟩
    simp only[List.mem_cons,List.not_mem_nil,or_false]at hb
    have le:s1.heap.objs.size≤b:=by rcases hb with rfl | rfl <;>omega
    exact I1.fpOk le (I1.hok.fresh le)
theorem for_zip{K:PySem.W.Frag}{S1 S2:Sr}{xs ys:List V}{g:TG}{tb:TS}{D:Ends}{σ:St}{H:Hp}(Pv:Nat→St→Hp→Prop)(hll:xs.length=ys.length)(h0:Pv 0 σ H)(hl:∀i σ H,i≤xs.length→Pv i σ H→S1.vals K H xs∧S2.vals K H ys)
    (hs:∀i x y p σ H,xs[i]? = some x→ys[i]? = some y→H p=none→Pv i σ H→g (.ref p) σ (upd H p (.tup [x,y])) fun σ2 H2=>tb { D with nx:=Pv (i+1),ct:=Pv (i+1),bk:=D.nx } σ2 H2) (hd:∀σ H,Pv xs.length σ H→D.nx σ H) :
    ∃W:Nat→Nat→St→Hp→Prop,(∃m,W 0 m σ H)∧∀i m σ H,W i m σ H→
      ((Itz K S1 S2).stop i H∧D.nx σ H)∨((Itz K S1 S2).go i H∧∃N:St→Hp→Prop,(∀σ' H',N σ' H'→∃m',m' < m∧W (i+1) m' σ' H')∧∀x H',(Itz K S1 S2).yld i H x H'→g x σ H' fun σ2 H2=>tb { D with nx:=N,ct:=N,bk:=D.nx } σ2 H2):=by
  refine⟨fun i m σ H=>m=xs.length - i∧i≤xs.length∧Pv i σ H,⟨xs.length,by simp,Nat.zero_le _,h0⟩,?_⟩
  rintro i m σ H ⟨rfl,hi,p⟩
  obtain⟨q1,q2⟩:=hl i σ H hi p
  by_cases hlt:i < xs.length
  · have hly:i < ys.length:=by omega
    refine .inr ⟨⟨xs,ys,xs[i],ys[i],q1,q2,by simp[hlt],by simp[hly]⟩,Pv (i+1),fun σ' H' p'=>⟨xs.length - (i+1),by omega,rfl,hlt,p'⟩,fun x H' y=>?_⟩
    obtain⟨pp,x',y',rfl,hn,rfl,y1,y2⟩:=y
    exact hs i x' y' pp σ H (y1 xs q1) (y2 ys q2) hn p
  · have e:i=xs.length:=by omega
    subst e
    exact .inl ⟨⟨xs,ys,q1,q2,.inl rfl⟩,hd σ H p⟩
end L2
namespace L2
open PySem PySem.Spec PyProof.Rows
section
variable{X:Cx}
def repS(z:Str)(n:Int):Str:=if n < 1 then Str.empty else if(n == 1 || z.length == 0)=true then z else⟨(List.replicate n.toNat z.cps).foldl (·++·) #[]⟩
def rMulS:R2:=fun x y H Q=>∃z n,x=.str z∧y=.int n∧(-1000000≤n∧n≤1000000∧z.length≤1000000∧z.length * n.toNat≤1000000∧(repS z n).length≤sizeLine)∧Q (.str (repS z n)) H
theorem op_mulS:OpR X (binaryOp .Mult) rMulS:=by
  intro pins s σ H x y v u Q I rx ry h
  obtain⟨z,n,rfl,rfl,⟨h1,h2,h3,h4,h5⟩,q⟩:=h
  obtain⟨t,rfl⟩:=rx
  obtain⟨t',rfl⟩:=ry
  refine PySem.P.mul_str (by rw[decide_eq_false (by omega),decide_eq_false (by omega)];rfl) (fun hn _=>?_) (fun hn _=>?_) ?_
  · have:n≤1000000:=h2
    have e:(2 ^ 63 - 1:Int) / n ≥ (2 ^ 63 - 1:Int) / 1000000:=by
      have hp:(0:Int) < n:=by omega
      rw[ge_iff_le,Int.le_ediv_iff_mul_le hp]
      have hm:(2 ^ 63 - 1:Int) / 1000000 * n≤(2 ^ 63 - 1:Int) / 1000000 * 1000000:=Int.mul_le_mul_of_nonneg_left h2 (by decide)
      have:(2 ^ 63 - 1:Int) / 1000000 * 1000000≤2 ^ 63 - 1:=by decide
      omega
    have f:(2 ^ 63 - 1:Int) / 1000000=9223372036854:=by decide
    omega
  · unfold Builtin.Str.tooLong
    exact decide_eq_false (by have:=sizeLine_eq;omega)
  · unfold repS at h5 q
    split
    · rename_i hn
      rw[if_pos hn]at q h5
      exact⟨h5,.str _,H,I.tok _,⟨_,rfl⟩,q⟩
    · rename_i hn
      rw[if_neg hn]at q h5
      split
      · rename_i hm
        rw[if_pos hm]at q
        exact⟨.str _,H,I,⟨_,rfl⟩,q⟩
      · rename_i hm
        rw[if_neg hm]at q h5
        exact⟨h5,.str _,H,I.tok _,⟨_,rfl⟩,q⟩
def rIndexS:V→List V→Hp→VK→Prop:=fun x xs H Q=>∃z y i rest,x=.str z∧xs=[.str y]∧Builtin.Str.occurrences z y 0 z.length 1=i::rest∧Q (.int (i:Nat)) H
theorem mt_indexS:MtR X "str.index" rIndexS:=by
  intro pins s σ H x xs v us Q I rx rs h
  obtain⟨z,y,i,rest,rfl,rfl,e,q⟩:=h
  obtain⟨t,rfl⟩:=rx
  obtain⟨u,rfl,ru⟩:=rs.one
  obtain⟨t',rfl⟩:=ru
  exact call_gives F.slot_str_index (typeIs_str s z t) F.entry_str_index (F.args_str_index_2 _ _) (PySem.gives_str_index z y t t' i rest e) ⟨.int _,H,I.tok _,⟨_,rfl⟩,q⟩
def Its(z:Str):It:=⟨fun i _=>i < z.cps.size,fun i H x H'=>H'=H∧∃c,z.cps[i]? = some c∧x=.str ⟨#[c]⟩,fun i _=>z.cps.size≤i⟩
theorem turn_str{P:Program}{w:World}{K:PySem.W.Frag}{tg:Expr}(z:Str)(t:Tok)(it:Addr):Turn P w K tg (Its z) [it] it (fun i h=>h.IsStrIter it "str_ascii_iterator" z t i)where
  mem:=by simp
  obj:=fun i h st b hb=>by
    have e:b=it:=by simpa using hb
    subst e
    obtain⟨o,e,c,d⟩:=st
    exact⟨o,e,fun v q=>by rw[d]at q;cases q⟩
  keep:=fun i h h' st k=>by
    obtain⟨o,e,r⟩:=st
    exact⟨o,k it (by simp) o e,r⟩
  item:=by
    intro X hP hw hK hc i pins s σ H E I hf st hg
    subst hP hw hK
    have hg:i < z.cps.size:=hg
    obtain⟨f0,f1,f2,f3,f4,f5⟩:=hf it (by simp)
    refine wpAny_pyNext_ascii_item st (c:=z.cps[i]) (by simp[hg]) fun h' st' sb=>?_
    have I1:Inv X pins σ H { s with heap:=h',toks:=s.toks+1 }:=I.turned (t':=s.toks+1) (fun b o hb e=>(sb.2 b hb).trans e) f0 f1 f3 f4 f5
    obtain⟨o,e,c,d⟩:=id st'
    exact⟨_,rfl,go_of (s:={ s with heap:=h',toks:=s.toks+1 }) e c d (by decide) ⟨.str ⟨#[z.cps[i]]⟩,H,I1,⟨_,rfl⟩,⟨rfl,_,by simp[hg],rfl⟩,st',fun b hb=>(hf b hb).1⟩⟩
  done:=by
    intro X hP hw hK hc i pins s σ H E I hf st hg
    subst hP hw hK
    have hg:z.cps.size≤i:=hg
    obtain⟨f0,f1,f2,f3,f4,f5⟩:=hf it (by simp)
    exact wpAny_pyNext_ascii_end (I.ok.hd hc) st (by simp;omega) fun h' eb=>⟨rfl,I.turned (t':=s.toks) (fun b o hb e=>eb b o hb e) f0 f1 f3 f4 f5⟩
  self:=fun _ _ _ _ _ st h=>wpAny_pyIter_striter_ascii st h
def iStr(tl:TE):TI:=fun σ H R=>tl σ H fun x H1=>∃z,x=.str z∧z.cps.all (· < 128)=true∧R (Its z) H1
theorem pi_str{tg l:Expr}{tl:TE}(hl:PE X l tl):PI X tg l (iStr tl):=by
  intro pins s σ H R I h
  refine thn (hl pins s σ H _ I h) fun v s1 ⟨x,H1,I1,r1,z,e,ha,q⟩=>?_
  subst e
  obtain⟨t,rfl⟩:=r1
  refine wpAny_pyIter_ascii ha ?_
  have hf:H1 s1.heap.objs.size=none:=I1.hok.fresh (Nat.le_refl _)
  refine⟨s1.heap.objs.size,[s1.heap.objs.size],_,Its z,H1,rfl,I1.kept (t':=s1.toks) (fun b ob q=>Heap.get?_push_of_some _ q),turn_str z t _,⟨_,Heap.get?_push_size _ rfl,rfl,rfl⟩,fun b hb=>?_,q⟩
  have e:b=s1.heap.objs.size:=by simpa using hb
  subst e
  exact I1.fpOk (Nat.le_refl _) hf
end
end L2
namespace L2
open PySem PySem.Spec PyProof.Rows
section
variable{X:Cx}
theorem vals_bl{bs:List Bool}{its:List Value}(r:Vals (bs.map V.bl) its){i:Nat}{v:Value}(h:its[i]? = some v):∃b,bs[i]? = some b∧v=.bool b:=by
  have len:=r.length
  rw[List.length_map]at len
  have hi:i < its.length:=(List.getElem?_eq_some_iff.mp h).1
  have hb:bs[i]? = some (bs[i]'(by omega)):=List.getElem?_eq_getElem (by omega)
  obtain⟨u,hu,ru⟩:=r.get (i:=i) (x:=V.bl (bs[i]'(by omega))) (by rw[List.getElem?_map,hb];rfl)
  rw[h]at hu
  cases hu
  exact⟨_,hb,ru⟩
theorem all_range(bs:List Bool):(List.range bs.length).all (fun i=>bs[i]?.getD false)=bs.all id:=by
  rw[Bool.eq_iff_iff,List.all_eq_true,List.all_eq_true]
  constructor
  · intro h b hb
    obtain⟨i,hi,e⟩:=List.getElem_of_mem hb
    have:=h i (List.mem_range.mpr hi)
    rw[List.getElem?_eq_getElem hi,Option.getD_some,e]at this
    exact this
  · intro h i hi
    have hi:=List.mem_range.mp hi
    rw[List.getElem?_eq_getElem hi,Option.getD_some]
    exact h _ (List.getElem_mem hi)
def rAll(K:PySem.W.Frag)(f:List Bool→Bool):List V→Hp→VK→Prop:=fun xs H Q=>∃a bs,xs=[.ref a]∧SqL K H a (bs.map V.bl)∧Q (.bl (f bs)) H
theorem call_all(hc:X.calm=true):CallR X (.builtin "all") (rAll X.K fun bs=>bs.all id):=by
  intro pins s σ H xs us Q I r h
  obtain⟨a,bs,rfl,hq,q⟩:=h
  obtain⟨u,rfl,ru⟩:=r.one
  cases (show u=Value.ref a from ru)
  obtain⟨its,rv,p,hz⟩:=I.list hq
  have lt:a≠s.heap.objs.size:=by obtain⟨o,n,e,_⟩:=p;exact Nat.ne_of_lt (Heap.lt_size e)
  have hh:X.A.in1.handled=none:=I.ok.hd hc
  have hl:=p.isList
  have len:=rv.length
  rw[List.length_map]at len
  refine call_all_walk (wpAny_pyIter_list hl ⟨_,_,_,_,_,_,fun i=>bs[i]?.getD false,rfl,Walks.list hh s.heap.objs.size a lt its.toArray,⟨⟨_,Heap.get?_push_size _ rfl,rfl,rfl⟩,Heap.IsList.push hl _⟩,fun i v s' Q' E' hv q'=>?_,fun h' tk k=>?_⟩)
  · have hv:its.toArray[i]? = some v:=hv
    rw[List.getElem?_toArray]at hv
    obtain⟨b,eb,rfl⟩:=vals_bl rv hv
    have q':Q' (bs[i]?.getD false) s':=q'
    rw[eb]at q'
    exact wpAny_truthy_bool q'
  · rw[List.size_toArray,← len,all_range]
    refine⟨.bl _,H,I.kept (t':=tk) fun b o e=>k b o (fun z=>?_) (Heap.get?_push_of_some _ e),rfl,q⟩
    rw[List.mem_singleton]at z
    exact absurd (Heap.lt_size e) (by rw[z];exact Nat.lt_irrefl _)
end
end L2
namespace L2
open PySem PySem.Spec PyProof.Rows
section
variable{prog:Program}{w:World}{A:Around}{E:Value→Shared→Prop}{s:Shared}
theorem draw_list{it t:Addr}{items:Array Value}(hne:t≠it):∀(n i:Nat) (s:Shared) (Q:List Value→Shared→Prop),s.heap.IsListIter it t i→s.heap.IsList t items→i+n≤items.size→
    (∀h',h'.IsListIter it t (i+n)→Heap.SameBut it s.heap h'→Q ((items.toList.drop i).take n) { s with heap:=h' })→wpAny (model prog w) A (draw (.ref it) n) Q E s
  | 0,i,s,Q,hit,_,_,hQ=>by
    show wpAny _ _ (pure []) Q E s
    exact wpAny_pure (by simpa using hQ s.heap hit (Heap.SameBut.refl ..))
  | n+1,i,s,Q,hit,ht,hle,hQ=>by
    have hlt:i < items.size:=by omega
    show wpAny _ _ (pyNext (.ref it) >>= _) Q E s
    refine wpAny_bind (wpAny_pyNext_list_item hit ht (x:=items[i]) (by simp[hlt]) fun h₁ hit₁ hs₁=>?_)
    refine wpAny_bind (wpAny_holding (draw_list hne n (i+1) _ _ hit₁ (ht.extBut hs₁.extBut hne) (by omega) fun h₂ hit₂ hs₂=>wpAny_pure ?_))
    have hd:items.toList.drop i=items[i]::items.toList.drop (i+1):=by simp[List.drop_eq_getElem_cons,hlt]
    have:=hQ h₂ (by rw[show i+(n+1)=i+1+n by omega];exact hit₂) (hs₁.trans hs₂)
    rw[hd,List.take_succ_cons]at this
    exact this
theorem unpackItems_list{t:Addr}{items:Array Value}{Q:List Value→Shared→Prop}(hh:A.handled=none)(ht:s.heap.IsList t items)
    (hQ:∀h',Heap.ExtBut s.heap.objs.size s.heap h'→Q items.toList { s with heap:=h' }):wpAny (model prog w) A (unpackItems (.ref t) items.size none) Q E s:=by
  have hlt:t≠s.heap.objs.size:=by obtain⟨o,ho,_⟩:=ht;exact Nat.ne_of_lt (Heap.lt_size ho)
  unfold unpackItems
  refine wpAny_bind ?_
  · unfold notIterableAtAll
    refine wpAny_bind (wpAny_specialOf ht.typeIs F.slot_list_iter.lookup ?_)
    refine wpAny_pure ?_
    simp only[Bool.false_eq_true,if_false]
    refine wpAny_bind (wpAny_holding (wpAny_pyIter_list ht ?_))
    refine wpAny_bind (wpAny_holding (draw_list hlt items.size 0 _ _ ⟨_,Heap.get?_push_size _ rfl,rfl,rfl⟩ (Heap.IsList.push ht _) (by omega) fun h₁ hit₁ hs₁=>?_))
    have hall:List.take items.size (List.drop 0 items.toList)=items.toList:=by
      rw[List.drop_zero];exact List.take_of_length_le (by simp)
    rw[hall]
    rw[if_neg (by simp)]
    have ht₁:h₁.IsList t items:=(Heap.IsList.push ht _).extBut hs₁.extBut hlt
    refine wpAny_bind (wpAny_holding (wpAny_pyNext_list_end hh hit₁ ht₁ (by simp) fun h₂ he₂=>?_))
    simp only[Option.isSome_none,Bool.false_eq_true,if_false]
    refine wpAny_pure (hQ h₂ fun b o hb e=>he₂ b o hb (hs₁.extBut b o hb (Heap.get?_push_of_some _ e)))
end
def gLst(K:PySem.W.Frag)(n:Nat)(t:TGs):TG:=fun v σ H Q=>∃a xs,v=.ref a∧SqL K H a xs∧xs.length=n∧t xs σ H Q
theorem pg_lst{X:Cx}{pos:Pos}{es:List Expr}{k:Nat}{t:TGs}{n:Nat}(hc:X.calm=true)(h:PGs X es t)
    (hn:(assignEach es X.env).length=n:=by rfl) (hst:(assignEach es X.env).findIdx? (·.1)=none:=by rfl):PG X (.Tuple es k pos) (gLst X.K n t):=by
  intro pins s σ H v u Q I r hw
  obtain⟨a,xs,e1,hq,hl,hw⟩:=hw
  subst e1
  cases r
  obtain⟨its,rv,pl,hz⟩:=I.list hq
  rw[assign_Tuple]
  refine wpAny_bind (wpAny_standAt ?_)
  unfold unpack
  rw[show(assignEach es X.env).length=its.toArray.size by simp[hn,← hl,rv.length],hst]
  refine wpAny_bind (wpAny_holding (unpackItems_list (I.ok.hd hc) pl.isList fun h' hx=>?_))
  have I1:Inv X pins σ H { s with heap:=h' }:=I.kept (t':=s.toks) fun b o e=>hx b o (Nat.ne_of_lt (Heap.lt_size e)) e
  exact h pins _ σ H xs _ Q I1 (by simpa using rv) hw
theorem for_it{J:It}{n:Nat}{g:TG}{tb:TS}{D:Ends}{σ:St}{H:Hp}(Pv:Nat→St→Hp→Prop)(h0:Pv 0 σ H)
    (hs:∀i σ H,i < n→Pv i σ H→J.go i H∧∀x H',J.yld i H x H'→g x σ H' fun σ2 H2=>tb { D with nx:=Pv (i+1),ct:=Pv (i+1),bk:=D.nx } σ2 H2) (hd:∀σ H,Pv n σ H→J.stop n H∧D.nx σ H) :
    ∃W:Nat→Nat→St→Hp→Prop,(∃m,W 0 m σ H)∧∀i m σ H,W i m σ H→
      (J.stop i H∧D.nx σ H)∨(J.go i H∧∃N:St→Hp→Prop,(∀σ' H',N σ' H'→∃m',m' < m∧W (i+1) m' σ' H')∧∀x H',J.yld i H x H'→g x σ H' fun σ2 H2=>tb { D with nx:=N,ct:=N,bk:=D.nx } σ2 H2):=by
  refine⟨fun i m σ H=>m=n - i∧i≤n∧Pv i σ H,⟨n,by simp,Nat.zero_le _,h0⟩,?_⟩
  rintro i m σ H ⟨rfl,hi,p⟩
  by_cases hlt:i < n
  · obtain⟨a,b⟩:=hs i σ H hlt p
    exact .inr ⟨a,Pv (i+1),fun σ' H' p'=>⟨n - (i+1),by omega,rfl,hlt,p'⟩,b⟩
  · have e:i=n:=by omega
    subst e
    exact .inl (hd σ H p)
theorem tuple_addW0(l b:Addr)(items items2:Array Value)(n n2:Nat)(dd dd2:Option Addr)(sl sl2:Array (Option Value))(hc0:items.isEmpty=true) :
    Meets (Builtin.«tuple.__add__» ⟨[.ref l,.ref b],[]⟩) (fun _ R s=>s.heap.get? l=some { cls:=.type "tuple",dict:=dd,data:=.seq items n,slots:=sl }∧s.heap.get? b=some { cls:=.type "tuple",dict:=dd2,data:=.seq items2 n2,slots:=sl2 }∧R (.ok (.ret (Value.ref b))) { s with heap:=s.heap,toks:=s.toks }):=
  .of_wp fun prog w A R s h=>by obtain⟨hp,g,d,tk,os⟩:=s;obtain⟨hl,hb,h⟩:=h;have f1:=AutoSeq1.idx_int;have f2:=AutoSeq1.sub_tuple_tuple;wp_walk using AutoSeq1.wpAny_loadPart' hl,AutoSeq1.wpAny_loadPart' hb;exact⟨_,rfl,h⟩
def rCatA:R2:=fun x y H Q=>∃a b xs ys,x=.ref a∧y=.ref b∧H a=some (.tup xs)∧H b=some (.tup ys)∧xs.length+ys.length≤sizeLine∧
  ∀p H',Same H H'→H' p=some (.tup (xs++ys))→Q (.ref p) H'
theorem op_catA{X:Cx}:OpR X (binaryOp .Add) rCatA:=by
  intro pins s σ H x y v u Q I rx ry h
  obtain⟨a,b,xs,ys,rfl,rfl,ha,hb,hz,q⟩:=h
  cases rx
  cases ry
  by_cases hx:xs=[]
  · obtain⟨its,r1,p1,_⟩:=I.tuple (SqT.of ha)
    obtain⟨its2,r2,p2,_⟩:=I.tuple (SqT.of hb)
    have e0:its=[]:=r1.nil_iff.mpr hx
    obtain⟨⟨cls,dd,data,sl⟩,ho,hc,n,hd⟩:=id p1
    obtain⟨⟨cls2,dd2,data2,sl2⟩,ho2,hc2,n2,hd2⟩:=id p2
    simp only at hc hd hc2 hd2
    subst hc hd hc2 hd2
    exact concat_meets ⟨_,ho,rfl⟩ ⟨_,ho2,rfl⟩ noFill_tuple_add seq_tuple_add PySem.F.slot_tuple_add PySem.F.entry_tuple_add (PySem.F.args_tuple_add_2 _ _)
      (tuple_addW0 a b its.toArray its2.toArray n n2 dd dd2 sl sl2 (by rw[e0];rfl)) ⟨ho,ho2,⟨.ref b,H,I,rfl,q b H (Same.refl _) (by rw[hx];exact hb)⟩⟩
  · exact op_catT pins s σ H (.ref a) (.ref b) (.ref a) (.ref b) Q I rfl rfl ⟨a,b,xs,ys,rfl,rfl,SqT.of ha,SqT.of hb,hx,hz,fun z=>q a H (Same.refl _) (by rw[z,List.append_nil];exact ha),fun _ p np=>q p _ (same_upd np) upd_same⟩
end L2
namespace L2
open PySem PySem.Spec PyProof.Rows
def SameT(H H':Hp):Prop:=∀p vs,H p=some (.tup vs)→H' p=some (.tup vs)
theorem SameT.refl(H:Hp):SameT H H:=fun _ _ h=>h
theorem SameT.trans{H H1 H2:Hp}(x:SameT H H1)(y:SameT H1 H2):SameT H H2:=fun p vs h=>y p vs (x p vs h)
theorem Same.t{H H':Hp}(x:Same H H'):SameT H H':=fun p vs h=>x p _ h
def Ents(Pd:Nat→V→Hp→Prop)(ys:List V)(n:Nat)(H:Hp):Prop:=ys.length=n∧∀j,j < n→∃u,ys[j]? = some u∧Pd j u H
section
variable{Pd Pe:Nat→V→Hp→Prop}{ys:List V}{n:Nat}{H H':Hp}{v:V}
theorem Ents.nil:Ents Pd [] 0 H:=⟨rfl,fun j h=>absurd h (Nat.not_lt_zero j)⟩
theorem Ents.mono(h:Ents Pd ys n H)(s:∀j u,j < n→Pd j u H→Pe j u H'):Ents Pe ys n H':=⟨h.1,fun j hj=>by
  obtain⟨u,e,p⟩:=h.2 j hj
  exact⟨u,e,s j u hj p⟩⟩
theorem Ents.snoc(h:Ents Pd ys n H)(p:Pd n v H):Ents Pd (ys++[v]) (n+1) H:=⟨by rw[List.length_append,h.1];rfl,fun j hj=>by
  by_cases hn:j < n
  · obtain⟨u,e,q⟩:=h.2 j hn
    exact⟨u,by rw[List.getElem?_append_left (by rw[h.1];exact hn)];exact e,q⟩
  · have e:j=n:=by omega
    subst e
    exact⟨v,by rw[List.getElem?_append_right (by rw[h.1];exact Nat.le_refl _),h.1,Nat.sub_self];rfl,p⟩⟩
theorem Ents.at(h:Ents Pd ys n H){j:Nat}{u:V}(e:ys[j]? = some u):j < n∧Pd j u H:=by
  have hj:j < n:=by rw[← h.1];exact(List.getElem?_eq_some_iff.mp e).1
  obtain⟨u',e',p⟩:=h.2 j hj
  rw[e]at e'
  cases e'
  exact⟨hj,p⟩
end
def TupOf(Pd:Nat→V→Hp→Prop)(n:Nat)(v:V)(H:Hp):Prop:=∃p vs,v=.ref p∧H p=some (.tup vs)∧Ents Pd vs n H
def SeqOf(K:PySem.W.Frag)(Pd:Nat→V→Hp→Prop)(n:Nat)(v:V)(H:Hp):Prop:=∃S vs,Sr.ofV S v∧S.vals K H vs∧(∀H',Same H H'→S.vals K H' vs∧LenV K v H' vs.length)∧Ents Pd vs n H
theorem TupOf.seq{K:PySem.W.Frag}{Pd:Nat→V→Hp→Prop}{n:Nat}{v:V}{H:Hp}(h:TupOf Pd n v H):SeqOf K Pd n v H:=by
  obtain⟨p,vs,rfl,hp,e⟩:=h
  exact⟨.tup p,vs,rfl,SqT.of hp,fun H' q=>⟨SqT.of (q _ _ hp),.inr ⟨_,SqT.of (q _ _ hp),rfl⟩⟩,e⟩
theorem TupOf.mono{Pd Pe:Nat→V→Hp→Prop}{n:Nat}{v:V}{H H':Hp}(h:TupOf Pd n v H)(s:SameT H H')(m:∀j u,j < n→Pd j u H→Pe j u H'):TupOf Pe n v H':=by
  obtain⟨p,vs,rfl,hp,e⟩:=h
  exact⟨p,vs,rfl,s _ _ hp,e.mono m⟩
theorem SeqOf.mono{K:PySem.W.Frag}{Pd Pe:Nat→V→Hp→Prop}{n:Nat}{v:V}{H H':Hp}(h:SeqOf K Pd n v H)(s:Same H H')(m:∀j u,j < n→Pd j u H→Pe j u H'):SeqOf K Pe n v H':=by
  obtain⟨S,vs,e,hv,hs,he⟩:=h
  exact⟨S,vs,e,(hs _ s).1,fun H2 q=>hs _ (s.trans q),he.mono m⟩
theorem SeqOf.list{K:PySem.W.Frag}{Pd:Nat→V→Hp→Prop}{n:Nat}{p:Addr}{vs:List V}{H:Hp}(hp:H p=some (.lst vs))(e:Ents Pd vs n H):SeqOf K Pd n (.ref p) H:=
  ⟨.lst p,vs,rfl,SqL.of hp,fun H' q=>⟨SqL.of (q _ _ hp),.inl ⟨_,SqL.of (q _ _ hp),rfl⟩⟩,e⟩
theorem TupOf.len{K:PySem.W.Frag}{Pd:Nat→V→Hp→Prop}{n:Nat}{v:V}{H:Hp}(h:TupOf Pd n v H):LenV K v H n:=by
  obtain⟨p,vs,rfl,hp,e⟩:=h
  have e1:=e.1
  subst e1
  exact .inr ⟨_,SqT.of hp,rfl⟩
theorem SeqOf.len{K:PySem.W.Frag}{Pd:Nat→V→Hp→Prop}{n:Nat}{v:V}{H:Hp}(h:SeqOf K Pd n v H):LenV K v H n:=by
  obtain⟨S,vs,_,_,hs,e⟩:=h
  have q:=(hs _ (Same.refl _)).2
  rw[e.1]at q
  exact q
theorem comp_go{J:It}{n k:Nat}{g:TG}{te:TE}{σ:St}{Q:VK}{H1:Hp}(Pv:Nat→List V→Hp→Prop)(hn:n≤1000)(h0:Pv 0 [] H1)(hl:∀i ys H,Pv i ys H→ys.length=i)
    (hgo:∀i ys H,i < n→Pv i ys H→J.go i H∧∀x H',J.yld i H x H'→g x (σ++List.replicate k none) H' fun σ2 H2=>(∃zs,σ2=σ++zs∧zs.length=k)∧te σ2 H2 fun v H3=>Pv (i+1) (ys++[v]) H3)
    (hstop:∀ys H,Pv n ys H→J.stop n H) (hend:∀ys H p,Pv n ys H→H p=none→Q (.ref p) (upd H p (.lst ys))) :
    CTail J k g te σ Q H1:=by
  have z:1000 < sizeLine:=by decide
  refine⟨fun i m ys H=>m=n - i∧i≤n∧Pv i ys H,⟨n,rfl,Nat.zero_le _,h0⟩,?_⟩
  rintro i m ys H ⟨rfl,hi,p⟩
  have yl:=hl i ys H p
  by_cases hlt:i < n
  · obtain⟨a,b⟩:=hgo i ys H hlt p
    refine .inr ⟨a,by omega,fun x H' y=>?_⟩
    have c:=b x H' y
    have e:(fun σ2 H2=>(∃zs,σ2=σ++zs∧zs.length=k)∧te σ2 H2 fun v H3=>∃m',m' < n - i∧m'=n - (i+1)∧i+1≤n∧Pv (i+1) (ys++[v]) H3)=fun σ2 H2=>(∃zs,σ2=σ++zs∧zs.length=k)∧te σ2 H2 fun v H3=>Pv (i+1) (ys++[v]) H3:=by
      funext σ2 H2
      congr 2
      funext v H3
      exact propext ⟨fun⟨_,_,_,_,q⟩=>q,fun q=>⟨_,by omega,rfl,hlt,q⟩⟩
    rw[e]
    exact c
  · have e:i=n:=by omega
    subst e
    exact .inl ⟨hstop ys H p,by omega,fun q nq=>hend ys H q p nq⟩
end L2
namespace Mine
section
variable{S:SR}
end
end Mine
namespace L2
open PySem PySem.Spec PyProof.Rows
end L2
namespace L2
open PySem PySem.Spec PyProof.Rows PySem.Builtin PySem.Builtin.Str
section
variable{X:Cx}
end
end L2
namespace L2
open PySem PySem.Spec PyProof.Rows
section
variable{X:Cx}
def ipL:TIp:=fun x y H Q=>∃l b xs zs,x=.ref l∧y=.ref b∧H l=some (.lst xs)∧H b=some (.lst zs)∧xs.length+zs.length≤sizeLine∧Q (.ref l) (upd H l (.lst (xs++zs)))
theorem seq_list_iadd:seqSlot? (.type "list") (dunderI "add")=pure (some (.builtin "list.__iadd__")):=PySem.seqSlot_of F.slot_list_iadd.lookup (by decide +kernel)
theorem noFill_list_iadd:fillsInplaceSlot (.type "list") "add" (Operator.Add == .Add)=pure false:=by
  unfold fillsInplaceSlot
  show(typeLookup (.type "list") (dunderI "add") >>= fun fi=>pure (fi.isSome && !isSeqSlot fi))=pure false
  rw[F.slot_list_iadd.lookup]
  rfl
theorem ip_lst:PIp X .Add ipL:=by
  intro pins s σ H x y v u Q I rx ry h
  obtain⟨l,b,xs,zs,rfl,rfl,hH,hB,hz,q⟩:=h
  cases (show v=Value.ref l from rx)
  cases (show u=Value.ref b from ry)
  obtain⟨z,its,n,r,hl,e⟩:=I.lstM hH
  obtain⟨z2,its2,n2,r2,hl2,e2⟩:=I.lstM hB
  have hsz:its.toArray.size+its2.toArray.size≤sizeLine:=by rw[List.size_toArray,List.size_toArray];omega
  have hlong:¬(!its.toArray.isEmpty && Builtin.List.listTooLong (its.toArray.size+its2.toArray.size))=true:=by
    rw[notLongL hsz,Bool.and_false]
    exact Bool.false_ne_true
  unfold inplaceOp
  refine wpAny_holding ?_
  refine wpAny_bind (wpAny_typeOf (T:="list") ⟨_,e,rfl⟩ (wpAny_bind (wpAny_of_eq noFill_list_iadd ?_)))
  show wpAny _ _ (if false=true then _ else _) _ _ _
  rw[if_neg Bool.false_ne_true]
  refine wpAny_bind (wpAny_binaryOp1_none (nm:="add") (T:="list") ⟨_,e,rfl⟩ ⟨_,e2,rfl⟩ PySem.noFill_list_add ?_)
  refine wpAny_bind (wpAny_of_eq seq_list_iadd ?_)
  refine wpAny_bind (wpAny_rule ?_)
  refine call_meets F.slot_list_iadd ⟨_,e,rfl⟩ F.entry_list_iadd (F.args_list_iadd_2 _ _)
    (AutoSeq1.list___iadd___list_list_0 l its.toArray n b its2.toArray n2 hlong (by rw[List.size_toArray];omega) (by omega)) ⟨e,e2,?_⟩
  refine⟨.ref l,_,I.lset (its':=its++its2) hH e (by simp) (r.append r2) ?_,rfl,q⟩
  rw[List.length_append]
  omega
end
end L2
namespace L2
open PySem PySem.Spec PyProof.Rows
section
variable{X:Cx}{n:Nat}{st:Stmt}{rest:List Stmt}{t u:TS}
theorem keepT{α:Type}{t:Sem α}{Q:α→Shared→Prop}{M:Model}{A:Around}{E:Value→Shared→Prop}{s:Shared}(hn:n≤s.toks)(h:wpAny M A t Q E s) :
    wpAny M A t (fun a s'=>n≤s'.toks∧Q a s') E s:=wpAny_mono (wpAny_toks_of hn h) (fun _ _ x=>x) fun _ _ x=>x.2
def PSn(X:Cx)(n:Nat)(st:Stmt)(t:TS):Prop:=
  ∀pins s σ H D,n≤s.toks→Inv X pins σ H s→t D σ H→wpAny (model X.prog X.w) X.A (exec st X.env) (SP X pins D) X.xe s
def PSsn(X:Cx)(n:Nat)(ss:List Stmt)(t:TS):Prop:=
  ∀pins s σ H D,n≤s.toks→Inv X pins σ H s→t D σ H→wpAny (model X.prog X.w) X.A (execs ss X.env) (SP X pins D) X.xe s
theorem PS.fl(h:PS X st t):PSn X n st t:=fun pins s σ H D _=>h pins s σ H D
theorem PSs.fl(h:PSs X rest t):PSsn X n rest t:=fun pins s σ H D _=>h pins s σ H D
theorem pssn_cons(h1:PSn X n st t)(h2:PSsn X n rest u):PSsn X n (st::rest) (tSeq t u):=by
  intro pins s σ H D hn I h
  refine wpAny_execs_cons (thn (keepT hn (h1 pins s σ H { D with nx:=u D } hn I h)) fun f s1 q=>?_)
  obtain⟨hn1,q⟩:=q
  cases f with
  | next=>
    obtain⟨σ',H',I',q⟩:=q
    exact h2 pins s1 σ' H' D hn1 I' q
  | brk=>exact q
  | cont=>exact q
  | ret v=>exact q
theorem ps_forn{tg iter:Expr}{body:List Stmt}{wi:TI}{g:TG}{tb:TS}{pos:Pos}(hp:PassesOwn (model X.prog X.w) X.A X.env X.xe)(hc:X.calm=true)(hi:PI X tg iter wi)(hg:PG X tg g)(hb:PSsn X n body tb)
    (hs:∀x,foldedSetIterable iter X.env x=pure x:=by intro _;rfl):PSn X n (.For tg iter body [] pos) (tFor wi g tb):=by
  intro pins s σ H D hn I h
  refine wpAny_For (thn (keepT hn (hi pins s σ H _ I h)) fun v s1 hh1=>thn (keepT hh1.1 hh1.2) fun itv s2 hh2=>?_) hs
  obtain⟨n2,it,fp,tn,J,H2,e,I2,T,st2,f2,W,⟨m0,w0⟩,turn⟩:=hh2
  subst e
  have stat:∀{G:Hp},(∀b∈fp,G b=none)→∀b∈fp,FpOk X pins G b:=fun k b hb=>⟨k b hb,(f2 b hb).2⟩
  refine codeAny_forLoop_any (fun k s'=>n≤s'.toks∧∃i τ G,Inv X pins τ G s'∧tn i s'.heap∧(∀b∈fp,G b=none)∧W i k τ G) ?_ m0 ⟨n2,0,σ,H2,I2,st2,fun b hb=>(f2 b hb).1,w0⟩
  rintro k s3 ⟨n3,i,τ,G,I3,st3,fr3,w3⟩
  rcases turn i k τ G w3 with ⟨stop,qn⟩ | ⟨go,N,hN,step⟩
  · refine wpAny_passesOwn hp (thn (T.done X rfl rfl rfl hc i pins s3 τ G X.xe I3 (stat fr3) st3 stop) fun r s4 ⟨hr,I4⟩=>?_)
    subst hr
    exact wpAny_execs_nil ⟨τ,G,I4,qn⟩
  · refine wpAny_passesOwn hp (thn (keepT n3 (T.item X rfl rfl rfl hc i pins s3 τ G X.xe I3 (stat fr3) st3 go)) fun r s4 ⟨n4,u,hr,h4⟩=>?_)
    subst hr
    refine wpAny_passesOwn hp (thn (keepT n4 h4) fun _ s5 ⟨n5,x,H5,I5,r5,y5,st5,fr5⟩=>?_)
    have J5:=I5.pinned (stat fr5) (T.obj _ _ st5)
    refine wpAny_passesOwn hp (thn (keepT n5 (hg _ s5 τ H5 x u _ J5 r5 (step x H5 y5))) fun _ s6 ⟨n6,σ6,H6,I6,q6⟩=>?_)
    refine wpAny_passesOwn hp (thn (keepT n6 (hb _ s6 σ6 H6 _ n6 I6 q6)) fun f s7 hh7=>?_)
    obtain⟨n7,q7⟩:=hh7
    have more:∀{σ7:St} {H7:Hp},Inv X (pins++pinsAt fp s5.heap) σ7 H7 s7→N σ7 H7→∃m,m < k∧n≤s7.toks∧∃i τ G,Inv X pins τ G s7∧tn i s7.heap∧(∀b∈fp,G b=none)∧W i m τ G:=fun{σ7 H7} I7 c7=>by
      obtain⟨m',hm,w7⟩:=hN σ7 H7 c7
      have pn:∀b∈fp,∀o,s5.heap.get? b=some o→s7.heap.get? b=some o∧H7 b=none:=fun b hb o e=>by
        have:=I7.pin (b,o) (List.mem_append_right _ (List.mem_append_right _ (mem_pinsAt hb e)))
        exact⟨this.1,this.2.1⟩
      refine⟨m',hm,n7,i+1,σ7,H7,I7.unpinned,T.keep _ _ _ st5 fun b hb o e=>(pn b hb o e).1,fun b hb=>?_,w7⟩
      obtain⟨o,e,_⟩:=T.obj _ _ st5 b hb
      exact(pn b hb o e).2
    cases f with
    | next=>obtain⟨σ7,H7,I7,c7⟩:=q7;exact more I7 c7
    | cont=>obtain⟨σ7,H7,I7,c7⟩:=q7;exact more I7 c7
    | brk=>obtain⟨σ7,H7,I7,c7⟩:=q7;exact⟨σ7,H7,I7.unpinned,c7⟩
    | ret v=>obtain⟨x7,σ7,H7,I7,r7,c7⟩:=q7;exact⟨x7,σ7,H7,I7.unpinned,r7,c7⟩
theorem Inv.stored{pins:List (Addr × Obj)}{σ:St}{H:Hp}{s:Shared}{i:Nat}{x:Str}{v:V}{w:Value}{m:Str→Option Value}{h':Heap}(I:Inv X pins σ H s)(hN:X.N.Nodup)(hi:X.N[i]? = some x)
    (hk:X.env.kindOf x=some .local) (r:RelV v w) (hm:∀(j:Nat) (y:Str) (z:V),X.N[j]? = some y→σ[j]? = some (some z)→Vis X.env.scope y→∃w',RelV z w'∧Look X.env s.heap m y w')
    (hn:h'.Ns X.env.locals (fun y=>if y=x then some w else m y)) (hs:Heap.SameBut X.env.locals s.heap h') (k:Nat):Inv X pins (σ.set i (some v)) H { s with heap:=h',toks:=k }:=by
  have old:∀b o,X.s₀.heap.get? b=some o→h'.get? b=s.heap.get? b:=fun b o e=>hs.2 b (Nat.ne_of_lt (Nat.lt_of_lt_of_le (Heap.lt_size e) I.ok.above))
  have hσ:i < σ.length:=by rw[I.len];exact(List.getElem?_eq_some_iff.mp hi).1
  have B:=I.base
  refine{ ok:=I.ok,os:=I.os,bare:=I.bare,base:=⟨?_,?_,B.free,?_,B.tups,B.frzs,B.tbls⟩,loc:=⟨_,hn,?_⟩,cell:=?_,free:=I.free,freeC:=I.freeC,pin:=?_,hok:=?_,len:=by simpa using I.len }
  · intro b o e a1 a2 a3
    rw[← B.keep b o e a1 a2 a3];exact old b o e
  · intro b o e a1 a2 a3
    obtain⟨sl,q⟩:=B.slot b o e a1 a2 a3
    exact⟨sl,(old b o e).trans q⟩
  · intro b o e a1
    obtain⟨o',q⟩:=B.there b o e a1
    exact⟨o',(old b o e).trans q⟩
  · intro j y z e1 e2 e3
    by_cases hj:i=j
    · subst hj
      rw[hi]at e1
      cases e1
      rw[List.getElem?_set_self hσ]at e2
      cases e2
      exact⟨w,r,.inl ⟨hk,if_pos rfl⟩⟩
    · rw[List.getElem?_set_ne hj]at e2
      have ny:y≠x:=fun q=>hj (nodup_ix hN hi (q▸e1))
      obtain⟨w',r',q⟩:=hm j y z e1 e2 e3
      rcases q with ⟨a1,a2⟩ | ⟨a1,c,a2,a3⟩
      · exact⟨w',r',.inl ⟨a1,(if_neg ny).trans a2⟩⟩
      · exact⟨w',r',.inr ⟨a1,c,a2,a3.sameBut hs (I.cne y c a2)⟩⟩
  · intro y c e
    obtain⟨z,q⟩:=I.cell y c e
    exact⟨z,q.sameBut hs (I.cne y c e)⟩
  · intro p hp
    obtain⟨a1,a2,a3,a4⟩:=I.pin p hp
    exact⟨(hs.2 p.1 a3).trans a1,a2,a3,a4⟩
  · intro b ob e
    obtain⟨m0,⟨oL,_,_,hoL,_⟩,_⟩:=I.loc
    refine(I.hok b ob e).stay (fun c w' hc q=>(hs.2 c ?_).trans q) (fun _ q=>q) fun _ _ q=>q
    intro z
    subst z
    rcases hc with z | z
    · subst z;rw[I.free]at e;cases e
    · rw[I.free]at z;cases z
theorem Inv.nocls{pins:List (Addr × Obj)}{σ:St}{H:Hp}{s:Shared}(I:Inv X pins σ H s):(X.env.scope.kind == .class || (X.env.scope.kind == .module && X.env.locals != X.env.globals))=false:=by rw[I.ok.kind];rfl
theorem Inv.here{σ:St}{s:Shared}{i:Nat}{x:Str}{v:V}{m:Str→Option Value}(hm:∀(j:Nat) (y:Str) (z:V),X.N[j]? = some y→σ[j]? = some (some z)→Vis X.env.scope y→∃w',RelV z w'∧Look X.env s.heap m y w')
    (hi:X.N[i]? = some x) (e:σ[i]? = some (some v)) (hk:X.env.kindOf x=some .local):∃w,RelV v w∧m x=some w:=by
  obtain⟨w,r,q⟩:=hm i x v hi e (.inl hk)
  rcases q with ⟨_,q⟩ | ⟨q,_⟩
  · exact⟨w,r,q⟩
  · rw[hk]at q
    rcases q with q | q <;>cases q
theorem pss_fl{i:Nat}{x:Str}{e:Expr}{te:TE}{pos pos':Pos}(hN:X.N.Nodup)(hi:X.N[i]? = some x)(hk:X.env.kindOf x=some .local)(he:PE X e te)(h2:PSsn X 1 rest u)
    (hs:swapsWith e (some (.Name x pos')) pos.line X.env=pure false:=by rfl):PSs X (.Assign [.Name x pos'] e pos::rest) (tSeq (tAsg te (gName i)) u):=by
  intro pins s σ H D I h
  refine wpAny_execs_cons (wpAny_Assign_Name (thn (he pins s σ H _ I h) fun v s1 ⟨y,H1,I1,r1,q1⟩=>?_) hs)
  obtain⟨m,hn,hm⟩:=I1.loc
  exact wpAny_storeName_local hk hn (fun h' hn' hs'=>h2 pins _ _ H1 D (Nat.le_add_left 1 _) (I1.stored hN hi hk r1 hm hn' hs' _) q1) I1.nocls
def tLetter(il ia iw:Nat)(ti:TE):TS:=fun D σ H=>∃z y:Str,σ[ia]? = some (some (.str z))∧σ[iw]? = some (some (.str y))∧z.length≤1000∧y.length≤1000∧ti σ H fun x H1=>∃(i:Int) (c:Nat),x=.int i∧atI z.cps.toList i=some c∧
  D.nx (((σ.set il (some (.str ⟨#[c]⟩))).set iw (some (.str (y++⟨#[c]⟩)))).set ia (some (.str (Txt.replace z ⟨#[c]⟩ "")))) H1
theorem pssn_letter{il ia iw:Nat}{l a w:Str}{idx:Expr}{ti:TE}{j:Nat}{p1 p2 p3 p4 p5 p6 p7 p8 p9 p10 p11 p12 p13 p14 p15 p16:Pos}(hN:X.N.Nodup)(hl:X.N[il]? = some l)(ha:X.N[ia]? = some a)(hw:X.N[iw]? = some w)
    (kl:X.env.kindOf l=some .local) (ka:X.env.kindOf a=some .local) (kw:X.env.kindOf w=some .local) (nla:l≠a) (nlw:l≠w) (naw:a≠w) (hi:PE X idx ti) (hpl:PlainIx idx)
    (dl:(l == ("__debug__":Str))=false:=by decide) (da:(a == ("__debug__":Str))=false:=by decide) (dw:(w == ("__debug__":Str))=false:=by decide)
    (dca:(a == ("__classdict__":Str))=false:=by decide)
    (hs1:swapsWith (.Subscript (.Name a p2) idx p3) (some (.Name l p1)) p4.line X.env=pure false:=by rfl)
    (hs2:swapsWith (.BinOp (.Name w p6) .Add (.Name l p7) p8) (some (.Name w p5)) p9.line X.env=pure false:=by rfl)
    (hs3:swapsWith (.Call (.Attribute (.Name a p11) "replace" p12) [.Name l p13,.Constant (.str "") j p14] [] p15) (some (.Name a p10)) p16.line X.env=pure false:=by rfl)
    (hbase:attributeBase (.Name a p11) "replace" X.env (eval (.Name a p11) X.env)=eval (.Name a p11) X.env:=by rfl)
    (hfew:((backTo p15 (starEach [.Name l p13,.Constant (.str "") j p14] X.env)).all (fun x=>!x.1) && (backToKw p15 (keywordEach [] X.env)).all (fun x=>x.1.isSome)
      && decide (([.Name l p13,.Constant (.str "") j p14]:List Expr).length+([]:List Keyword).length+(if([]:List Keyword).isEmpty then 0 else 1) < 30))=true:=by rfl)
    (hline:(p12.endLine == p15.line)=true:=by rfl)
    (hst:backTo p15 (starEach [.Name l p13,.Constant (.str "") j p14] X.env)=[(false,eval (.Name l p13) X.env),(false,eval (.Constant (.str "") j p14) X.env)]:=by rfl) :
    PSsn X 1 [.Assign [.Name l p1] (.Subscript (.Name a p2) idx p3) p4,.Assign [.Name w p5] (.BinOp (.Name w p6) .Add (.Name l p7) p8) p9,
      .Assign [.Name a p10] (.Call (.Attribute (.Name a p11) "replace" p12) [.Name l p13,.Constant (.str "") j p14] [] p15) p16] (tLetter il ia iw ti):=by
  intro pins s σ H D hn I h
  obtain⟨z,y,ez,ey,lz,ly,h⟩:=h
  refine wpAny_execs_cons (wpAny_Assign_Name (Subscript_ ?_) hs1)
  refine thn (keepT hn ((pe_var ha (.inl ka) da dca) pins s σ H (fun x H1=>x=.str z∧ti σ H1 _) I ⟨.str z,ez,rfl,h⟩)) fun v s1 ⟨n1,x1,H1,I1,r1,e1,q1⟩=>?_
  subst e1
  obtain⟨t1,rfl⟩:=r1
  refine thn (keepT n1 (hi pins s1 σ H1 _ I1 q1)) fun v2 s2 ⟨n2,x2,H2,I2,r2,i,c,e2,hc,q2⟩=>?_
  subst e2
  obtain⟨t2,rfl⟩:=r2
  obtain⟨k0,k1,k2,k3,k4,k5⟩:=atI_get hc
  have hzl:z.cps.toList.length=z.length:=by simp[Str.length]
  rw[hzl]at k1 k4 k5
  have l63:=line63
  have h1s:(⟨#[c]⟩:Str).length=1:=rfl
  refine tail_any (typeIs_str s2 z t1) slot_str_getitem.lookup (getItem_str (c:=c) (by
    have e1:decide (i < -(2 ^ 63:Int))=false:=decide_eq_false (by omega)
    have e2:decide (i ≥ 2 ^ 63)=false:=decide_eq_false (by omega)
    rw[e1,e2,Bool.or_false]) (by rw[k1];simpa using k2) ?_) (hpl _ _)
  obtain⟨m,hm0,hm⟩:=I2.loc
  obtain⟨_,⟨ta,rfl⟩,mz⟩:=Inv.here hm ha ez ka
  obtain⟨_,⟨tw,rfl⟩,my⟩:=Inv.here hm hw ey kw
  refine wpAny_storeName_local kl (show Heap.Ns { s2 with toks:=s2.toks+1 }.heap _ m from hm0) (fun g1 ns1 sb1=>?_) I2.nocls
  have I3:=I2.stored hN hl kl (show RelV (.str ⟨#[c]⟩) (.str ⟨#[c]⟩ s2.toks)from⟨_,rfl⟩) hm ns1 sb1
  obtain⟨m3,hm3,hmm3⟩:=(I3 0).loc
  refine wpAny_execs_cons (wpAny_Assign_Name (wpAny_BinOp ?_) hs2)
  refine wpAny_Name (wpAny_loadName_local I.ok.kind kw ns1 ((if_neg (Ne.symm nlw)).trans my) ?_) dw
  refine wpAny_Name (wpAny_loadName_local I.ok.kind kl ns1 (if_pos rfl) ?_) dl
  refine thn (keepT (n:=s2.toks+1) (show s2.toks+1≤s2.toks+1+1 from Nat.le_succ _) (add_str (Q:=fun v s'=>∃t' tk,v=.str (y++⟨#[c]⟩) t'∧s'={ s2 with heap:=g1,toks:=tk }) (fun t' tk=>⟨t',tk,rfl,rfl⟩) (by rw[h1s,sizeLine_eq];omega))) ?_
  rintro _ _ ⟨n3,t3,tk,rfl,rfl⟩
  refine wpAny_storeName_local kw (show Heap.Ns { s2 with heap:=g1,toks:=tk }.heap _ _ from ns1) (fun g2 ns2 sb2=>?_) I2.nocls
  have I4:∀k,Inv X pins ((σ.set il (some (.str ⟨#[c]⟩))).set iw (some (.str (y++⟨#[c]⟩)))) H2 { s2 with heap:=g2,toks:=k }:=fun k=>by
    refine(I3 tk).stored hN hw kw (show RelV (.str (y++⟨#[c]⟩)) (.str (y++⟨#[c]⟩) t3)from⟨_,rfl⟩) (fun j y' z' e1 e2 e3=>?_) ns2 sb2 k
    by_cases hj:il=j
    · subst hj
      rw[hl]at e1
      cases e1
      rw[List.getElem?_set_self (by rw[I.len];exact(List.getElem?_eq_some_iff.mp hl).1)]at e2
      cases e2
      exact⟨_,⟨_,rfl⟩,.inl ⟨kl,if_pos rfl⟩⟩
    · rw[List.getElem?_set_ne hj]at e2
      have ny:y'≠l:=fun q=>hj (nodup_ix hN hl (q▸e1))
      obtain⟨w',r',q⟩:=hm j y' z' e1 e2 e3
      rcases q with ⟨a1,a2⟩ | ⟨a1,c',a2,a3⟩
      · exact⟨w',r',.inl ⟨a1,(if_neg ny).trans a2⟩⟩
      · exact⟨w',r',.inr ⟨a1,c',a2,a3.sameBut sb1 (I2.cne y' c' a2)⟩⟩
  have ml:(if l=w then some (Value.str (y++⟨#[c]⟩) t3)else if l=l then some (Value.str ⟨#[c]⟩ s2.toks)else m l)=some (Value.str ⟨#[c]⟩ s2.toks):=by rw[if_neg nlw,if_pos rfl]
  have ma:(if a=w then some (Value.str (y++⟨#[c]⟩) t3)else if a=l then some (Value.str ⟨#[c]⟩ s2.toks)else m a)=some (Value.str z ta):=by rw[if_neg naw,if_neg (Ne.symm nla)];exact mz
  refine wpAny_execs_cons (wpAny_Assign_Name (wpAny_Call_method_late hbase hfew hline rfl (wpAny_Name (wpAny_loadName_local I.ok.kind ka ns2 ma ?_) da)) hs3)
  refine⟨"str","str.replace",F.plainAttrs_str,F.slot_str_replace,F.type_str_replace,typeIs_str _ _ _,(fun b e=>by nomatch e),?_⟩
  rw[hst]
  refine Calls.callWith_builtin rfl (Calls.evalArgs_plain ?_)
  refine Calls.spliced_cons (wpAny_Name (wpAny_loadName_local I.ok.kind kl ns2 ml ?_) dl)
  refine Calls.spliced_cons (Calls.Constant_str (Calls.spliced_nil ?_))
  refine SC.replace (show s2.toks≠0 from Nat.ne_of_gt n2) (show tk+1≠0 by omega) (show s2.toks≠tk+1 by have:s2.toks+1≤tk:=n3;omega) (by rfl) (by show z.length+(z.length+1) * 0≤16777216;omega) fun t' k=>?_
  obtain⟨m4,hm4,hl4⟩:=(I4 k).loc
  refine wpAny_storeName_local ka hm4 (fun g3 ns3 sb3=>?_) I2.nocls
  exact wpAny_execs_nil ⟨_,H2,(I4 k).stored hN ha ka (show RelV (.str (Txt.replace z ⟨#[c]⟩ "")) (.str (Txt.replace z ⟨#[c]⟩ "") t')from⟨_,rfl⟩) hl4 ns3 sb3 _,q2⟩
end
end L2
namespace HT
open PySem PyProof.Rows
section
open PySem.SeqAt
open PySem.AutoSeq1 (wpAny_loadPart')
open PySem.MeetsSeq PySem.MeetsSeq2 PySem.MeetsSeq3
end
end HT
namespace L2
open PySem PySem.Spec PyProof.Rows PySem.SeqAt
section
variable{X:Cx}
theorem Room.units1{k:Nat}{A:Around}(r:Room k A):A.units+65 < cLine:=by have:=r.un;omega
theorem Vals.ints{ns:List Int}{us:List Value}(r:Vals (ns.map V.int) us):∀(j:Nat) a,ns[j]? = some a→∃t,us.toArray[j]? = some (.int a t):=fun j a e=>by
  obtain⟨u,h1,t,h2⟩:=r.get (i:=j) (x:=.int a) (by rw[List.getElem?_map,e];rfl)
  exact⟨t,by rw[← h2,← h1];simp⟩
theorem isAll_ints{K:PySem.W.Frag}{H:Hp}:∀ns:List Int,IsAll K H (ns.map V.int) (ns.map PyData.int)
  | []=>.nil
  | n::ns=>.cons (.int n) (isAll_ints ns)
theorem cl_ints:∀ns:List Int,PyData.canLayAll0 (ns.map PyData.int)=true
  | []=>by simp[PyData.canLayAll0]
  | n::ns=>by simp[PyData.canLayAll0,PyData.canLay0,cl_ints ns]
theorem dp_ints:∀ns:List Int,PyData.depthAll (ns.map PyData.int)≤0
  | []=>by simp[PyData.depthAll]
  | n::ns=>by have:=dp_ints ns;simp[PyData.depthAll,PyData.depth];omega
theorem depth_ints(ns:List Int):PyData.depth (.list (ns.map .int))≤1:=by have:=dp_ints ns;simp[PyData.depth];omega
theorem shaped_ints(ns:List Int):shaped (.list (ns.map .int))=true:=by
  have:=depth_ints ns
  simp[shaped,PyData.canLay0,cl_ints ns];omega
theorem any_same{d:PyData}:∀{ds:List PyData},(∀e∈ds,noMix e d=true)→ds.any (fun y=>PyData.eqv y d)=ds.any fun y=>PySem.Spec.same y d
  | [],_=>rfl
  | e::ds,h=>by
    rw[List.any_cons,List.any_cons,same_eq_eqv e d (h e (List.mem_cons_self ..)),any_same fun z hz=>h z (List.mem_cons_of_mem _ hz)]
def rInD(K:PySem.W.Frag)(neg:Bool):R2:=fun x y H Q=>∃d ds,Is K H x d∧Is K H y (.list ds)∧shaped d=true∧shaped (.list ds)=true∧(∀e∈ds,noMix e d=true)∧
  Q (.bl (if neg then !(ds.any fun y=>PySem.Spec.same y d)else ds.any fun y=>PySem.Spec.same y d)) H
theorem op_inD(hu:X.A.units+65 < cLine):OpR X (compareOp .In) (rInD X.K false):=by
  intro pins s σ H x y v u Q I rx ry h
  obtain⟨d,ds,hx,hy,sx,sy,nm,q⟩:=h
  obtain⟨as,ra⟩:=hx.reads I rx
  obtain⟨bs,rb⟩:=hy.reads I ry
  refine in_list_reads rb ra (canLay_of_shaped sy) (canLay_of_shaped sx) (room_in_shaped sx hu) ⟨.bl _,H,I,rfl,?_⟩
  rw[any_same nm];exact q
end
end L2
namespace L2
open PySem PySem.Spec PyProof.Rows PySem.SeqAt
section
variable{X:Cx}
end
end L2
namespace L2
open PySem PySem.Spec PyProof.Rows
theorem vals_pick{xs:List V}{its:List Value}(r:Vals xs its):∀ix:List Nat,Vals (ix.filterMap (xs[·]?)) (ix.filterMap (its[·]?))
  | []=>.nil
  | j::ix=>by
    have l:=r.length
    cases e:xs[j]? with
    | none=>
      have e2:its[j]? = none:=by
        rw[List.getElem?_eq_none_iff]at e ⊢
        omega
      rw[List.filterMap_cons_none e,List.filterMap_cons_none e2]
      exact vals_pick r ix
    | some x=>
      obtain⟨u,hu,ru⟩:=r.get e
      rw[List.filterMap_cons_some e,List.filterMap_cons_some hu]
      exact .cons ru (vals_pick r ix)
end L2
namespace HT
open PySem PySem.Spec PyProof.Rows L2
section
variable{prog:Program}{w:World}{A:Around}{E:Value→Shared→Prop}{s:Shared}
theorem getItem_tuple_all{t sl:Addr}{items:Array Value}{vl vu:Value}{lo hi:Option Int}{Q:Value→Shared→Prop}(ht:IsTup s.heap t items)(hs:s.heap.IsSliceOf sl vl vu .none)(pl:IsPart vl lo)(pu:IsPart vu hi)
    (hw:sIx items.size 0 lo=0∧sIx items.size items.size hi=items.size) (h:Q (.ref t) s):wpAny (model prog w) A (getItem (.ref t) (.ref sl)) Q E s:=by
  obtain⟨os,hos,hcs,hds⟩:=id hs
  have hTs:s.TypeIs (.ref sl) "slice":=⟨os,hos,hcs⟩
  unfold getItem
  try with_reducible refine wpAny_holding ?_
  first | refine wpAny_bind (wpAny_pure ?_) | skip
  refine wpAny_bind (wpAny_sequenceKey ht.typeIs (by decide) ?_)
  refine wpAny_bind (wpAny_callSpecial?_slot (name:=Str.ofString "__getitem__") ht.typeIs PyProof.Rows.slot_tuple_getitem
    (wpAny_call_entry PyProof.Rows.slot_tuple_getitem ht.typeIs entry_tuple_getitem ?_ (args_tuple_getitem _ _)))
  show wpAny _ _ (Builtin.Tuple.tupleItemsOf (.ref t) >>= _) _ _ s
  refine wpAny_bind (tupleItemsOf_ ht ?_)
  refine wpAny_bind (wpAny_typeOf hTs ?_)
  rw[if_pos (by decide)]
  refine wpAny_bind (sliceApplied_gen hs pl pu ?_)
  rw[hw.1,hw.2]
  have hyes:((((0:Nat):Int) == 0 && (1:Int) == 1 && (items.size - 0) == items.size)=true):=by simp
  show wpAny _ _ (if((((0:Nat):Int) == 0 && (1:Int) == 1 && (items.size - 0) == items.size)=true)then _ else _) _ _ s
  rw[if_pos hyes]
  refine wpAny_bind (wpAny_bind (m:=typeOf (.ref t)) (wpAny_typeOf ht.typeIs (wpAny_pure ?_)))
  rw[if_pos (by decide)]
  refine wpAny_bind (wpAny_rule ?_)
  exact wpAny_pure ⟨_,rfl,wpAny_pure h⟩
theorem sliceApplied_rev{sl:Addr}{n:Nat}{tk:Tok}{Q:Int × Int × Nat→Shared→Prop}(hs:s.heap.IsSliceOf sl .none .none (.int (-1) tk))
    (h:Q ((n:Int) - 1,-1,n) s):wpAny (model prog w) A (Builtin.Slice.sliceApplied (.ref sl) (pure (n:Int))) Q E s:=by
  obtain⟨os,hos,hcs,hds⟩:=id hs
  unfold Builtin.Slice.sliceApplied Builtin.Slice.sliceFields
  refine wpAny_bind (wpAny_bind (wpAny_field hos hds (x:=.none) rfl (wpAny_bind (wpAny_field hos hds (x:=.none) rfl (wpAny_bind (wpAny_field hos hds (x:=.int (-1) tk) rfl (wpAny_pure ?_)))))))
  refine wpAny_bind (slicePart_int ?_)
  show wpAny _ _ (if((-1:Int) == 0)=true then _ else _) _ _ s
  rw[if_neg (by decide)]
  refine wpAny_bind (slicePart_none (wpAny_bind (slicePart_none (wpAny_bind (wpAny_pure ?_)))))
  have e1:Builtin.Slice.sliceAdjust none none (-1) (n:Int)=((n:Int) - 1,-1):=by
    unfold Builtin.Slice.sliceAdjust
    simp
  have e2:Builtin.Slice.slicePlaces ((n:Int) - 1) (-1) (-1)=n:=by
    unfold Builtin.Slice.slicePlaces
    simp
    omega
  show wpAny _ _ (match Builtin.Slice.sliceAdjust none none (-1) (n:Int)with | (lo,hi)=>pure (lo,(-1:Int),Builtin.Slice.slicePlaces lo hi (-1))) _ _ s
  rw[e1]
  show wpAny _ _ (pure ((n:Int) - 1,(-1:Int),Builtin.Slice.slicePlaces ((n:Int) - 1) (-1) (-1))) _ _ s
  rw[e2]
  exact wpAny_pure h
theorem getItem_tuple_rev{t sl:Addr}{items:Array Value}{tk:Tok}{Q:Value→Shared→Prop}(ht:IsTup s.heap t items)(hs:s.heap.IsSliceOf sl .none .none (.int (-1) tk))
    (h:Q (.ref s.heap.objs.size) { s with heap:=s.heap.push { cls:=.type "tuple",data:=.seq ((List.range items.size).filterMap fun(m:Nat)=>items[((items.size:Int) - 1+(m:Int) * -1).toNat]?).toArray } })
    (hsz:items.size≤sizeLine):wpAny (model prog w) A (getItem (.ref t) (.ref sl)) Q E s:=by
  have htake:sizeOk (.seq ((List.range items.size).filterMap fun(m:Nat)=>items[((items.size:Int) - 1+(m:Int) * -1).toNat]?).toArray):=by
    show((List.range items.size).filterMap fun(m:Nat)=>items[((items.size:Int) - 1+(m:Int) * -1).toNat]?).toArray.size≤sizeLine
    rw[List.size_toArray]
    refine Nat.le_trans (List.length_filterMap_le _ _) ?_
    rw[List.length_range];exact hsz
  obtain⟨os,hos,hcs,hds⟩:=id hs
  have hTs:s.TypeIs (.ref sl) "slice":=⟨os,hos,hcs⟩
  unfold getItem
  try with_reducible refine wpAny_holding ?_
  first | refine wpAny_bind (wpAny_pure ?_) | skip
  refine wpAny_bind (wpAny_sequenceKey ht.typeIs (by decide) ?_)
  refine wpAny_bind (wpAny_callSpecial?_slot (name:=Str.ofString "__getitem__") ht.typeIs PyProof.Rows.slot_tuple_getitem
    (wpAny_call_entry PyProof.Rows.slot_tuple_getitem ht.typeIs entry_tuple_getitem ?_ (args_tuple_getitem _ _)))
  show wpAny _ _ (Builtin.Tuple.tupleItemsOf (.ref t) >>= _) _ _ s
  refine wpAny_bind (tupleItemsOf_ ht ?_)
  refine wpAny_bind (wpAny_typeOf hTs ?_)
  rw[if_pos (by decide)]
  refine wpAny_bind (sliceApplied_rev hs ?_)
  have hno:¬(((((items.size:Int) - 1) == 0) && ((-1:Int) == 1) && (items.size == items.size))=true):=by simp
  show wpAny _ _ (if((((items.size:Int) - 1) == 0) && ((-1:Int) == 1) && (items.size == items.size))=true then _ else _) _ _ s
  rw[if_neg hno]
  first
    | exact wpAny_bind (m:=Builtin.Tuple.tupleExact _) (wpAny_newObj_type (wpAny_pure ⟨_,rfl,wpAny_pure h⟩) htake)
    | exact wpAny_bind (m:=Builtin.Tuple.tupleExact _) (wpAny_newObj_type (wpAny_bind (wpAny_pure (wpAny_pure ⟨_,rfl,wpAny_pure h⟩))) htake)
    | exact wpAny_bind (wpAny_bind (m:=Builtin.Tuple.tupleExact _) (wpAny_newObj_type (wpAny_pure (wpAny_pure ⟨_,rfl,wpAny_pure h⟩)) htake))
    | exact wpAny_bind (wpAny_bind (m:=Builtin.Tuple.tupleExact _) (wpAny_newObj_type (wpAny_pure ⟨_,rfl,wpAny_pure h⟩) htake))
end
end HT
namespace L2
open PySem PySem.Spec PyProof.Rows
def rSlTA(K:PySem.W.Frag):V→Option Int→Option Int→Hp→VK→Prop:=fun x lo hi H Q=>∃a xs,x=.ref a∧SqT K H a xs∧H a=some (.tup xs)∧
  ∀p H',Same H H'→H' p=some (.tup (cutV xs lo hi))→Q (.ref p) H'
theorem sl_tupA{X:Cx}:SlR X (rSlTA X.K):=by
  intro pins s σ H x v vl vu lo hi sl Q I rx hs pl pu h
  obtain⟨a,xs,rfl,hx,hx',q⟩:=h
  by_cases hw:HT.sIx xs.length 0 lo=0∧HT.sIx xs.length xs.length hi=xs.length
  · cases rx
    obtain⟨its,r,ht,hz⟩:=I.tuple hx
    have hlen:its.toArray.size=xs.length:=by rw[List.size_toArray];exact r.length.symm
    refine⟨"tuple",_,PyProof.Rows.slot_tuple_getitem.lookup,ht.typeIs,?_⟩
    refine HT.getItem_tuple_all ht hs pl pu (by rw[hlen];exact hw) ?_
    refine⟨.ref a,H,I,rfl,q a H (Same.refl _) ?_⟩
    rw[hx']
    unfold cutV
    rw[hw.1,hw.2,Nat.sub_zero,List.drop_zero,List.take_length]
  · exact sl_tup pins s σ H _ v vl vu lo hi sl Q I rx hs pl pu ⟨a,xs,rfl,hx,hw,fun p n=>q p _ (same_upd n) upd_same⟩
end L2
namespace L2
open PySem PySem.Spec PyProof.Rows
theorem pick_map{xs:List V}:∀ix:List Nat,(∀i∈ix,i < xs.length)→ix.filterMap (xs[·]?)=ix.map fun i=>(xs[i]?).getD .non
  | [],_=>rfl
  | i::ix,h=>by
    have e:=List.getElem?_eq_getElem (h i (List.mem_cons_self ..))
    rw[List.filterMap_cons_some e,List.map_cons,e,pick_map ix fun j hj=>h j (List.mem_cons_of_mem _ hj)];rfl
theorem pick_rev(xs:List V):(((List.range xs.length).map fun(m:Nat)=>((xs.length:Int) - 1+(m:Int) * -1).toNat).filterMap (xs[·]?))=xs.reverse:=by
  rw[pick_map]
  · refine List.ext_getElem (by simp) fun i h1 h2=>?_
    simp only[List.length_map,List.length_range]at h1
    simp only[List.getElem_map,List.getElem_range,List.getElem_reverse]
    have e:((xs.length:Int) - 1+(i:Int) * -1).toNat=xs.length - 1 - i:=by omega
    rw[e,List.getElem?_eq_getElem (by omega)];rfl
  · intro i hi
    obtain⟨m,hm,rfl⟩:=List.mem_map.mp hi
    have:=List.mem_range.mp hm
    omega
theorem pe_rvT{X:Cx}{e st:Expr}{te ts:TE}{p2 pos:Pos}(he:PE X e te)(hst:PE X st ts):PE X (.Subscript e (.Slice none none (some st) p2) pos) (fun σ H Q=>te σ H fun x H1=>ts σ H1 fun y H2=>∃a xs,x=.ref a∧y=.int (-1)∧SqT X.K H2 a xs∧∀p,H2 p=none→Q (.ref p) (upd H2 p (.tup xs.reverse))):=by
  intro pins s σ H Q I h
  refine Subscript_ (thn (he pins s σ H _ I h) fun v s1 ⟨x,H1,I1,r1,q1⟩=>?_)
  refine wpAny_Slice ?_
  rw[evalPart_none]
  refine wpAny_pure ?_
  refine wpAny_pure ?_
  show wpAny _ _ (eval st X.env) _ _ _
  refine thn (hst pins s1 σ H1 _ I1 q1) fun vk s2 ⟨y,H2,I2,r2,a,xs,ex,ey,hx,q⟩=>?_
  subst ex ey
  cases r1
  obtain⟨uk,rfl⟩:=r2
  have I4:Inv X pins σ H2 { s2 with heap:=s2.heap.push { cls:=.type "slice",data:=.fields #[.none,.none,.int (-1) uk] } }:=I2.kept (t':=s2.toks) fun b ob q=>Heap.get?_push_of_some _ q
  obtain⟨its,r,ht,hz⟩:=I4.tuple hx
  have hlen:its.toArray.size=xs.length:=by rw[List.size_toArray];exact r.length.symm
  refine tail_any (T:="tuple") (ops:=[.ref a,.ref s2.heap.objs.size]) ht.typeIs PyProof.Rows.slot_tuple_getitem.lookup (HT.getItem_tuple_rev ht (Heap.IsSliceOf.new ..) ?_ (by rw[hlen];exact hz)) (by with_unfolding_all rfl)
  rw[hlen]
  have ea:((List.range xs.length).filterMap fun(m:Nat)=>its.toArray[((xs.length:Int) - 1+(m:Int) * -1).toNat]?)=((List.range xs.length).map fun(m:Nat)=>((xs.length:Int) - 1+(m:Int) * -1).toNat).filterMap (its[·]?):=by
    rw[List.filterMap_map]
    simp only[List.getElem?_toArray]
    rfl
  rw[ea]
  have rp:=vals_pick r ((List.range xs.length).map fun(m:Nat)=>((xs.length:Int) - 1+(m:Int) * -1).toNat)
  rw[pick_rev]at rp
  revert rp
  generalize ((List.range xs.length).map fun(m:Nat)=>((xs.length:Int) - 1+(m:Int) * -1).toNat)=ix
  intro rp
  have q:=q _ (I4.hok.fresh (Nat.le_refl _))
  generalize hrv:xs.reverse=rv at rp q
  have hl:rv.length=xs.length:=by rw[← hrv,List.length_reverse]
  refine⟨.ref _,_,I4.laid (t':=s2.toks) (o:=.tup rv) (fun b ob q=>Heap.get?_push_of_some _ q) (Nat.le_refl _) ?_,rfl,q⟩
  exact⟨by omega,_,rp,IsTup.new _ _,fun _=>⟨_,Heap.get?_push_size _ rfl,rfl⟩⟩
end L2
namespace L2
open PySem PySem.Spec PyProof.Rows
def revS(z:Str):Str:=⟨z.cps.toList.reverse.toArray⟩
theorem sliceBy_rev(z:Str)(uk:Tok):Txt.sliceBy z none none (-1,uk)=revS z:=by
  unfold Txt.sliceBy
  rw[if_neg (by simp)]
  show(⟨((Builtin.Str.strSliceIndices none none (-1) z.length).filterMap (z.cps[·]?)).toArray⟩:Str)=_
  have e:Builtin.Str.strSliceIndices none none (-1) z.length=(List.range z.cps.size).reverse:=by
    show sliceRange ((z.length:Int) - 1) (-1) (-1)=_
    rw[PySem.W.krv_sliceRange,PySem.W.krv_range];rfl
  rw[e,List.filterMap_reverse,PySem.W.krv_all];rfl
theorem pe_rvs{X:Cx}{e st:Expr}{te ts:TE}{p2 pos:Pos}(he:PE X e te)(hst:PE X st ts):PE X (.Subscript e (.Slice none none (some st) p2) pos) (fun σ H Q=>te σ H fun x H1=>ts σ H1 fun y H2=>∃z,x=.str z∧y=.int (-1)∧z.length≤sizeLine∧Q (.str (revS z)) H2):=by
  intro pins s σ H Q I h
  refine Subscript_ (thn (he pins s σ H _ I h) fun v s1 ⟨x,H1,I1,r1,q1⟩=>?_)
  refine wpAny_Slice ?_
  rw[evalPart_none]
  refine wpAny_pure ?_
  refine wpAny_pure ?_
  show wpAny _ _ (eval st X.env) _ _ _
  refine thn (hst pins s1 σ H1 _ I1 q1) fun vk s2 ⟨y,H2,I2,r2,z,ex,ey,hz,q⟩=>?_
  subst ex ey
  obtain⟨t,rfl⟩:=r1
  obtain⟨uk,rfl⟩:=r2
  have I4:Inv X pins σ H2 { s2 with heap:=s2.heap.push { cls:=.type "slice",data:=.fields #[.none,.none,.int (-1) uk] } }:=I2.kept (t':=s2.toks) fun b ob q=>Heap.get?_push_of_some _ q
  refine tail_any (T:="str") (ops:=[.ref s2.heap.objs.size,.str z t]) (typeIs_str _ _ _) F.slot_str_getitem.lookup (wpAny_getItem_str_slice (l:=none) (u:=none) (st:=some (-1,uk)) ⟨_,Heap.get?_push_size _ rfl,rfl,rfl⟩ rfl
    (post_val_or_str ⟨Nat.le_trans (Txt.sliceBy_le z none none (-1,uk) (show(-1:Int)≠0 by decide)) hz,fun t' c=>?_⟩)) (by with_unfolding_all rfl)
  have e:=sliceBy_rev z uk
  unfold Txt.sliceBy at e
  rw[e]
  exact⟨.str (revS z),H2,I4.tok _,⟨_,rfl⟩,q⟩
end L2
namespace L2
open PySem PySem.Spec PyProof.Rows
section
variable{X:Cx}
end
end L2
namespace L2
open PySem PySem.Spec PyProof.Rows PySem.W
structure Tb(mg:Str→Option Value)(h:Heap)(c P:Addr):Prop where
  cd:CodeHd h c P
  bl:h.BuiltinsAt mg P
  gl:mainGlobals≠P
section
variable{P:Program}{w:World}{H:Hp}{h h':Heap}{p:Addr}{ps qs:Array Value}
theorem HOk.tab(x:HOk P w H h)(hp:H p=some (.tbl ps))(hx:Heap.ExtBut p h h')(e:h'.get? p=some (tabObj qs)):HOk P w (upd H p (.tbl qs)) h':=fun b u q=>by
  have own:∀c a,H c=some (.own a)→upd H p (.tbl qs) c=some (.own a):=fun c a z=>by rw[upd_ne (ne_of z hp (by simp))];exact z
  have tup:∀c xs,H c=some (.tup xs)→upd H p (.tbl qs) c=some (.tup xs):=fun c xs z=>by rw[upd_ne (ne_of z hp (by simp))];exact z
  by_cases hb:b=p
  · subst hb;rw[upd_same]at q;cases q;exact e
  · rw[upd_ne hb]at q
    refine(x b u q).stay (fun c o hc z=>hx c o ?_ z) (fun c z=>own c b z) tup
    rcases hc with rfl | hc
    · exact hb
    · exact ne_of hc hp (by simp)
theorem Un.tab{fs ex:List Addr}(hp:H p=some (.tbl ps))(hx:Heap.ExtBut p h h')(e:h'.get? p=some (tabObj (ps++qs))):Un fs ex H (upd H p (.tbl (ps++qs))) h h' where
  keep:=fun b o q n _ _=>hx b o (fun z=>by rw[z,hp]at n;cases n) q
  slot:=fun b o q n _ _=>⟨o.slots,hx b o (fun z=>by rw[z,hp]at n;cases n) q⟩
  free:=fun b o q n _=>by rw[upd_ne (fun z=>by rw[z,hp]at n;cases n)];exact n
  there:=fun b o q _=>by
    by_cases hb:b=p
    · exact⟨_,hb▸e⟩
    · exact⟨o,hx b o hb q⟩
  tups:=fun b xs z=>by rw[upd_ne (ne_of z hp (by simp))];exact z
  frzs:=fun b o u z=>by rw[upd_ne (ne_of z hp (by simp))];exact z
  tbls:=fun b qs' z=>by
    by_cases hb:b=p
    · subst hb;rw[hp]at z;cases z;exact⟨qs,upd_same⟩
    · exact⟨#[],by rw[upd_ne hb,z];simp⟩
end
section
variable{X:Cx}{pins:List (Addr × Obj)}{σ:St}{H:Hp}{s:Shared}
theorem Tb.keeps{mg:Str→Option Value}{h h':Heap}{c P:Addr}(t:Tb mg h c P)(k:∀b o,h.get? b=some o→h'.get? b=some o):Tb mg h' c P:=
  ⟨t.cd.keeps k,let⟨bm,o,a1,a2,a3,a4,a5,r⟩:=t.bl;⟨bm,o,a1,a2,a3,a4,k _ _ a5,r⟩,t.gl⟩
theorem ext_push{P:Addr}{h h':Heap}{o:Obj}(hx:Heap.ExtBut P h h'):Heap.ExtBut P h (h'.push o):=fun b u hb e=>Heap.get?_push_of_some _ (hx b u hb e)
end
def OnlyT(ts:List Addr)(H:Hp):Prop:=∀p∈ts,H p=some (.tbl #[])
theorem tabIn_code{K:Frag}{x qual:Str}{st:Stmt}{f c P:Addr}{fd:FuncData}{oc:Value}{od:Option Addr}{osl:Array (Option Value)}(ht:tabIn K x=some (c,P))(hn:nsIn K mainGlobals x=some (some (.ref f)))(lk:K.lookup f=some ⟨oc,od,.func fd,osl⟩):fd.code=.ref c:=by
  unfold tabIn at ht
  rw[hn]at ht
  simp only[lk]at ht
  split at ht
  · rename_i c₂ hc
    split at ht
    · split at ht
      · cases ht;exact hc
      · cases ht
    · cases ht
  · cases ht
section
variable{P:Program}{w:World}{K:PySem.W.Frag}{mg:Str→Option Value}{base:Heap}
theorem Fun.okC{x qual:Str}{st:Stmt}{f c p:Addr}{fd:FuncData}{N ps:List Str}{k:Nat}{sp:Sp}(F:Fun K x qual st f fd)(S:FnScope N ps (defScope st))(ht:tabIn K x=some (c,p))(hn:nsIn K mainGlobals x=some (some (.ref f)))(len:∀vs H Q E,sp vs H Q E→vs.length=ps.length)
    (hbody:∀(A:Around) (outer:List Env) (s:Shared) (H:Hp) (vs:List V) (Q:VK) (E:XK),Room k (A.deeper (envOfC qual (defScope st) s.heap.objs.size f (.ref c)))→sp vs H Q E→
      ∃t,PSs (cxOf CX0 P w K mg base N qual (defScope st) f (.ref c) A outer s H E).nox (defBody st) t∧t { nx:=fun _ H'=>Q .non H',rt:=Q } (start N vs) H):FnOk P w K mg base CX0 (k+1) f fd ps sp:=by
  obtain⟨oc,od,kV,doc,pm,an,cdv,ct,osl,rfl,lk,hcd⟩:=F.ex
  have hc:cdv=.ref c:=tabIn_code (st:=st) (qual:=qual) ht hn lk
  subst hc
  refine fn_of lk hcd S len fun A outer s H vs Q E hr hsp=>?_
  obtain⟨t,h,q⟩:=hbody A outer s H vs Q E hr hsp
  exact⟨t,h.nox,q⟩
end
theorem law_callT{P:Program}{w:World}{K:PySem.W.Frag}{mg mb:Str→Option Value}{CX:CXT}{k:Nat}{fa a:Addr}{fd:FuncData}{x:Str}{sp:Sp}{s₁:Shared}{vs:List Value}{ns:List Int}{tabs:List (Addr × Addr)}
    (KX:K.In s₁.heap) (hns:s₁.heap.Ns mainGlobals mg) (hb:s₁.heap.Ns builtinsNs mb) (hbb:∀x:Str,x≠"__name__"→mb x=bootBuiltins x) (hlim:s₁.heap.NoLimit) (hsee:s₁.heap.NoSeer) (hg:s₁.gens=#[])
    (ha:s₁.heap.get? a=some { cls:=.type "list",data:=.seq vs.toArray }) (hi:IntsAre vs ns) (hl:ns.length≤sizeLine) (hr:Room k callerA)
    (hT:∀q∈tabs,Tb mg s₁.heap q.1 q.2∧s₁.heap.TableAt q.1 q.2 #[]∧K.lookup q.2=none)
    (F:∀base:Heap,K.In base→base.Ns mainGlobals mg→(∀q∈tabs,Tb mg base q.1 q.2)→FnOk P w K mg base CX k fa fd [x] sp) (hbind:∀(s:Shared) (u:Value),BindsTo s fd ⟨[u],[]⟩ [(x,u)])
    (hsp:∀H:Hp,OnlyT (tabs.map (·.2)) H→SqL K H a (ns.map V.int)→sp [.ref a] H (fun v _=>v=.bl true) fun _ _ _=>False)
    (hCX:∀H e s',CX [] H s₁ (fun _ _ _=>False) e s'→False) :
    codeAny (model P w) callerA (.call (.ref fa) ⟨[.ref a],[]⟩) (fun r s'=>r=.ok (.ret (.bool true))∧OldK s₁.heap s'.heap∧s'.os=s₁.os∧AllBare s'.gens) s₁:=by
  have rv:=vals_ints hi
  have lenV:=hi.length
  have hTp:∀p∈tabs.map (·.2),s₁.heap.get? p=some (tabObj #[])∧K.lookup p=none∧∃c,s₁.heap.TableAt c p #[]:=fun p hp=>by
    obtain⟨q,hq,rfl⟩:=List.mem_map.mp hp
    exact⟨(hT q hq).2.1.2,(hT q hq).2.2,_,(hT q hq).2.1⟩
  have core:∀H:Hp,(∀b,H b=none∨(∃o xs,H b=some (.frz o (.lst xs))∧b=a∧K.lookup a=none)∨(H b=some (.tbl #[])∧b∈tabs.map (·.2)))→OnlyT (tabs.map (·.2)) H→SqL K H a (ns.map V.int)→HOk P w H s₁.heap→
      codeAny (model P w) callerA (.call (.ref fa) ⟨[.ref a],[]⟩) (fun r s'=>r=.ok (.ret (.bool true))∧OldK s₁.heap s'.heap∧s'.os=s₁.os∧AllBare s'.gens) s₁:=by
    intro H hO hOT hS hok
    have base_of:∀{b:Addr} {o:Obj},s₁.heap.get? b=some o→H b=none→(hidT s₁.heap H).get? b=some o:=fun e n=>hidT_get e n
    have isA:∀{b:Addr} {o:Obj},s₁.heap.get? b=some o→o.cls≠.none→o.cls≠.type "list"→H b=none:=fun{b o} e c1 c2=>by
      rcases hO b with z | ⟨_,_,_,rfl,_⟩ | ⟨_,hm⟩
      · exact z
      · rw[ha]at e;cases e;exact absurd rfl c2
      · rw[(hTp _ hm).1]at e;cases e;exact absurd rfl c1
    have noA:∀{b:Addr} {o:Obj} {es:Array DictEntry} {ep:Nat},s₁.heap.get? b=some o→o.data=.dict es ep→H b=none:=fun{b o es ep} e d=>by
      rcases hO b with z | ⟨_,_,_,rfl,_⟩ | ⟨_,hm⟩
      · exact z
      · rw[ha]at e;cases e;cases (show Data.seq vs.toArray _=Data.dict es ep from d)
      · rw[(hTp _ hm).1]at e;cases e;cases (show Data.fields #[]=Data.dict es ep from d)
    have nsK:∀{b:Addr} {m:Str→Option Value},s₁.heap.Ns b m→(hidT s₁.heap H).Ns b m:=fun{b m} ⟨o,es,ep,e,d,r⟩=>⟨o,es,ep,base_of e (noA e d),d,r⟩
    have hKb:K.In (hidT s₁.heap H):=fun b o e=>base_of (KX b o e) (by
      rcases hO b with z | ⟨_,_,_,rfl,hk⟩ | ⟨_,hm⟩
      · exact z
      · rw[hk]at e;cases e
      · rw[(hTp _ hm).2.1]at e;cases e)
    have ty:∀{x y:String},x≠y→Value.type x≠Value.type y:=fun n z=>by injection z with z;exact n z
    have hM:Mod K mg (hidT s₁.heap H):=⟨hKb,nsK hns,⟨mb,nsK hb,hbb⟩,let⟨mc,h1,h2⟩:=hlim;⟨mc,nsK h1,h2⟩,
      ⟨let⟨mc,h1,h2⟩:=hsee.statics;⟨mc,nsK h1,h2⟩,let⟨mc,h1,h2⟩:=hsee.mods;⟨mc,nsK h1,h2⟩,let⟨mc,h1,h2⟩:=hsee.imp;⟨mc,nsK h1,h2⟩,by
        obtain⟨mg',bm,ob,n1,n2,n3,n4,n5⟩:=hsee.main
        exact⟨mg',bm,ob,nsK n1,n2,base_of n3 (isA n3 (by rw[n4];nofun) (by rw[n4];exact ty (by decide))),n4,n5⟩⟩⟩
    have e0:Env0 P w K mg (hidT s₁.heap H) callerA [] s₁ H:=⟨rfl,hM,fun b o e=>of_hidT e,Nat.le_of_eq (hidT_size _ _),trivial,fun b hb=>absurd (show b∈([]:List Addr)from hb) (by simp),hok,.of_eq hg⟩
    have hTb:∀q∈tabs,Tb mg (hidT s₁.heap H) q.1 q.2:=fun q hq=>by
      obtain⟨o,ws,file,tf,flags,tg,inF,text,tt,e1,r1,r2⟩:=(hT q hq).1.cd
      obtain⟨bm,ob,a1,a2,a3,a4,a5,a6,a7⟩:=(hT q hq).1.bl
      exact⟨⟨o,ws,file,tf,flags,tg,inF,text,tt,base_of e1 (isA e1 (by rw[r1];nofun) (by rw[r1];exact ty (by decide))),r1,r2⟩,⟨bm,ob,a1,a2,a3,a4,base_of a5 (isA a5 (by rw[a6];nofun) (by rw[a6];exact ty (by decide))),a6,a7⟩,(hT q hq).1.gl⟩
    refine codeAny_mono ((F _ hKb (nsK hns) hTb).run callerA [] s₁ H ⟨[.ref a],[]⟩ [.ref a] [.ref a] _ _ hr e0 (hbind s₁ (.ref a)) (.cons rfl .nil) (hsp H hOT hS)) fun r s' h=>?_
    cases r with
    | error e=>exact(hCX H e s' h).elim
    | ok fl=>
      cases fl with
      | next=>exact False.elim h
      | brk=>exact False.elim h
      | cont=>exact False.elim h
      | ret u=>
        obtain⟨v,H',os,bare,un,hok',r',q⟩:=h
        have q':v=.bl true:=q
        subst q'
        obtain rfl:u=Value.bool true:=r'
        refine⟨rfl,⟨fun b o e=>?_,fun b o e=>un.there b o e (by simp)⟩,os,bare⟩
        rcases hO b with z | ⟨ob,xs,z,_,_⟩ | ⟨z,hm⟩
        · exact .inl (un.keep b o e z (by intro z;exact absurd (show b∈([]:List Addr)from z) (by simp)) (by simp))
        · have z2:=un.frzs b ob _ z
          obtain⟨e1,_⟩:=hok b _ z
          obtain⟨e2,_⟩:=hok' b _ z2
          rw[e]at e1;cases e1
          exact .inl e2
        · obtain⟨g1,_,c,g3⟩:=hTp b hm
          rw[g1]at e;cases e
          obtain⟨more,z2⟩:=un.tbls b _ z
          exact .inr (.inl ⟨g3.isCodeTable,rfl,#[],more,rfl,hok' b _ z2⟩)
  have aT:a ∉ tabs.map (·.2):=fun z=>by have e:=(hTp a z).1;rw[ha]at e;cases e
  cases hk:K.lookup a with
  | some o=>
    have e:=KX a o hk
    rw[ha]at e
    cases e
    refine core (fun b=>if b∈tabs.map (·.2)then some (.tbl #[])else none) (fun b=>?_) (fun p hp=>if_pos hp) (.inr ⟨_,vs.toArray,_,hk,rfl,rfl,rfl,by rw[List.size_toArray,lenV];exact hl,by simpa using rv⟩) fun b u z=>?_
    · by_cases hb:b∈tabs.map (·.2)
      · exact .inr (.inr ⟨if_pos hb,hb⟩)
      · exact .inl (if_neg hb)
    · by_cases hb:b∈tabs.map (·.2)
      · have z':=(if_pos hb).symm.trans z
        cases z'
        exact(hTp b hb).1
      · have z':=(if_neg hb).symm.trans z
        cases z'
  | none=>
    refine core (fun b=>if b=a then some (.frz { cls:=.type "list",data:=.seq vs.toArray } (.lst (ns.map V.int)))else if b∈tabs.map (·.2)then some (.tbl #[])else none) (fun b=>?_) (fun p hp=>?_) (.inl (.inr ⟨{ cls:=.type "list",data:=.seq vs.toArray },if_pos rfl⟩)) fun b u z=>?_
    · by_cases hb:b=a
      · exact .inr (.inl ⟨_,_,if_pos hb,hb,hk⟩)
      · by_cases hb':b∈tabs.map (·.2)
        · exact .inr (.inr ⟨(if_neg hb).trans (if_pos hb'),hb'⟩)
        · exact .inl ((if_neg hb).trans (if_neg hb'))
    · exact(if_neg (fun e:p=a=>aT (by rw[← e];exact hp))).trans (if_pos hp)
    · by_cases hb:b=a
      · have z':=(if_pos hb).symm.trans z
        cases z'
        subst hb
        exact⟨ha,by rw[List.length_map];exact hl,vs,_,rv,ha⟩
      · have z':=(if_neg hb).symm.trans z
        by_cases hb':b∈tabs.map (·.2)
        · have z2:=(if_pos hb').symm.trans z'
          cases z2
          exact(hTp b hb').1
        · have z2:=(if_neg hb').symm.trans z'
          cases z2
theorem noTabs_lookup{K:Frag}(hK:noTabs K=true){P:Addr}{h:Heap}{ps:Array Value}(X:K.In h)(e:h.get? P=some (tabObj ps)):K.lookup P=none:=by
  cases q:K.lookup P with
  | none=>rfl
  | some o=>
    have e2:=X _ _ q
    rw[e]at e2
    cases e2
    have h2:=List.all_eq_true.mp hK (P,tabObj ps) (mem_of_lookupK q)
    exact absurd (show false=true from h2) Bool.false_ne_true
theorem walk_ofT{l:PySem.W.OpenLaw}{n k:Nat}{q:Program}{loose:List Str}{XP:(Str→Option Value)→Heap→Prop}{YP:World→Heap→Prop}{d:DefRec}{K:Params→PySem.W.Frag}{CX:CXT}{sp:PySem.W.Frag→Sp}{x:Str}(nms:List Str)
    (hn:l.most=some n) (hn2:n≤sizeLine) (hdf:d.params.defaults=[]) (hr:Room k callerA) (hq:importsNone q=true)
    (hY:∀(w:World) (h:Heap),YP w h→(K w.params).In h)
    (hnt:∀w:World,noTabs (K w.params)=true) (hrec:∀y∈nms,((recsOf q).find? (fun e=>e.name == y)).isSome=true)
    (F:∀(w:World) (mg:Str→Option Value) (fa:Addr) (h:Heap),(K w.params).In h→h.Ns mainGlobals mg→mg d.name=some (.ref fa)→
      ∃fd:FuncData,(∀(s:Shared) (u:Value),BindsTo s fd ⟨[u],[]⟩ [(x,u)])∧
        ∀base:Heap,(K w.params).In base→base.Ns mainGlobals mg→(∀y∈nms,∀c P,tabIn (K w.params) y=some (c,P)→Tb mg base c P)→FnOk l.prog w (K w.params) mg base CX k fa fd [x] (sp (K w.params)))
    (hsp:∀(K:PySem.W.Frag) (H:Hp) (a:Addr) (ns:List Int),ns.length≤n→(∀y∈nms,∀c P,tabIn K y=some (c,P)→H P=some (.tbl #[]))→SqL K H a (ns.map V.int)→sp K [.ref a] H (fun v _=>v=.bl true) fun _ _ _=>False)
    (hCX:∀(H:Hp) (s:Shared) (e:Value) (s':Shared),CX [] H s (fun _ _ _=>False) e s'→False) :
    PySem.W.WalkO q loose XP YP l.row.toRowW d [] (fun f vs=>PySem.call f vs):=by
  refine Att.attach_call hn hdf fun w s₀ s₁ mg mb fa o pm cd doc a vs ns G Y ho hd hcd hmg hobj hints hlen hg=>?_
  have KX:=hY w _ Y
  obtain⟨fd,hb,hF⟩:=F w mg fa _ KX G.T.g hmg
  have hmem:∀{y c P},y∈nms→tabIn (K w.params) y=some (c,P)→(c,P)∈nms.filterMap (tabIn (K w.params)):=fun hy ht=>List.mem_filterMap.mpr ⟨_,hy,ht⟩
  refine law_callT (tabs:=nms.filterMap (tabIn (K w.params))) KX G.T.g G.T.b G.T.builtins G.T.nolimit (G.T.seer hq) hg hobj hints (Nat.le_trans hlen hn2) hr (fun t ht=>?_) (fun base kb nb hT=>hF base kb nb fun y hy c P e=>hT (c,P) (hmem hy e)) hb (fun H hO hS=>hsp (K w.params) H a ns hlen (fun y hy c P e=>hO P (List.mem_map.mpr ⟨(c,P),hmem hy e,rfl⟩)) hS) fun H e s'=>hCX H s₁ e s'
  obtain⟨y,hy,ht⟩:=List.mem_filterMap.mp ht
  obtain⟨c,P⟩:=t
  obtain⟨r,hr'⟩:=Option.isSome_iff_exists.mp (hrec y hy)
  obtain⟨C,e⟩:=tab_of G.T KX hr' ht
  obtain⟨bm,ob,b1,b2,b3,b4,b5,b6⟩:=G.T.bmain
  have gP:mainGlobals≠P:=fun z=>by
    obtain⟨o',es,ep,e',hd',_⟩:=G.T.g
    rw[z,e]at e';cases e';cases hd'
  have bP:bm≠P:=fun z=>by
    rw[z,e]at b3;cases b3;cases b4
  have bG:bm≠mainGlobals:=fun z=>by
    obtain⟨o',es,ep,e',hd',_⟩:=G.T.g
    rw[z,e']at b3;cases b3
    rw[b6]at hd';cases hd'
  exact⟨⟨C,⟨bm,ob,b1,b2,bG,bP,b3,b4,b5,b6⟩,gP⟩,C.tab e,noTabs_lookup (hnt w) KX e⟩
end L2
namespace L2
open PySem PySem.Spec PyProof.Rows
section
variable{prog:Program}{w:World}{A:Around}{E:Value→Shared→Prop}{s:Shared}
inductive Cmp2:Value→Value→Prop
  | int (i j:Int) (t u:Tok):Cmp2 (.int i t) (.int j u)
  | str (x y:Str) (t u:Tok):Cmp2 (.str x t) (.str y u)
theorem Cmp2.eqB{x y:Value}{Q:Bool→Shared→Prop}(c:Cmp2 x y)(h:∀r,Q r s):wpAny (model prog w) A (eqBool x y) Q E s:=by
  cases c with
  | int i j t u=>exact wpAny_eqBool_int (h _)
  | str x y t u=>exact wpAny_eqBool_str (h _)
theorem Cmp2.lt{x y:Value}{Q:Value→Shared→Prop}(c:Cmp2 x y)(h:∀r,Q (.bool r) s):wpAny (model prog w) A (richCompare .Lt x y) Q E s:=by
  cases c with
  | int i j t u=>exact richCompare_gives (op:=.Lt) (typeIs_int s i t) (typeIs_int s j u) F.slot_int_lt F.entry_int_lt (F.args_int_lt_2 _ _) (gives_int_lt _ _ t u) (fun x=>nomatch x) (h _)
  | str x y t u=>exact richCompare_gives (op:=.Lt) (typeIs_str s x t) (typeIs_str s y u) F.slot_str_lt F.entry_str_lt (F.args_str_lt_2 _ _) (gives_str_lt x y t u) (fun e=>nomatch e) (h _)
theorem int_ltR{c d:Int}{t u:Tok}{Q:Value→Shared→Prop}(h:Q (.bool (decide (c < d))) s):wpAny (model prog w) A (richCompare .Lt (.int c t) (.int d u)) Q E s:=
  richCompare_gives (op:=.Lt) (typeIs_int s c t) (typeIs_int s d u) F.slot_int_lt F.entry_int_lt (F.args_int_lt_2 _ _) (gives_int_lt _ _ t u) (fun x=>nomatch x) h
theorem pair_lt{a b:Addr}{c d:Int}{t u:Tok}{x y:Value}{oa ob:Obj}{na nb:Nat}{Q:Value→Shared→Prop}(hu:A.units+1 < cLine)
    (hoa:s.heap.get? a=some oa) (ca:oa.cls=.type "tuple") (da:oa.data=.seq #[.int c t,x] na) (hob:s.heap.get? b=some ob) (cb:ob.cls=.type "tuple") (db:ob.data=.seq #[.int d u,y] nb) (hxy:Cmp2 x y)
    (h:∀r:Bool,(r=true→c≤d)→(r=false→d≤c)→Q (.bool r) s):wpAny (model prog w) A (richCompare .Lt (.ref a) (.ref b)) Q E s:=by
  have ta:s.TypeIs (.ref a) "tuple":=⟨oa,hoa,ca⟩
  have tb:s.TypeIs (.ref b) "tuple":=⟨ob,hob,cb⟩
  refine wpAny_richCompare_same_room (op:=.Lt) ta tb F.slot_tuple_lt (wpAny_call_entry F.slot_tuple_lt ta F.entry_tuple_lt ?_ (F.args_tuple_lt_2 _ _)) (Nat.lt_of_succ_lt hu)
  show wpAny _ _ (isInstance (.ref b) (.type "tuple") >>= _) _ _ s
  refine wpAny_bind (wpAny_isInstance tb isSubtype_tuple_tuple ?_)
  simp only[Bool.not_true,Bool.false_eq_true,if_false]
  refine wpAny_bind (wpAny_tupleItemsOf hoa da ?_)
  refine wpAny_bind (wpAny_tupleItemsOf hob db ?_)
  refine wpAny_bind ?_
  show wpAny _ _ (forIn [(Value.int c t,Value.int d u),(x,y)] _ _) _ _ _
  rw[List.forIn_cons]
  refine wpAny_bind ?_
  refine wpAny_bind (wpAny_eqBool_int ?_)
  by_cases hcd:c=d
  · subst hcd
    simp only[beq_self_eq_true,Bool.not_true,Bool.false_eq_true,if_false]
    refine wpAny_pure ?_
    show wpAny _ _ (forIn [(x,y)] _ _) _ _ _
    rw[List.forIn_cons]
    refine wpAny_bind ?_
    refine wpAny_bind (hxy.eqB fun r=>?_)
    cases r with
    | true=>
      simp only[Bool.not_true,Bool.false_eq_true,if_false]
      refine wpAny_pure ?_
      show wpAny _ _ (forIn [] _ _) _ _ _
      rw[List.forIn_nil]
      refine wpAny_pure ?_
      refine wpAny_pure ?_
      exact⟨_,rfl,fun z=>(nomatch z),h false (fun z=>nomatch z) fun _=>Int.le_refl _⟩
    | false=>
      simp only[Bool.not_false,if_true]
      refine wpAny_bind (wpAny_rule (wpAny_bind (hxy.lt fun r=>?_)))
      refine wpAny_bind (wpAny_pure (wpAny_pure (wpAny_pure (wpAny_pure ?_))))
      exact⟨_,rfl,fun z=>(nomatch z),h r (fun _=>Int.le_refl _) fun _=>Int.le_refl _⟩
  · rw[show(c == d)=false from beq_eq_false_iff_ne.mpr hcd]
    simp only[Bool.not_false,if_true]
    refine wpAny_bind (wpAny_rule (wpAny_bind (int_ltR ?_)))
    refine wpAny_bind (wpAny_pure (wpAny_pure (wpAny_pure (wpAny_pure ?_))))
    exact⟨_,rfl,fun z=>(nomatch z),h _ (fun z=>Int.le_of_lt (of_decide_eq_true z)) fun z=>Int.not_lt.mp (of_decide_eq_false z)⟩
def PairsAt(h:Heap)(its:List Value)(cs:List Int):Prop:=∃ps:List Addr,its=ps.map Value.ref∧ps.length=cs.length∧∀(i j:Nat) (a b:Addr),ps[i]? = some a→ps[j]? = some b→∃(oa ob:Obj) (t u:Tok) (x y:Value) (na nb:Nat),h.get? a=some oa∧oa.cls=.type "tuple"∧oa.data=.seq #[.int (cs[i]?.getD 0) t,x] na∧h.get? b=some ob∧ob.cls=.type "tuple"∧ob.data=.seq #[.int (cs[j]?.getD 0) u,y] nb∧Cmp2 x y
theorem PairsAt.keeps{h h':Heap}{its:List Value}{cs:List Int}(p:PairsAt h its cs)(k:∀b o,Value.ref b∈its→h.get? b=some o→h'.get? b=some o):PairsAt h' its cs:=by
  obtain⟨ps,rfl,hl,q⟩:=p
  refine⟨ps,rfl,hl,fun i j a b ha hb=>?_⟩
  obtain⟨oa,ob,t,u,x,y,na,nb,h1,h2,h3,h4,h5,h6,h7⟩:=q i j a b ha hb
  exact⟨oa,ob,t,u,x,y,na,nb,k _ _ (List.mem_map.mpr ⟨a,List.mem_of_getElem? ha,rfl⟩) h1,h2,h3,k _ _ (List.mem_map.mpr ⟨b,List.mem_of_getElem? hb,rfl⟩) h4,h5,h6,h7⟩
theorem PairsAt.lt{its:List Value}{cs:List Int}{i j:Nat}{v u:Value}{Q:Value→Shared→Prop}(p:PairsAt s.heap its cs)(hu:A.units+1 < cLine)(hi:its[i]? = some v)(hj:its[j]? = some u)
    (h:∀r:Bool,(r=true→cs[i]?.getD 0≤cs[j]?.getD 0)→(r=false→cs[j]?.getD 0≤cs[i]?.getD 0)→Q (.bool r) s):wpAny (model prog w) A (richCompare .Lt v u) Q E s:=by
  obtain⟨ps,rfl,hl,q⟩:=p
  rw[List.getElem?_map]at hi hj
  cases ea:ps[i]? with
  | none=>rw[ea]at hi;cases hi
  | some a=>
    cases eb:ps[j]? with
    | none=>rw[eb]at hj;cases hj
    | some b=>
      rw[ea]at hi;rw[eb]at hj
      cases hi;cases hj
      obtain⟨oa,ob,t,u,x,y,na,nb,h1,h2,h3,h4,h5,h6,h7⟩:=q i j a b ea eb
      exact pair_lt hu h1 h2 h3 h4 h5 h6 h7 h
variable{R:Result→Shared→Prop}{I l:Addr}
theorem min_loopP{its:List Value}{cs:List Int}(hh:A.in1.handled=none)(hu:A.in1.units+1 < cLine)(hlI:l≠I)(S:Addr)(hSI:S≠I)(hSl:S≠l)(hlen:its.length=cs.length)(hIp:Value.ref I ∉ its)(hSp:Value.ref S ∉ its) :
    ∀(k j m:Nat) (s:Shared) (vb:Value) (c:Nat),its.length - (j+1)=k→j+1≤its.length→s.heap.IsListIter I l (j+1)→s.heap.IsList l its.toArray→PairsAt s.heap its cs→its[m]? = some vb→m≤j→(∀m':Nat,m'≤j→cs[m]?.getD 0≤cs[m']?.getD 0)→
    s.heap.get? S=some { cls:=.type "list",dict:=none,data:=.seq #[vb,vb] c,slots:=#[] }→
    (∀(m:Nat) v h' tk,its[m]? = some v→(∀m':Nat,m' < its.length→cs[m]?.getD 0≤cs[m']?.getD 0)→(∀b o,b≠I→b≠S→s.heap.get? b=some o→h'.get? b=some o)→R (.ok (.ret v)) { s with heap:=h',toks:=tk })→
    codeAny (model prog w) A (.builtin "min.loop" ⟨[.ref I,.none,.ref S],[]⟩) R s:=by
  have W:=Walks.list (prog:=prog) (w:=w) (A:=A.in1) hh I l hlI its.toArray
  have hsz:its.toArray.size=its.length:=List.size_toArray ..
  have hname:(toString "min"++toString ".loop":String)="min.loop":=by decide
  intro k
  induction k with
  | zero=>
    intro j m s vb c hk hj hit hl hp hvb hmj hbest hS hR
    have hin:j+1=its.length:=by omega
    refine codeAny_builtin F.entry_min_loop ?_
    rw[Around.under_plainId F.plain_min_loop _]
    show wpAny _ A.in1 (seqItems? (.ref S) >>= _) _ _ s
    refine wpAny_bind (wpAny_seqItems hS rfl ?_)
    show wpAny _ A.in1 (tryCatch (pyNext (.ref I)) _ >>= _) _ _ s
    refine wpAny_bind (wpAny_tryCatch (W.done s _ _ ⟨by rw[hsz,← hin];exact hit,hl⟩ fun h' tk hk'=>?_))
    have hS':=hk' S _ (by simpa using hSI) hS
    show wpAny _ A.in1 (updateSeq S (fun _=>#[]) >>= _) _ _ _
    refine wpAny_bind ?_
    refine wpAny_updateSeq hS' rfl (wpAny_bind (wpAny_letGo (wpAny_pure ?_)))
    exact hR m vb _ tk hvb (fun m' hm=>hbest m' (by omega)) fun b o hbI hbS e=>(Heap.get?_update_other _ _ (Ne.symm hbS)).trans (hk' b o (by simpa using hbI) e)
  | succ k ih=>
    intro j m s vb c hk hj hit hl hp hvb hmj hbest hS hR
    have hlt:j+1 < its.length:=by omega
    refine codeAny_builtin F.entry_min_loop ?_
    rw[Around.under_plainId F.plain_min_loop _]
    show wpAny _ A.in1 (seqItems? (.ref S) >>= _) _ _ s
    refine wpAny_bind (wpAny_seqItems hS rfl ?_)
    show wpAny _ A.in1 (tryCatch (pyNext (.ref I)) _ >>= _) _ _ s
    refine wpAny_bind (wpAny_tryCatch (W.item (j+1) s _ _ (by rw[hsz];exact hlt) ⟨hit,hl⟩ fun v h' tk hP hst' hk'=>?_))
    have hv:its[j+1]? = some v:=by simpa using hP
    have hS':=hk' S _ (by simpa using hSI) hS
    have hp':PairsAt h' its cs:=hp.keeps fun b o hb e=>hk' b o (fun z=>by
      have z:b=I:=by simpa using z
      exact hIp (z▸hb)) e
    show wpAny _ A.in1 (tryCatch (holding [v,v] (richCompare .Lt v vb >>= _)) _ >>= _) _ _ _
    refine wpAny_bind (wpAny_tryCatch (wpAny_holding (wpAny_bind (PairsAt.lt (s:={ s with heap:=h',toks:=tk }) hp' hu hv hvb fun r r1 r2=>?_))))
    refine wpAny_bind (wpAny_holding (wpAny_truthy_bool ?_))
    refine wpAny_bind (wpAny_letGo (wpAny_pure ?_))
    cases r with
    | true=>
      simp only[if_true]
      refine wpAny_bind ?_
      refine wpAny_updateSeq hS' rfl (wpAny_bind (wpAny_letGo ?_))
      rw[hname]
      have up:∀b o,b≠S→h'.get? b=some o→(h'.update S (Obj.mapSeq fun _=>#[v,v])).get? b=some o:=fun b o hb e=>(Heap.get?_update_other _ _ (Ne.symm hb)).trans e
      refine wpAny_pure ⟨plainId_quiet F.plain_min_loop _,ih (j+1) (j+1) _ v _ (by omega) hlt ?_ ?_ (hp'.keeps fun b o hb e=>up b o (fun z=>hSp (z▸hb)) e) hv (Nat.le_refl _) (fun m' hm=>?_) (Heap.get?_update_self _ hS' rfl) fun m2 v2 h2 tk2 q1 q2 q3=>?_⟩
      · obtain⟨oI,eI,rI⟩:=hst'.1
        exact⟨oI,up _ _ (Ne.symm hSI) eI,rI⟩
      · obtain⟨oL,eL,rL⟩:=hst'.2
        exact⟨oL,up _ _ (Ne.symm hSl) eL,rL⟩
      · by_cases e:m'=j+1
        · rw[e];exact Int.le_refl _
        · exact Int.le_trans (r1 rfl) (hbest m' (by omega))
      · exact hR m2 v2 h2 tk2 q1 q2 fun b o hbI hbS e=>q3 b o hbI hbS (up b o hbS (hk' b o (by simpa using hbI) e))
    | false=>
      simp only[Bool.false_eq_true,if_false]
      refine wpAny_bind (wpAny_letGo ?_)
      rw[hname]
      refine wpAny_pure ⟨plainId_quiet F.plain_min_loop _,ih (j+1) m _ vb c (by omega) hlt hst'.1 hst'.2 hp' hvb (by omega) (fun m' hm=>?_) hS' fun m2 v2 h2 tk2 q1 q2 q3=>?_⟩
      · by_cases e:m'=j+1
        · rw[e];exact r2 rfl
        · exact hbest m' (by omega)
      · exact hR m2 v2 h2 tk2 q1 q2 fun b o hbI hbS e=>q3 b o hbI hbS (hk' b o (by simpa using hbI) e)
theorem min_firstP{its:List Value}{cs:List Int}(hh:A.in1.handled=none)(hu:A.in1.units+1 < cLine)(hlI:l≠I)(S:Addr)(hSI:S≠I)(hSl:S≠l)(hlen:its.length=cs.length)(hIp:Value.ref I ∉ its)(hSp:Value.ref S ∉ its)(hn:0 < its.length){c:Nat}
    (hit:s.heap.IsListIter I l 0) (hl:s.heap.IsList l its.toArray) (hp:PairsAt s.heap its cs) (hS:s.heap.get? S=some { cls:=.type "list",dict:=none,data:=.seq #[] c,slots:=#[] })
    (hR:∀(m:Nat) v h' tk,its[m]? = some v→(∀m':Nat,m' < its.length→cs[m]?.getD 0≤cs[m']?.getD 0)→(∀b o,b≠I→b≠S→s.heap.get? b=some o→h'.get? b=some o)→R (.ok (.ret v)) { s with heap:=h',toks:=tk }) :
    codeAny (model prog w) A (.builtin "min.loop" ⟨[.ref I,.none,.ref S],[]⟩) R s:=by
  have W:=Walks.list (prog:=prog) (w:=w) (A:=A.in1) hh I l hlI its.toArray
  have hsz:its.toArray.size=its.length:=List.size_toArray ..
  have hname:(toString "min"++toString ".loop":String)="min.loop":=by decide
  refine codeAny_builtin F.entry_min_loop ?_
  rw[Around.under_plainId F.plain_min_loop _]
  show wpAny _ A.in1 (seqItems? (.ref S) >>= _) _ _ s
  refine wpAny_bind (wpAny_seqItems hS rfl ?_)
  show wpAny _ A.in1 (tryCatch (pyNext (.ref I)) _ >>= _) _ _ s
  refine wpAny_bind (wpAny_tryCatch (W.item 0 s _ _ (by rw[hsz];exact hn) ⟨hit,hl⟩ fun v h' tk hP hst' hk'=>?_))
  have hv:its[0]? = some v:=by simpa using hP
  have hS':=hk' S _ (by simpa using hSI) hS
  have hp':PairsAt h' its cs:=hp.keeps fun b o hb e=>hk' b o (fun z=>by
    have z:b=I:=by simpa using z
    exact hIp (z▸hb)) e
  show wpAny _ A.in1 (updateSeq S (fun _=>#[v,v]) >>= _) _ _ _
  refine wpAny_bind ?_
  refine wpAny_updateSeq hS' rfl ?_
  rw[hname]
  have up:∀b o,b≠S→h'.get? b=some o→(h'.update S (Obj.mapSeq fun _=>#[v,v])).get? b=some o:=fun b o hb e=>(Heap.get?_update_other _ _ (Ne.symm hb)).trans e
  refine wpAny_pure ⟨plainId_quiet F.plain_min_loop _,min_loopP hh hu hlI S hSI hSl hlen hIp hSp _ 0 0 _ v _ rfl hn ?_ ?_ (hp'.keeps fun b o hb e=>up b o (fun z=>hSp (z▸hb)) e) hv (Nat.le_refl _) (fun m' hm=>?_) (Heap.get?_update_self _ hS' rfl) fun m2 v2 h2 tk2 q1 q2 q3=>?_⟩
  · obtain⟨oI,eI,rI⟩:=hst'.1
    exact⟨oI,up _ _ (Ne.symm hSI) eI,rI⟩
  · obtain⟨oL,eL,rL⟩:=hst'.2
    exact⟨oL,up _ _ (Ne.symm hSl) eL,rL⟩
  · rw[show m'=0 by omega];exact Int.le_refl _
  · exact hR m2 v2 h2 tk2 q1 q2 fun b o hbI hbS e=>q3 b o hbI hbS (up b o hbS (hk' b o (by simpa using hbI) e))
end
def PairsL(H:Hp)(ps:List Addr)(cs:List Int)(xs:List V):Prop:=ps.length=cs.length∧xs.length=cs.length∧((∀x∈xs,∃i,x=.int i)∨(∀x∈xs,∃z,x=.str z))∧∀(i:Nat) a c x,ps[i]? = some a→cs[i]? = some c→xs[i]? = some x→H a=some (.tup [.int c,x])
def rMinP(K:PySem.W.Frag):List V→Hp→VK→Prop:=fun vs H Q=>∃l ps cs xs,vs=[.ref l]∧SqL K H l (ps.map V.ref)∧PairsL H ps cs xs∧ps≠[]∧∀(m:Nat) a c,ps[m]? = some a→cs[m]? = some c→(∀d∈cs,c≤d)→Q (.ref a) H
section
variable{X:Cx}
theorem vals_refsP:∀{cs:List Addr} {its:List Value},Vals (cs.map V.ref) its→its=cs.map Value.ref
  | [],_,.nil=>rfl
  | c::r,_,.cons e t=>by
    cases (show _=Value.ref c from e)
    rw[vals_refsP t];rfl
theorem call_minP(hc:X.calm=true)(hu:X.A.in1.units+64 < cLine):CallR X (.builtin "min") (rMinP X.K):=by
  intro pins s σ H vs us Q I r h
  obtain⟨l,ps,cs,xs,rfl,hq,⟨pl,xl,srt,at_⟩,ne,q⟩:=h
  obtain⟨u,rfl,ru⟩:=r.one
  cases (show u=Value.ref l from ru)
  obtain⟨its,rv,p,hz⟩:=I.list hq
  cases vals_refsP rv
  have hl:=p.isList
  have lt':l < s.heap.objs.size:=by obtain⟨o,n,e,_⟩:=p;exact Heap.lt_size e
  have hname:(toString "min"++toString ".loop":String)="min.loop":=by decide
  have low:∀(i:Nat) a,ps[i]? = some a→∃c x,cs[i]? = some c∧xs[i]? = some x∧H a=some (.tup [.int c,x]):=fun i a ha=>by
    have hi:i < ps.length:=(List.getElem?_eq_some_iff.mp ha).1
    exact⟨cs[i]'(by omega),xs[i]'(by omega),by simp,by simp,at_ i a _ _ ha (by simp) (by simp)⟩
  have small:∀b,Value.ref b∈ps.map Value.ref→b < s.heap.objs.size:=fun b hb=>by
    obtain⟨a,ha,e⟩:=List.mem_map.mp hb
    cases e
    obtain⟨i,hi,rfl⟩:=List.getElem_of_mem ha
    obtain⟨c,x,_,_,hH⟩:=low i _ (List.getElem?_eq_getElem hi)
    exact I.hok.lt hH
  have pa:PairsAt s.heap (ps.map Value.ref) cs:=by
    refine⟨ps,rfl,pl,fun i j a b ha hb=>?_⟩
    obtain⟨c,x,hc',hx,hH⟩:=low i a ha
    obtain⟨d,y,hd',hy,hH'⟩:=low j b hb
    obtain⟨_,ia,ra,⟨oa,ea,cla,na,da⟩,_⟩:=(show ObjOk X.prog X.w H s.heap a (.tup [.int c,x])from I.hok a _ hH)
    obtain⟨_,ib,rb,⟨ob,eb,clb,nb,db⟩,_⟩:=(show ObjOk X.prog X.w H s.heap b (.tup [.int d,y])from I.hok b _ hH')
    cases ra with
    | cons r1 r2=>
      cases r2 with
      | cons r3 r4=>
        cases r4
        cases rb with
        | cons r5 r6=>
          cases r6 with
          | cons r7 r8=>
            cases r8
            obtain⟨t,rfl⟩:=r1
            obtain⟨u,rfl⟩:=r5
            rw[hc',hd']
            refine⟨oa,ob,t,u,_,_,na,nb,ea,cla,da,eb,clb,db,?_⟩
            rcases srt with srt | srt
            · obtain⟨i1,rfl⟩:=srt x (List.mem_of_getElem? hx)
              obtain⟨i2,rfl⟩:=srt y (List.mem_of_getElem? hy)
              obtain⟨t1,rfl⟩:=r3
              obtain⟨t2,rfl⟩:=r7
              exact .int _ _ _ _
            · obtain⟨i1,rfl⟩:=srt x (List.mem_of_getElem? hx)
              obtain⟨i2,rfl⟩:=srt y (List.mem_of_getElem? hy)
              obtain⟨t1,rfl⟩:=r3
              obtain⟨t2,rfl⟩:=r7
              exact .str _ _ _ _
  have npos:0 < (ps.map Value.ref).length:=by rw[List.length_map];exact List.length_pos_iff.mpr ne
  refine call_function_tree F.kind_min F.plain_min F.entry_min (F.args_min1 _) ?_
  show wpAny _ X.A.in1 (Builtin.Builtins.bindParams "min" ["key","default"] 0 ⟨[],[]⟩ >>= _) _ _ s
  refine wpAny_bind (wpAny_of_eq (show Builtin.Builtins.bindParams "min" ["key","default"] 0 ⟨[],[]⟩=pure [none,none]from rfl) ?_)
  refine wpAny_bind (wpAny_pure ?_)
  refine wpAny_bind (wpAny_pyIter_list hl ?_)
  refine wpAny_bind (wpAny_newObj_type ?_)
  rw[hname]
  have hI:s.heap.objs.size < (s.heap.push { cls:=.type "list_iterator",data:=.fields #[.ref l,.int 0 0] }).objs.size:=by rw[Heap.size_push];exact Nat.lt_succ_self _
  refine wpAny_pure ⟨plainId_quiet F.plain_min_loop _,min_firstP (I:=s.heap.objs.size) (l:=l) (its:=ps.map Value.ref) (cs:=cs) (I.ok.hd hc) (by omega) (Nat.ne_of_lt lt') _ (Nat.ne_of_gt hI) (Nat.ne_of_gt (Nat.lt_trans lt' hI)) (by rw[List.length_map];exact pl) (fun z=>Nat.lt_irrefl _ (small _ z)) (fun z=>Nat.lt_irrefl _ (Nat.lt_trans hI (small _ z))) npos ⟨_,Heap.get?_push_of_some _ (Heap.get?_push_size _ rfl),rfl,rfl⟩ (Heap.IsList.push (Heap.IsList.push hl _) _) (pa.keeps fun b o _ e=>Heap.get?_push_of_some _ (Heap.get?_push_of_some _ e)) (Heap.get?_push_size _ rfl) fun m v h' tk hm best kk=>?_⟩
  have hm':(ps.map Value.ref)[m]? = some v:=hm
  rw[List.getElem?_map]at hm'
  cases ea:ps[m]? with
  | none=>rw[ea]at hm';cases hm'
  | some a=>
    rw[ea]at hm'
    cases hm'
    obtain⟨c,x,hc',hx,hH⟩:=low m a ea
    refine⟨.ref a,H,I.kept (t':=tk) fun b o e=>kk b o (Nat.ne_of_lt (Heap.lt_size e)) (Nat.ne_of_lt (Nat.lt_trans (Heap.lt_size e) hI)) (Heap.get?_push_of_some _ (Heap.get?_push_of_some _ e)),rfl,q m a c ea hc' fun d hd=>?_⟩
    obtain⟨i,hi,rfl⟩:=List.getElem_of_mem hd
    have b:=best i (by rw[List.length_map,pl];exact hi)
    rw[hc',List.getElem?_eq_getElem hi]at b
    exact b
end
end L2
namespace L2
open PySem PySem.Spec PyProof.Rows PySem.W
section
variable{X:Cx}{pins:List (Addr × Obj)}{σ:St}{H:Hp}{R:Result→Shared→Prop}{Iv l S q:Addr}{ps:List Addr}
def KeyTurn(X:Cx)(pins:List (Addr × Obj))(σ:St)(H:Hp)(q:Addr)(ps:List Addr):Prop:=
  ∀(pk:List (Addr × Obj)) (a:Addr) (s:Shared),a∈ps→Inv X (pk++pins) σ H s→wpAny (model X.prog X.w) X.A.in1 (call (.ref q) [.ref a]) (fun u s'=>∃n t,u=.int n t∧Inv X (pk++pins) σ H s') (fun _ _=>False) s
theorem Inv.two{s:Shared}{a b:Addr}{oa ob:Obj}(I:Inv X pins σ H s)(fa:FpOk X pins H a)(fb:FpOk X pins H b)(ea:s.heap.get? a=some oa)(eb:s.heap.get? b=some ob)(da:∀v,oa.data≠.cell v)(db:∀v,ob.data≠.cell v):Inv X ([(a,oa),(b,ob)]++pins) σ H s:=
  I.pins_of fun p hp=>by
    rcases List.mem_append.mp hp with hp | hp
    · rcases List.mem_cons.mp hp with rfl | hp
      · exact⟨ea,fa.1,fa.2.1,fa.2.2.1,da⟩
      · cases List.mem_singleton.mp hp
        exact⟨eb,fb.1,fb.2.1,fb.2.2.1,db⟩
    · exact I.pin p (List.mem_append_right _ hp)
theorem Inv.unpin{s:Shared}{pk:List (Addr × Obj)}(I:Inv X (pk++pins) σ H s):Inv X pins σ H s:=I.pins_of fun p hp=>I.pin p (List.mem_append_right _ (List.mem_append_right _ hp))
theorem list_at{s:Shared}(I:Inv X pins σ H s)(hq:SqL X.K H l (ps.map V.ref)):s.heap.IsList l (ps.map Value.ref).toArray:=by
  obtain⟨its,rv,p,_⟩:=I.list hq
  cases vals_refsP rv
  exact p.isList
theorem mink_loop(hc:X.calm=true)(hq:SqL X.K H l (ps.map V.ref))(hlI:l≠Iv)(hSI:S≠Iv)(fI:FpOk X pins H Iv)(fS:FpOk X pins H S)(turn:KeyTurn X pins σ H q ps)
    (hR:∀a∈ps,∀s',Inv X pins σ H s'→R (.ok (.ret (.ref a))) s') :
    ∀(k j:Nat) (s:Shared) (a:Addr) (kb:Int) (tb:Tok) (c:Nat),ps.length - (j+1)=k→j+1≤ps.length→Inv X pins σ H s→s.heap.IsListIter Iv l (j+1)→s.heap.get? S=some (seqObj "list" #[.ref a,.int kb tb] c)→a∈ps→
      codeAny (model X.prog X.w) X.A (.builtin "min.loop" ⟨[.ref Iv,.ref q,.ref S],[]⟩) R s:=by
  have hname:(toString "min"++toString ".loop":String)="min.loop":=by decide
  have hsz:(ps.map Value.ref).toArray.size=ps.length:=by rw[List.size_toArray,List.length_map]
  obtain⟨i0,i1,i2,i3,i4,i5⟩:=id fI
  obtain⟨s0,s1,s2,s3,s4,s5⟩:=id fS
  intro k
  induction k with
  | zero=>
    intro j s a kb tb c hk hj I hit hS ha
    have W:=Walks.list (prog:=X.prog) (w:=X.w) (A:=X.A.in1) (I.ok.hd hc) Iv l hlI (ps.map Value.ref).toArray
    refine codeAny_builtin PySem.F.entry_min_loop ?_
    rw[Around.under_plainId PySem.F.plain_min_loop _]
    show wpAny _ X.A.in1 (seqItems? (.ref S) >>= _) _ _ _
    refine wpAny_bind (wpAny_seqItems hS rfl ?_)
    show wpAny _ X.A.in1 (tryCatch (pyNext (.ref Iv)) _ >>= _) _ _ _
    refine wpAny_bind (wpAny_tryCatch (W.done _ _ _ ⟨by rw[hsz,show ps.length=j+1 by omega];exact hit,list_at I hq⟩ fun h' tk' hk'=>?_))
    have I1:Inv X pins σ H { s with heap:=h',toks:=tk' }:=I.turned (fun b o hb e=>hk' b o (by simpa using hb) e) i0 i1 i3 i4 i5
    have hS':=hk' S _ (by simpa using hSI) hS
    show wpAny _ X.A.in1 (updateSeq S (fun _=>(#[]:Array Value)) >>= _) _ _ _
    refine wpAny_bind ?_
    refine wpAny_updateSeq hS' rfl (wpAny_bind (wpAny_letGo (wpAny_pure ?_)))
    exact hR a ha _ (I1.turned (t':=tk') (fun b o hb e=>(Heap.get?_update_other _ _ (Ne.symm hb)).trans e) s0 s1 s3 s4 s5)
  | succ k ih=>
    intro j s a kb tb c hk hj I hit hS ha
    have hlt:j+1 < ps.length:=by omega
    have W:=Walks.list (prog:=X.prog) (w:=X.w) (A:=X.A.in1) (I.ok.hd hc) Iv l hlI (ps.map Value.ref).toArray
    refine codeAny_builtin PySem.F.entry_min_loop ?_
    rw[Around.under_plainId PySem.F.plain_min_loop _]
    show wpAny _ X.A.in1 (seqItems? (.ref S) >>= _) _ _ _
    refine wpAny_bind (wpAny_seqItems hS rfl ?_)
    show wpAny _ X.A.in1 (tryCatch (pyNext (.ref Iv)) _ >>= _) _ _ _
    refine wpAny_bind (wpAny_tryCatch (W.item (j+1) _ _ _ (by rw[hsz];exact hlt) ⟨hit,list_at I hq⟩ fun v h' tk' hP hst' hk'=>?_))
    have I1:Inv X pins σ H { s with heap:=h',toks:=tk' }:=I.turned (fun b o hb e=>hk' b o (by simpa using hb) e) i0 i1 i3 i4 i5
    have hS':=hk' S _ (by simpa using hSI) hS
    obtain⟨b,hb,rfl⟩:∃b,b∈ps∧v=.ref b:=by
      have hv:(ps.map Value.ref)[j+1]? = some v:=by simpa using hP
      obtain⟨b,hb,e⟩:=List.mem_map.mp (List.mem_of_getElem? hv)
      exact⟨b,hb,e.symm⟩
    obtain⟨oI',hoI',hoc,hod⟩:=id hst'.1
    have I2:=I1.two fI fS hoI' hS' (fun v z=>by rw[hod]at z;cases z) (fun v z=>nomatch z)
    show wpAny _ X.A.in1 (tryCatch (holding [.ref b] (call (.ref q) [.ref b])) _ >>= _) _ _ _
    refine wpAny_bind (wpAny_tryCatch (wpAny_holding (wpAny_mono (turn _ b _ hb I2) (fun x s3' he=>?_) fun _ _ hF=>hF.elim)))
    obtain⟨n,t2,rfl,I3⟩:=he
    have pI:=(I3.pin (Iv,oI') (List.mem_append_right _ (List.mem_append_left _ (.head _)))).1
    have pS:=(I3.pin (S,seqObj "list" #[.ref a,.int kb tb] c) (List.mem_append_right _ (List.mem_append_left _ (.tail _ (.head _))))).1
    have I4:=I3.unpin
    have hit4:s3'.heap.IsListIter Iv l (j+1+1):=⟨oI',pI,hoc,hod⟩
    show wpAny _ X.A.in1 (tryCatch (holding [.ref b,.int n t2] (richCompare .Lt (.int n t2) (.int kb tb) >>= _)) _ >>= _) _ _ _
    refine wpAny_bind (wpAny_tryCatch (wpAny_holding (wpAny_bind (int_ltR ?_))))
    refine wpAny_bind (wpAny_holding (wpAny_truthy_bool ?_))
    refine wpAny_bind (wpAny_letGo (wpAny_pure ?_))
    by_cases hb':n < kb
    · obtain⟨c2,hc2⟩:∃c2,(s3'.heap.update S (Obj.mapSeq fun _=>#[.ref b,.int n t2])).get? S=some (seqObj "list" #[.ref b,.int n t2] c2):=⟨_,get?_update_seq pS fun _=>#[.ref b,.int n t2]⟩
      simp only[hb',decide_true,if_true]
      refine wpAny_bind ?_
      refine wpAny_updateSeq pS rfl (wpAny_bind (wpAny_letGo ?_))
      rw[hname]
      have up:∀x o,x≠S→s3'.heap.get? x=some o→(s3'.heap.update S (Obj.mapSeq fun _=>#[.ref b,.int n t2])).get? x=some o:=fun x o hx e=>(Heap.get?_update_other _ _ (Ne.symm hx)).trans e
      exact wpAny_pure ⟨plainId_quiet PySem.F.plain_min_loop _,ih (j+1) _ b n t2 c2 (by omega) hlt (I4.turned (t':=s3'.toks) (fun x o hx e=>up x o hx e) s0 s1 s3 s4 s5) ⟨oI',up _ _ (Ne.symm hSI) pI,hoc,hod⟩ hc2 hb⟩
    · simp only[hb',decide_false,Bool.false_eq_true,if_false]
      refine wpAny_bind (wpAny_letGo ?_)
      rw[hname]
      exact wpAny_pure ⟨plainId_quiet PySem.F.plain_min_loop _,ih (j+1) _ a kb tb c (by omega) hlt I4 hit4 pS ha⟩
theorem call_minK{s:Shared}{Q:Value→Shared→Prop}{E:Value→Shared→Prop}(hc:X.calm=true)(I:Inv X pins σ H s)(hq:SqL X.K H l (ps.map V.ref))(ne:ps≠[])(turn:KeyTurn X pins σ H q ps)
    (hQ:∀a∈ps,∀s',Inv X pins σ H s'→Q (.ref a) s'):wpAny (model X.prog X.w) X.A (call (.builtin "min") [.ref l] [(Str.ofString "key",.ref q)]) Q E s:=by
  have hname:(toString "min"++toString ".loop":String)="min.loop":=by decide
  have hls:=list_at I hq
  have lt':l < s.heap.objs.size:=by obtain⟨o,e,_⟩:=hls;exact Heap.lt_size e
  have npos:0 < ps.length:=List.length_pos_iff.mpr ne
  refine kmk_tree PySem.F.kind_min PySem.F.plain_min PySem.F.entry_min (kmk_min_key _ _) ?_
  show wpAny _ X.A.in1 (Builtin.Builtins.bindParams "min" ["key","default"] 0 ⟨[],[(Str.ofString "key",.ref q)]⟩ >>= _) _ _ s
  refine wpAny_bind (wpAny_of_eq (show Builtin.Builtins.bindParams "min" ["key","default"] 0 ⟨[],[(Str.ofString "key",.ref q)]⟩=pure [some (.ref q),none]from rfl) ?_)
  refine wpAny_bind (wpAny_pure ?_)
  refine wpAny_bind (wpAny_pyIter_list hls ?_)
  refine wpAny_bind (wpAny_newList ?_ (Nat.zero_le _))
  rw[hname]
  have hI:s.heap.objs.size < (s.heap.push { cls:=.type "list_iterator",data:=.fields #[.ref l,.int 0 0] }).objs.size:=by rw[Heap.size_push];exact Nat.lt_succ_self _
  refine wpAny_pure ⟨plainId_quiet PySem.F.plain_min_loop _,?_⟩
  have fI:FpOk X pins H s.heap.objs.size:=I.fpOk (Nat.le_refl _) (I.hok.fresh (Nat.le_refl _))
  have fS:FpOk X pins H (s.heap.push { cls:=.type "list_iterator",data:=.fields #[.ref l,.int 0 0] }).objs.size:=I.fpOk (Nat.le_of_lt hI) (I.hok.fresh (Nat.le_of_lt hI))
  have hSI:(s.heap.push { cls:=.type "list_iterator",data:=.fields #[.ref l,.int 0 0] }).objs.size≠s.heap.objs.size:=Nat.ne_of_gt hI
  have I0:Inv X pins σ H { s with heap:=(s.heap.push { cls:=.type "list_iterator",data:=.fields #[.ref l,.int 0 0] }).push (seqObj "list" #[] 0) }:=I.kept (t':=s.toks) fun b o e=>Heap.get?_push_of_some _ (Heap.get?_push_of_some _ e)
  have hit0:((s.heap.push { cls:=.type "list_iterator",data:=.fields #[.ref l,.int 0 0] }).push (seqObj "list" #[] 0)).IsListIter s.heap.objs.size l 0:=⟨_,Heap.get?_push_of_some _ (Heap.get?_push_size _ rfl),rfl,rfl⟩
  have hS0:((s.heap.push { cls:=.type "list_iterator",data:=.fields #[.ref l,.int 0 0] }).push (seqObj "list" #[] 0)).get? (s.heap.push { cls:=.type "list_iterator",data:=.fields #[.ref l,.int 0 0] }).objs.size=some (seqObj "list" #[] 0):=Heap.get?_push_size _ rfl
  revert fS hSI hS0 I0 hit0
  generalize (s.heap.push { cls:=.type "list_iterator",data:=.fields #[.ref l,.int 0 0] }).push (seqObj "list" #[] 0)=h0
  generalize (s.heap.push { cls:=.type "list_iterator",data:=.fields #[.ref l,.int 0 0] }).objs.size=S
  revert fI
  have hlI:l≠s.heap.objs.size:=Nat.ne_of_lt lt'
  revert hlI
  generalize s.heap.objs.size=Iv
  intro hlI fI fS hSI I0 hit0 hS0
  obtain⟨i0,i1,i2,i3,i4,i5⟩:=id fI
  obtain⟨s0,s1,s2,s3,s4,s5⟩:=id fS
  have hsz:(ps.map Value.ref).toArray.size=ps.length:=by rw[List.size_toArray,List.length_map]
  have W:=Walks.list (prog:=X.prog) (w:=X.w) (A:=X.A.in1) (I.ok.hd hc) Iv l hlI (ps.map Value.ref).toArray
  refine codeAny_builtin PySem.F.entry_min_loop ?_
  rw[Around.under_plainId PySem.F.plain_min_loop _]
  show wpAny _ X.A.in1 (seqItems? (.ref S) >>= _) _ _ _
  refine wpAny_bind (wpAny_seqItems hS0 rfl ?_)
  show wpAny _ X.A.in1 (tryCatch (pyNext (.ref Iv)) _ >>= _) _ _ _
  refine wpAny_bind (wpAny_tryCatch (W.item 0 _ _ _ (by rw[hsz];exact npos) ⟨hit0,list_at I0 hq⟩ fun v h' tk' hP hst' hk'=>?_))
  have I1:=I0.turned (t':=tk') (h':=h') (fun b o hb e=>hk' b o (by simpa using hb) e) i0 i1 i3 i4 i5
  have hS':=hk' S _ (by simpa using hSI) hS0
  obtain⟨b,hb,rfl⟩:∃b,b∈ps∧v=.ref b:=by
    have hv:(ps.map Value.ref)[0]? = some v:=by simpa using hP
    obtain⟨b,hb,e⟩:=List.mem_map.mp (List.mem_of_getElem? hv)
    exact⟨b,hb,e.symm⟩
  obtain⟨oI',hoI',hoc,hod⟩:=id hst'.1
  have I2:=I1.two fI fS hoI' hS' (fun v z=>by rw[hod]at z;cases z) (fun v z=>nomatch z)
  show wpAny _ X.A.in1 (tryCatch (holding [.ref b] (call (.ref q) [.ref b])) _ >>= _) _ _ _
  refine wpAny_bind (wpAny_tryCatch (wpAny_holding (wpAny_mono (turn _ b _ hb I2) (fun x s3' he=>?_) fun _ _ hF=>hF.elim)))
  obtain⟨n,t2,rfl,I3⟩:=he
  have pI:=(I3.pin (Iv,oI') (List.mem_append_right _ (List.mem_append_left _ (.head _)))).1
  have pS:=(I3.pin (S,seqObj "list" #[] 0) (List.mem_append_right _ (List.mem_append_left _ (.tail _ (.head _))))).1
  have I4:=I3.unpin
  obtain⟨c2,hc2⟩:∃c2,(s3'.heap.update S (Obj.mapSeq fun _=>#[.ref b,.int n t2])).get? S=some (seqObj "list" #[.ref b,.int n t2] c2):=⟨_,get?_update_seq pS fun _=>#[.ref b,.int n t2]⟩
  show wpAny _ X.A.in1 (updateSeq S (fun _=>#[.ref b,.int n t2]) >>= _) _ _ _
  refine wpAny_bind ?_
  refine wpAny_updateSeq pS rfl ?_
  rw[hname]
  have up:∀x o,x≠S→s3'.heap.get? x=some o→(s3'.heap.update S (Obj.mapSeq fun _=>#[.ref b,.int n t2])).get? x=some o:=fun x o hx e=>(Heap.get?_update_other _ _ (Ne.symm hx)).trans e
  exact wpAny_pure ⟨plainId_quiet PySem.F.plain_min_loop _,mink_loop hc hq hlI hSI fI fS turn (fun a ha s' I'=>hQ a ha s' I') _ 0 _ b n t2 c2 rfl npos (I4.turned (t':=s3'.toks) (fun x o hx e=>up x o hx e) s0 s1 s3 s4 s5) ⟨oI',up _ _ (Ne.symm hSI) pI,hoc,hod⟩ hc2 hb⟩
end
theorem clo_none{cells:List (Str × Addr)}:∀{names:List (Str × NameKind)} {cs:List (Str × Addr)},(∀y∈names,y.2≠.free)→cloOf cells names cs=cs
  | [],_,_=>rfl
  | (n,k)::r,cs,h=>by
    have hk:(k == NameKind.free)=false:=by simpa using h (n,k) List.mem_cons_self
    unfold cloOf
    rw[hk]
    exact clo_none fun y hy=>h y (List.mem_cons_of_mem _ hy)
theorem lam_run{P:Program}{w:World}{K:PySem.W.Frag}{mg:Str→Option Value}{base:Heap}{k:Nat}{f c':Addr}{name qual pn:Str}{params:Arguments}{body:Expr}{scope:Scope}{pm ctv:Value}{A:Around}{outer:List Env}{s:Shared}{H:Hp}{v:V}{u:Value}{tb:TE}{Q:VK}
    (Sc:FnScope [pn] [pn] scope) (hbody:PE (cxOf CX0 P w K mg base [pn] qual scope f (.ref c') A outer s H E0).nox body tb)
    (hbind:bindArgs (kla_fn name qual params body scope [] pm (.ref c') ctv) ⟨[u],[]⟩=pure [(pn,u)])
    (hr:Room (k+1) A) (e0:Env0 P w K mg base A outer s H) (ho:s.heap.get? f=some (kla_obj name qual params body scope [] pm c' ctv)) (hcd:s.heap.CodeRec (.ref c') qual) (rv:RelV v u) (q:tb [some v] H Q) :
    codeAny (model P w) A (.call (.ref f) ⟨[u],[]⟩) (CR CX0 outer P w H s Q E0) s:=by
  have lim:s.heap.NoLimit:=e0.mod.nolimit.keeps fun b o e=>(e0.bs b o e).1
  have hkind:∀y∈([pn]:List Str).zip [u],scope.names.lookup y.1=some .local∨(scope.names.lookup y.1=some .cell∧((cellsFrom (s.heap.objs.size+1) scope.names []).lookup y.1).isSome=true):=fun⟨n,v⟩ hy=>by
    rcases Sc.par n (List.of_mem_zip hy).1 with q | q
    · exact .inl q
    · exact .inr ⟨q,PySem.W.cellsFrom_some _ _ _ (.inl q)⟩
  refine kla_callFunE hr.depth ho rfl Sc.co Sc.gen rfl hcd (BindsTo.of_eq (s:=s) hbind _ _ _ _ ?_)
  refine wpAny_newFunctionEnv_cells Sc.kind hkind fun env he s1 x=>?_
  subst he
  refine⟨lim.keeps x.toInCall.keep,kla_codeExpr ?_⟩
  have I:Inv (cxOf CX0 P w K mg base [pn] qual scope f (.ref c') A outer s H E0) [] (start [pn] [v]) H s1:=inv_start Sc hr.hd e0 rfl (.cons rv .nil) x
  refine wpAny_mono (hbody [] s1 (start [pn] [v]) H _ (I.wish _) q) (fun z s' hs=>?_) fun e s' hs=>False.elim hs
  obtain⟨v',H',J,rv',q'⟩:=hs
  exact⟨v',H',J.os,J.bare,J.base,J.hok,rv',q'⟩
section
variable{X:Cx}
def tMinK(K:PySem.W.Frag)(P:Addr)(lpos:Pos)(ta:TA)(tb:TE):TE:=fun σ H Q=>ta σ H fun vs H1=>∃l ps tps,vs=[.ref l]∧SqL K H1 l (ps.map V.ref)∧ps≠[]∧H1 P=some (.tbl tps)∧TriplesOk tps.toList∧codeAmong lpos tps.toList=none∧
  ∀qs,(SqL K (upd H1 P (.tbl (tps++qs))) l (ps.map V.ref)∧∀a∈ps,tb [some (.ref a)] (upd H1 P (.tbl (tps++qs))) fun v H'=>(∃n:Int,v=.int n)∧H'=upd H1 P (.tbl (tps++qs)))∧∀a∈ps,Q (.ref a) (upd H1 P (.tbl (tps++qs)))
theorem pe_minK{c P:Addr}{k:Nat}{pn:Str}{p pos lpos kpos:Pos}{e body:Expr}{params:Arguments}{scope:Scope}{ta:TA}{tb:TE}(hc:X.calm=true)(hr:Room (k+2) X.A)(tb':Tb X.mg X.base c P)(hcode:X.env.code=.ref c)
    (hg:Gl X "min") (hm:X.mg "min"=none) (ha:PA X [e] ta) (hd0:params.defaults=[]) (hk0:params.kw_defaults=[]) (Sc:FnScope [pn] [pn] scope)
    (hbody:∀f c' A outer s H,PE (cxOf CX0 X.prog X.w X.K X.mg X.base [pn] (X.env.qual++"<lambda>") scope f (.ref c') A outer s H E0).nox body tb)
    (hbind:∀pm c' ctv u,bindArgs (kla_fn "<lambda>" (X.env.qual++"<lambda>") params body scope [] pm (.ref c') ctv) ⟨[u],[]⟩=pure [(pn,u)])
    (hst:backTo pos (starEach [e] X.env)=(false,eval e X.env)::backTo pos (starEach [] X.env):=by rfl) (hpl:(backTo pos (starEach [e] X.env)).any (·.1)=false:=by rfl) :
    PE X (.Call (.Name "min" p) [e] [⟨some "key",.Lambda params body scope lpos,kpos⟩] pos) (tMinK X.K P lpos ta tb):=by
  intro pins s σ H Q I h
  refine wpAny_Call_Name_kw (ld_blt I hg hm (show bootBuiltins "min"=some (.builtin "min") by decide +kernel) ?_)
  refine callWith_kw (thn (ha pos pins s σ H _ I h) fun us s1 ⟨vs,H1,I1,r1,q1⟩=>?_) hst hpl
  obtain⟨l,ps,tps,rfl,hl,ne,hP,ht,hnf,q⟩:=q1
  obtain⟨u,rfl,ru⟩:=r1.one
  cases (show u=Value.ref l from ru)
  show wpAny _ _ (evalAll [(eval (.Lambda params body scope lpos) X.env >>= fun v=>(standAt pos >>= fun _=>pure v))]) _ _ _
  unfold evalAll
  refine wpAny_bind (wpAny_bind ?_)
  rw[arm_eval_Lambda,defaultsOf_eq,hd0,hk0]
  refine wpAny_bind (wpAny_pure ?_)
  refine wpAny_bind (wpAny_holding (wpAny_pure ?_))
  have hcl:closureFor scope X.env=pure []:=by
    rw[clo_closure (env:=X.env) (scope:=scope) fun n hn=>absurd rfl (Sc.nofree _ hn),clo_none Sc.nofree]
  have tbh:=tb'.keeps I1.bk
  have hPo:s1.heap.get? P=some (tabObj tps):=I1.hok P _ hP
  refine kla_makeFunction (mg:=X.mg) hcl I1.ok.glob (I1.mod.glob.keeps I1.bk) hcode tbh.cd hPo ht hnf tbh.gl tbh.bl fun c' ctv h' tk hx' hge hlt hrec htb=>?_
  obtain⟨⟨hl',ht'⟩,qQ⟩:=q #[rawInt lpos.line,rawInt lpos.col,.ref c']
  have e:(h'.push (kla_obj "<lambda>" (X.env.qual++"<lambda>") params body scope [] ((X.mg "__name__").getD .none) c' ctv)).get? P=some (tabObj (tps++#[rawInt lpos.line,rawInt lpos.col,.ref c'])):=Heap.get?_push_of_some _ htb
  have I2:=I1.un (t':=tk) (Un.tab (fs:=X.fs) (ex:=[]) hP (ext_push hx') e) (I1.hok.tab hP (ext_push hx') e)
  refine wpAny_bind (wpAny_standAt (wpAny_pure ?_))
  refine wpAny_bind (wpAny_holding (wpAny_pure (wpAny_pure ?_)))
  show wpAny _ _ (call (.builtin "min") [.ref l] [(Str.ofString "key",.ref h'.objs.size)]) _ _ _
  have hs1:s1.heap.objs.size≤h'.objs.size:=Nat.le_of_lt (Nat.lt_of_le_of_lt hge hlt)
  have gf:(h'.push (kla_obj "<lambda>" (X.env.qual++"<lambda>") params body scope [] ((X.mg "__name__").getD .none) c' ctv)).get? h'.objs.size=some (kla_obj "<lambda>" (X.env.qual++"<lambda>") params body scope [] ((X.mg "__name__").getD .none) c' ctv):=Heap.get?_push_size _ rfl
  obtain⟨c2,oc,ws,tq,ec,eoc,edc,eq1⟩:=id hrec
  cases ec
  have goc:=Heap.get?_push_of_some (kla_obj "<lambda>" (X.env.qual++"<lambda>") params body scope [] ((X.mg "__name__").getD .none) c' ctv) eoc
  have pP:P < s1.heap.objs.size:=Heap.lt_size hPo
  have nf:upd H1 P (.tbl (tps++#[rawInt lpos.line,rawInt lpos.col,.ref c'])) h'.objs.size=none:=by
    rw[upd_ne (Nat.ne_of_gt (Nat.lt_of_lt_of_le pP hs1))];exact I1.hok.fresh hs1
  have nc:upd H1 P (.tbl (tps++#[rawInt lpos.line,rawInt lpos.col,.ref c'])) c'=none:=by
    rw[upd_ne (Nat.ne_of_gt (Nat.lt_of_lt_of_le pP hge))];exact I1.hok.fresh hge
  have ff:=I1.fpOk (H':=upd H1 P (.tbl (tps++#[rawInt lpos.line,rawInt lpos.col,.ref c']))) hs1 nf
  have fc:=I1.fpOk (H':=upd H1 P (.tbl (tps++#[rawInt lpos.line,rawInt lpos.col,.ref c']))) hge nc
  have I3:=I2.two ff fc gf goc (fun v z=>nomatch z) (fun v z=>by rw[edc]at z;cases z)
  refine call_minK hc I3 hl' ne (fun pk a s4 ha4 I4=>?_) fun a ha4 s4 I4=>⟨V.ref a,_,I4.unpin,rfl,qQ a ha4⟩
  have pf:=(I4.pin (h'.objs.size,kla_obj "<lambda>" (X.env.qual++"<lambda>") params body scope [] ((X.mg "__name__").getD .none) c' ctv) (List.mem_append_right _ (List.mem_append_right _ (List.mem_append_left _ (.head _))))).1
  have pc:=(I4.pin (c',oc) (List.mem_append_right _ (List.mem_append_right _ (List.mem_append_left _ (.tail _ (.head _)))))).1
  refine wpAny_call (codeAny_mono (lam_run (k:=k) (f:=h'.objs.size) (c':=c') (A:=X.A.in1) (outer:=X.stack) (s:=s4) (v:=.ref a) Sc (hbody _ _ _ _ _ _) (hbind _ _ _ _) hr.in1 I4.env0.in1 pf ⟨c',oc,ws,tq,rfl,pc,edc,eq1⟩ rfl (ht' a ha4)) fun r s5 hq=>?_)
  cases r with
  | error e=>exact False.elim hq
  | ok fl=>
    cases fl with
    | ret u=>
      obtain⟨v',H',I5,rv',⟨n,rfl⟩,rfl⟩:=I4.after hq
      obtain⟨t,rfl⟩:=(show ∃t,u=Value.int n t from rv')
      exact⟨n,t,rfl,I5⟩
    | next=>exact False.elim hq
    | brk=>exact False.elim hq
    | cont=>exact False.elim hq
end
end L2
namespace L2
open PySem PySem.Spec PyProof.Rows PySem.W
theorem is_kV{P:Program}{w:World}{k:Key}{u:Value}(h:(mixKind P w).is k u=true):RelV (kV k) u:=by
  rcases keyIs_shape h with ⟨i,t,rfl,rfl⟩ | ⟨x,t,rfl,rfl⟩
  · exact⟨t,rfl⟩
  · exact⟨t,rfl⟩
section
variable{X:Cx}{pins:List (Addr × Obj)}{σ:St}{H:Hp}{s:Shared}{a:Addr}{kvs:List (Key × V)}
theorem Inv.freeze(I:Inv X pins σ H s)(e:H a=some (.dK kvs)):∃o,s.heap.get? a=some o∧Inv X pins σ (upd H a (.frz o (.dK kvs))) s:=by
  have ok:=I.hok a _ e
  obtain⟨z,y,vs,r,o,es,ep,ho,c⟩:=id ok
  have ne:∀{b:Addr} {u:HO},H b=some u→(∀k,u≠.dK k)→b≠a:=fun hb hu z=>by rw[z,e]at hb;exact hu _ (Option.some.inj hb).symm
  have un:Un X.fs [] H (upd H a (.frz o (.dK kvs))) s.heap s.heap:={
    keep:=fun _ _ q _ _ _=>q
    slot:=fun b ob q _ _ _=>⟨ob.slots,q⟩
    free:=fun b ob _ n _=>by rw[upd_ne (fun z=>by rw[z,e]at n;cases n)];exact n
    there:=fun b ob q _=>⟨ob,q⟩
    tups:=fun b xs q=>by rw[upd_ne (ne q fun _=>nofun)];exact q
    frzs:=fun b ob u q=>by rw[upd_ne (ne q fun _=>nofun)];exact q
    tbls:=fun b ps q=>⟨#[],by rw[upd_ne (ne q fun _=>nofun),q];simp⟩ }
  have hok:HOk X.prog X.w (upd H a (.frz o (.dK kvs))) s.heap:=fun b u q=>by
    by_cases hb:b=a
    · subst hb;rw[upd_same]at q;cases q
      exact⟨ho,ok⟩
    · rw[upd_ne hb]at q
      exact(I.hok b u q).stay (fun _ _ _ z=>z) (fun c z=>by rw[upd_ne (ne z fun _=>nofun)];exact z) fun c xs z=>by rw[upd_ne (ne z fun _=>nofun)];exact z
  exact⟨o,ho,I.un (t':=s.toks) un hok⟩
end
def Itd(d:Addr)(o:Obj)(kvs:List (Key × V)):It where
  go:=fun i H=>i < kvs.length∧H d=some (.frz o (.dK kvs))
  yld:=fun i H x H'=>H'=H∧∃p,kvs[i]? = some p∧x=kV p.1
  stop:=fun i H=>kvs.length≤i∧H d=some (.frz o (.dK kvs))
theorem KV.at{κ:Type}{kvs:List (κ × V)}{vs:List (κ × Value)}(r:KV kvs vs){i:Nat}{p:κ × V}(h:kvs[i]? = some p):∃v,vs[i]? = some (p.1,v):=by
  induction r generalizing i with
  | nil=>cases h
  | cons e _ ih=>
    cases i with
    | zero=>cases h;exact⟨_,by rw[List.getElem?_cons_zero];exact congrArg some (Prod.ext e.1.symm rfl)⟩
    | succ i=>exact ih h
theorem turn_dict{P:Program}{w:World}{K:PySem.W.Frag}{tg:Expr}{d it:Addr}{o:Obj}{kvs:List (Key × V)}{vs:List (Key × Value)}{ep:Nat}(rel:KV kvs vs)(ha:KdkAt (mixKind P w) o vs ep):Turn P w K tg (Itd d o kvs) [it] it (fun i h=>h.IsKeyIter it d i vs.length ep)where
  mem:=by simp
  obj:=fun i h st b hb=>by
    have e:b=it:=by simpa using hb
    subst e
    obtain⟨o,e,c,d⟩:=st
    exact⟨o,e,fun v z=>by rw[d]at z;cases z⟩
  keep:=fun i h h' st k=>st.at fun o e=>k it (by simp) o e
  item:=by
    intro X hP hw hK hc i pins s σ H E I hf st hg
    subst hP hw hK
    obtain⟨hi,hd⟩:=hg
    obtain⟨ho,_⟩:=(show ObjOk X.prog X.w H s.heap d (.frz o (.dK kvs))from I.hok d _ hd)
    obtain⟨p,hp⟩:∃p,kvs[i]? = some p:=⟨kvs[i],by simp[hi]⟩
    obtain⟨v,hv⟩:=rel.at hp
    obtain⟨f0,f1,f2,f3,f4,f5⟩:=hf it (by simp)
    refine wpAny_pyNext_dict_item st (ha.dictAt ho) hv fun key h' hkey st' hs'=>?_
    have I1:Inv X pins σ H { s with heap:=h' }:=I.turned (t':=s.toks) (fun b o hb e=>hs'.extBut b o hb e) f0 f1 f3 f4 f5
    obtain⟨oi,ei,ci,di⟩:=id st'
    exact⟨key,rfl,go_of (s:={ s with heap:=h' }) ei ci di (by decide) ⟨_,H,I1,is_kV hkey,⟨rfl,p,hp,rfl⟩,st',fun b hb=>(hf b hb).1⟩⟩
  done:=by
    intro X hP hw hK hc i pins s σ H E I hf st hg
    subst hP hw hK
    obtain⟨hi,hd⟩:=hg
    obtain⟨ho,_⟩:=(show ObjOk X.prog X.w H s.heap d (.frz o (.dK kvs))from I.hok d _ hd)
    obtain⟨f0,f1,f2,f3,f4,f5⟩:=hf it (by simp)
    exact wpAny_pyNext_dict_end (I.ok.hd hc) st (ha.dictAt ho) (List.getElem?_eq_none (by rw[← rel.length];exact hi)) fun h' eb=>⟨rfl,I.turned (t':=s.toks) (fun b o hb e=>eb b o hb e) f0 f1 f3 f4 f5⟩
  self:=fun _ _ _ _ _ st h=>wpAny_pyIter_keyiter st h
section
variable{X:Cx}{tg:Expr}
def iDict(td:TE):TI:=fun σ H R=>td σ H fun x H1=>∃a kvs,x=.ref a∧H1 a=some (.dK kvs)∧∀o,R (Itd a o kvs) (upd H1 a (.frz o (.dK kvs)))
theorem pi_dict{l:Expr}{td:TE}(hl:PE X l td):PI X tg l (iDict td):=by
  intro pins s σ H R I h
  refine thn (hl pins s σ H _ I h) fun v s1 ⟨x,H1,I1,r1,q1⟩=>?_
  obtain⟨a,kvs,e,hq,q⟩:=q1
  subst e
  cases (show v=Value.ref a from r1)
  obtain⟨o,ho,I2⟩:=I1.freeze hq
  obtain⟨z,y,vs,r,o',es,ep,ho',c⟩:=(show ObjOk X.prog X.w H1 s1.heap a (.dK kvs)from I1.hok a _ hq)
  rw[ho]at ho';cases ho'
  have ha:KdkAt (mixKind X.prog X.w) o vs ep:=⟨es,c⟩
  refine wpAny_pyIter_dict y (ha.dictAt ho) ?_
  refine⟨s1.heap.objs.size,[s1.heap.objs.size],_,_,_,rfl,I2.kept (t':=s1.toks) fun b o e=>Heap.get?_push_of_some _ e,turn_dict r ha,⟨_,Heap.get?_push_size _ rfl,rfl,rfl⟩,fun b hb=>?_,q o⟩
  have e:b=s1.heap.objs.size:=by simpa using hb
  subst e
  exact I2.fpOk (Nat.le_refl _) (I2.hok.fresh (Nat.le_refl _))
end
section
variable{X:Cx}
theorem boot_dict:bootBuiltins "dict"=some (.type "dict"):=by decide +kernel
def rDCopy:List V→Hp→VK→Prop:=fun xs H Q=>∃a kvs,xs=[.ref a]∧Rd H a (.dK kvs)∧∀p,H p=none→Q (.ref p) (upd H p (.dK kvs))
theorem call_dcopy:CallR X (.type "dict") rDCopy:=by
  intro pins s σ H xs us Q I r h
  obtain⟨a,kvs,rfl,hd,q⟩:=h
  obtain⟨u,rfl,ru⟩:=r.one
  cases (show u=Value.ref a from ru)
  exact d_copyOf I hd fun p s' hp I'=>⟨V.ref p,_,I',rfl,q p hp⟩
end
structure M0(X:Cx)(o:Expr)(m:Str)(apos cpos:Pos):Prop where
  base:attributeBase o m X.env (eval o X.env)=eval o X.env
  few:((backTo cpos (starEach [] X.env)).all (fun x=>!x.1) && (backToKw cpos (keywordEach [] X.env)).all (fun x=>x.1.isSome)
    && decide (([]:List Expr).length+([]:List Keyword).length+(if([]:List Keyword).isEmpty then 0 else 1) < 30))=true
  line:(apos.endLine == cpos.line)=true
end L2
namespace Mine
theorem nodup_sub{α:Type} [DecidableEq α]:∀(p u:List α),p.Nodup→(∀x∈p,x∈u)→p.length≤u.length
  | [],_,_,_=>Nat.zero_le _
  | x::p,u,h,s=>by
    obtain⟨hx,hp⟩:=List.nodup_cons.mp h
    have xu:=s x List.mem_cons_self
    have ih:=nodup_sub p (u.erase x) hp fun y hy=>(List.mem_erase_of_ne (fun e:y=x=>hx (by rw[← e];exact hy))).mpr (s y (List.mem_cons_of_mem _ hy))
    rw[List.length_erase_of_mem xu]at ih
    have:0 < u.length:=List.length_pos_of_mem xu
    rw[List.length_cons];omega
theorem dup_split{α:Type} [DecidableEq α]:∀(p:List α),¬p.Nodup→∃a x b c,p=a++x::(b++x::c)
  | [],h=>absurd List.nodup_nil h
  | y::p,h=>by
    by_cases hy:y∈p
    · obtain⟨b,c,rfl⟩:=List.append_of_mem hy
      exact⟨[],y,b,c,rfl⟩
    · obtain⟨a,x,b,c,rfl⟩:=dup_split p fun q=>h (List.nodup_cons.mpr ⟨hy,q⟩)
      exact⟨y::a,x,b,c,rfl⟩
inductive Pth(sc:Nat→Nat→Option Int):Nat→Nat→List Nat→Int→Prop
  | one (i:Nat):Pth sc i i [i] 0
  | step {i k j:Nat} {p:List Nat} {c d:Int}:sc i k=some d→Pth sc k j p c→Pth sc i j (i::p) (d+c)
section
variable{sc:Nat→Nat→Option Int}{i j k:Nat}{p q:List Nat}{c d:Int}
theorem Pth.head(h:Pth sc i j p c):∃r,p=i::r:=by cases h <;>exact⟨_,rfl⟩
theorem Pth.app(h:Pth sc i j p c):∀{k:Nat} {q:List Nat} {d:Int},Pth sc j k q d→Pth sc i k (p++q.tail) (c+d):=by
  induction h with
  | one i=>intro k q d h;obtain⟨r,rfl⟩:=h.head;rw[Int.zero_add];exact h
  | step e _ ih=>intro k q d h;rw[Int.add_assoc];exact .step e (ih h)
theorem Pth.snoc(h:Pth sc i j p c)(e:sc j k=some d):Pth sc i k (p++[k]) (c+d):=by
  have:=h.app (.step e (.one k));rw[Int.add_zero]at this;exact this
theorem Pth.last(h:Pth sc i j p c):p.getLast? = some j:=by
  induction h with
  | one i=>rfl
  | step e h ih=>
    obtain⟨r,rfl⟩:=h.head
    rw[List.getLast?_cons_cons];exact ih
theorem Pth.split:∀{a b:List Nat} {x i j:Nat} {c:Int},Pth sc i j (a++x::b) c→∃c1 c2,Pth sc i x (a++[x]) c1∧Pth sc x j (x::b) c2∧c=c1+c2
  | [],b,x,i,j,c,h=>by
    obtain⟨r,e⟩:=h.head
    cases e
    exact⟨0,c,.one _,h,by omega⟩
  | y::a,b,x,i,j,c,h=>by
    generalize e:y::a++x::b=p at h
    cases h with
    | one i=>
      have:=congrArg List.length e
      simp at this
    | step e1 h=>
      cases e
      obtain⟨c1,c2,h1,h2,rfl⟩:=Pth.split h
      exact⟨_,c2,.step e1 h1,h2,by omega⟩
theorem Pth.unsnoc(h:Pth sc i j p c):(p=[i]∧i=j∧c=0)∨∃k q d e,p=q++[j]∧Pth sc i k q d∧sc k j=some e∧c=d+e:=by
  induction h with
  | one i=>exact .inl ⟨rfl,rfl,rfl⟩
  | step e h ih=>
    rename_i i k j p c d
    rcases ih with ⟨rfl,rfl,rfl⟩ | ⟨k',q,d',e',rfl,hq,he,rfl⟩
    · exact .inr ⟨i,[i],0,d,rfl,.one i,e,by omega⟩
    · exact .inr ⟨k',i::q,d+d',e',rfl,.step e hq,he,by omega⟩
def NoFall(sc:Nat→Nat→Option Int)(U:List Nat):Prop:=∀x p c,Pth sc x x p c→(∀y∈p,y∈U)→0≤c
theorem Pth.short{U:List Nat}(nf:NoFall sc U):∀(n:Nat) {i j:Nat} {p:List Nat} {c:Int},p.length≤n→Pth sc i j p c→(∀y∈p,y∈U)→∃p' c',Pth sc i j p' c'∧p'.Nodup∧c'≤c∧(∀y∈p',y∈p)
  | 0,i,j,p,c,hl,h,_=>by obtain⟨r,rfl⟩:=h.head;simp at hl
  | n+1,i,j,p,c,hl,h,hu=>by
    by_cases hd:p.Nodup
    · exact⟨p,c,h,hd,Int.le_refl _,fun _ z=>z⟩
    · obtain⟨a,x,b,r,rfl⟩:=dup_split p hd
      obtain⟨c1,c2,h1,h2,rfl⟩:=h.split
      have h2':Pth sc x j ((x::b)++x::r) c2:=h2
      obtain⟨c3,c4,h3,h4,rfl⟩:=h2'.split
      have n3:=nf x _ c3 h3 fun y hy=>hu y (by simp only[List.mem_append,List.mem_cons,List.not_mem_nil,or_false]at hy ⊢;rcases hy with (rfl | hy) | rfl <;>simp[*])
      have h5:=h1.app h4
      obtain⟨p',c',g1,g2,g3,g4⟩:=Pth.short nf n (p:=(a++[x])++r) (by simp at hl ⊢;omega) h5 fun y hy=>hu y (by simp only[List.mem_append,List.mem_cons,List.not_mem_nil,or_false]at hy ⊢;rcases hy with (hy | rfl) | hy <;>simp[*])
      exact⟨p',c',g1,g2,by omega,fun y hy=>by have:=g4 y hy;simp only[List.mem_append,List.mem_cons,List.not_mem_nil,or_false]at this ⊢;rcases this with (hy | rfl) | hy <;>simp[*]⟩
theorem Pth.ring:∀(n:Nat) {x:Nat} {p:List Nat} {c:Int},p.length≤n→Pth sc x x p c→c < 0→∃y q d,Pth sc y y q d∧d < 0∧q.tail.Nodup∧∀z∈q,z∈p
  | 0,x,p,c,hl,h,_=>by obtain⟨r,rfl⟩:=h.head;simp at hl
  | n+1,x,p,c,hl,h,hc=>by
    obtain⟨r,rfl⟩:=h.head
    by_cases hd:r.Nodup
    · exact⟨x,_,c,h,hc,hd,fun _ z=>z⟩
    · obtain⟨a,y,b,e,rfl⟩:=dup_split r hd
      have h':Pth sc x x ((x::a)++y::(b++y::e)) c:=h
      obtain⟨c1,c2,h1,h2,rfl⟩:=h'.split
      have h2':Pth sc y x ((y::b)++y::e) c2:=h2
      obtain⟨c3,c4,h3,h4,rfl⟩:=h2'.split
      by_cases h3n:c3 < 0
      · obtain⟨z,q,d,g1,g2,g3,g4⟩:=Pth.ring n (p:=(y::b)++[y]) (by simp at hl ⊢;omega) h3 h3n
        exact⟨z,q,d,g1,g2,g3,fun w hw=>by have:=g4 w hw;simp only[List.mem_append,List.mem_cons,List.not_mem_nil,or_false]at this ⊢;rcases this with (rfl | hy) | rfl <;>simp[*]⟩
      · have h5:=h1.app h4
        obtain⟨z,q,d,g1,g2,g3,g4⟩:=Pth.ring n (p:=((x::a)++[y])++e) (by simp at hl ⊢;omega) h5 (by omega)
        exact⟨z,q,d,g1,g2,g3,fun w hw=>by have:=g4 w hw;simp only[List.mem_append,List.mem_cons,List.not_mem_nil,or_false]at this ⊢;rcases this with ((rfl | hy) | rfl) | hy <;>simp[*]⟩
end
section
variable{org:Nat→Option Int}{sc:Nat→Nat→Option Int}{i j k m n:Nat}{c:Int}{U:List Nat}
def Bst(org:Nat→Option Int)(sc:Nat→Nat→Option Int)(k j:Nat)(c:Int):Prop:=∃i o p d,org i=some o∧Pth sc i j p d∧p.length≤k+1∧c=o+d
def IsB(org:Nat→Option Int)(sc:Nat→Nat→Option Int)(k j:Nat):Option Int→Prop
  | none=>∀c,¬Bst org sc k j c
  | some c=>Bst org sc k j c∧∀c',Bst org sc k j c'→c≤c'
theorem Bst.mono(h:Bst org sc k j c)(e:k≤m):Bst org sc m j c:=by
  obtain⟨i,o,p,d,h1,h2,h3,h4⟩:=h
  exact⟨i,o,p,d,h1,h2,by omega,h4⟩
theorem bst_zero:Bst org sc 0 j c↔org j=some c:=by
  constructor
  · rintro⟨i,o,p,d,h1,h2,h3,rfl⟩
    cases h2 with
    | one i=>rw[h1,Int.add_zero]
    | step e h=>obtain⟨r,rfl⟩:=h.head;simp at h3
  · exact fun h=>⟨j,c,[j],0,h,.one j,by simp,by omega⟩
theorem bst_succ:Bst org sc (k+1) j c↔Bst org sc k j c∨∃i a e,Bst org sc k i a∧sc i j=some e∧c=a+e:=by
  constructor
  · rintro⟨i,o,p,d,h1,h2,h3,rfl⟩
    rcases h2.unsnoc with ⟨rfl,rfl,rfl⟩ | ⟨x,q,d',e,rfl,hq,he,rfl⟩
    · exact .inl ⟨i,o,[i],0,h1,.one i,by simp,rfl⟩
    · exact .inr ⟨x,o+d',e,⟨i,o,q,d',h1,hq,by simp at h3;omega,rfl⟩,he,by omega⟩
  · rintro(h | ⟨x,a,e,⟨i,o,p,d,h1,h2,h3,rfl⟩,he,rfl⟩)
    · exact h.mono (by omega)
    · exact⟨i,o,p++[j],d+e,h1,h2.snoc he,by simp;omega,by omega⟩
theorem IsB.eq{x y:Option Int}(h:IsB org sc k j x)(g:IsB org sc k j y):x=y:=by
  cases x with
  | none=>cases y with
    | none=>rfl
    | some d=>exact absurd g.1 (h d)
  | some c=>cases y with
    | none=>exact absurd h.1 (g c)
    | some d=>rw[Int.le_antisymm (h.2 d g.1) (g.2 c h.1)]
theorem Pth.nod:∀(n:Nat) {i j:Nat} {p:List Nat} {c:Int},p.length≤n→Pth sc i j p c→∃p' c',Pth sc i j p' c'∧p'.Nodup∧(∀y∈p',y∈p)
  | 0,i,j,p,c,hl,h=>by obtain⟨r,rfl⟩:=h.head;simp at hl
  | n+1,i,j,p,c,hl,h=>by
    by_cases hd:p.Nodup
    · exact⟨p,c,h,hd,fun _ z=>z⟩
    · obtain⟨a,x,b,r,rfl⟩:=dup_split p hd
      obtain⟨c1,c2,h1,h2,rfl⟩:=h.split
      have h2':Pth sc x j ((x::b)++x::r) c2:=h2
      obtain⟨c3,c4,h3,h4,rfl⟩:=h2'.split
      obtain⟨p',c',g1,g2,g4⟩:=Pth.nod n (p:=(a++[x])++r) (by simp at hl ⊢;omega) (h1.app h4)
      exact⟨p',c',g1,g2,fun y hy=>by have:=g4 y hy;simp only[List.mem_append,List.mem_cons,List.not_mem_nil,or_false]at this ⊢;rcases this with (hy | rfl) | hy <;>simp[*]⟩
theorem Pth.within{p:List Nat}{y:Nat}(e:Pth sc i j p c)(hy:y∈p):∃q r c1 c2,Pth sc i y q c1∧Pth sc y j r c2∧c=c1+c2:=by
  obtain⟨a,b,rfl⟩:=List.append_of_mem hy
  obtain⟨c1,c2,h1,h2,rfl⟩:=e.split
  exact⟨_,_,c1,c2,h1,h2,rfl⟩
structure Use(org en:Nat→Option Int)(sc:Nat→Nat→Option Int)(U:List Nat):Prop where
  to:∀y∈U,∃i o p d,org i=some o∧Pth sc i y p d
  on:∀y∈U,∃j p d,(∃e,en j=some e)∧Pth sc y j p d
  all:∀i o y j p q d e,org i=some o→Pth sc i y p d→Pth sc y j q e→(∃z,en j=some z)→y∈U
variable{en:Nat→Option Int}
theorem Use.path(u:Use org en sc U){o:Int}(ho:org i=some o){p:List Nat}{d:Int}(h:Pth sc i j p d)(hj:j∈U):∀y∈p,y∈U:=fun y hy=>by
  obtain⟨a,b,rfl⟩:=List.append_of_mem hy
  obtain⟨c1,c2,h1,h2,_⟩:=h.split
  obtain⟨z,q,e,he,hq⟩:=u.on j hj
  exact u.all i o y z _ _ _ _ ho h1 (h2.app hq) he
theorem Use.ring(u:Use org en sc U){x:Nat}(hx:x∈U){p:List Nat}{d:Int}(h:Pth sc x x p d):∀y∈p,y∈U:=fun y hy=>by
  obtain⟨a,b,rfl⟩:=List.append_of_mem hy
  obtain⟨c1,c2,h1,h2,_⟩:=h.split
  obtain⟨i,o,q,e,ho,hq⟩:=u.to x hx
  obtain⟨z,r,f,hf,hr⟩:=u.on x hx
  exact u.all i o y z _ _ _ _ ho (hq.app h1) (h2.app hr) hf
theorem Use.come(u:Use org en sc U)(hj:j∈U):∃c,Bst org sc (U.length - 1) j c:=by
  obtain⟨i,o,p,d,ho,hp⟩:=u.to j hj
  obtain⟨p',c',g1,g2,g3⟩:=Pth.nod p.length (Nat.le_refl _) hp
  have:=nodup_sub p' U g2 fun y hy=>u.path ho g1 hj y hy
  exact⟨o+c',i,o,p',c',ho,g1,by omega,rfl⟩
theorem Use.still(u:Use org en sc U)(nf:NoFall sc U)(hj:j∈U)(h:Bst org sc k j c):∃c',c'≤c∧Bst org sc (U.length - 1) j c':=by
  obtain⟨i,o,p,d,ho,hp,_,rfl⟩:=h
  obtain⟨p',c',g1,g2,g3,g4⟩:=Pth.short nf p.length (Nat.le_refl _) hp (u.path ho hp hj)
  have:=nodup_sub p' U g2 fun y hy=>u.path ho hp hj y (g4 y hy)
  exact⟨o+c',by omega,i,o,p',c',ho,g1,by omega,rfl⟩
theorem Use.same(u:Use org en sc U)(nf:NoFall sc U)(hj:j∈U)(hk:U.length - 1≤k)(hm:U.length - 1≤m){x:Option Int}(h:IsB org sc k j x):IsB org sc m j x:=by
  cases x with
  | none=>obtain⟨c,hc⟩:=u.come hj;exact absurd (hc.mono hk) (h c)
  | some c=>
    refine⟨?_,fun c' hc'=>?_⟩
    · obtain⟨c',l,b⟩:=u.still nf hj h.1
      have:=h.2 c' (b.mono hk)
      rw[show c=c' by omega]
      exact b.mono hm
    · obtain⟨c2,l,b⟩:=u.still nf hj hc'
      have:=h.2 c2 (b.mono hk)
      omega
theorem ring_bst{x:Nat}:Bst (fun i=>if i=x then some 0 else none) sc k x c↔∃p,Pth sc x x p c∧p.length≤k+1:=by
  constructor
  · rintro⟨i,o,p,d,ho,hp,hl,rfl⟩
    by_cases e:i=x
    · subst e
      have ho:(if i=i then some (0:Int)else none)=some o:=ho
      rw[if_pos rfl]at ho
      cases ho
      exact⟨p,by rw[Int.zero_add];exact hp,hl⟩
    · have ho:(if i=x then some (0:Int)else none)=some o:=ho
      rw[if_neg e]at ho;cases ho
  · rintro⟨p,hp,hl⟩
    exact⟨x,0,p,c,if_pos rfl,hp,hl,by omega⟩
theorem Use.noFall_of(u:Use org en sc U)(hn:U.length≤n)(h:∀x∈U,∀c,Bst (fun i=>if i=x then some 0 else none) sc n x c→0≤c):NoFall sc U:=by
  intro x p c hp hu
  by_cases hc:0≤c
  · exact hc
  · obtain⟨y,q,d,g1,g2,g3,g4⟩:=Pth.ring p.length (Nat.le_refl _) hp (by omega)
    obtain⟨r,rfl⟩:=g1.head
    have hy:y∈U:=hu y (g4 y (by simp))
    have:=nodup_sub r U g3 fun z hz=>hu z (g4 z (List.mem_cons_of_mem _ hz))
    have:=h y hy d (ring_bst.mpr ⟨_,g1,by rw[List.length_cons];omega⟩)
    omega
theorem Pth.rev{p:List Nat}(h:Pth sc i j p c):Pth (fun a b=>sc b a) j i p.reverse c:=by
  induction h with
  | one i=>exact .one i
  | step e _ ih=>rw[List.reverse_cons,Int.add_comm];exact ih.snoc e
end
end Mine
namespace Mine
def lo:List Int→Option Int
  | []=>none
  | x::r=>some (match lo r with | none=>x | some y=>min x y)
theorem lo_none{l:List Int}:lo l=none↔l=[]:=by
  cases l with
  | nil=>simp[lo]
  | cons x r=>simp[lo]
theorem lo_spec:∀{l:List Int} {c:Int},lo l=some c→c∈l∧∀x∈l,c≤x
  | [],c,h=>by cases h
  | x::r,c,h=>by
    cases e:lo r with
    | none=>
      have:=lo_none.mp e
      subst this
      simp[lo]at h
      subst h
      simp
    | some y=>
      obtain⟨h1,h2⟩:=lo_spec e
      simp only[lo,e,Option.some.injEq]at h
      subst h
      by_cases hx:x≤y
      · rw[Int.min_eq_left hx]
        refine⟨by simp,fun z hz=>?_⟩
        rcases List.mem_cons.mp hz with rfl | hz
        · exact Int.le_refl _
        · exact Int.le_trans hx (h2 z hz)
      · rw[Int.min_eq_right (by omega)]
        refine⟨List.mem_cons_of_mem _ h1,fun z hz=>?_⟩
        rcases List.mem_cons.mp hz with rfl | hz
        · omega
        · exact h2 z hz
theorem lo_is{l:List Int}{c:Int}(h1:c∈l)(h2:∀x∈l,c≤x):lo l=some c:=by
  cases e:lo l with
  | none=>rw[lo_none.mp e]at h1;cases h1
  | some d=>
    obtain⟨g1,g2⟩:=lo_spec e
    rw[Int.le_antisymm (g2 c h1) (h2 d g1)]
structure Stp where
  i:Nat
  j:Nat
  c:Int
  x:Nat
def Stp.turn(s:Stp):Stp:=⟨s.j,s.i,s.c,s.x⟩
def rlx1(a:Option Int)(c:Int)(b:Option Int):Option Int:=
  match a with
  | none=>b
  | some a=>match b with
    | none=>some (a+c)
    | some b=>if a+c < b then some (a+c)else some b
def rlx(cw cm:Nat→Option Int)(s:Stp):Nat→Option Int:=fun j=>if j=s.j then rlx1 (cw s.i) s.c (cm j)else cm j
theorem rlx1_spec(a:Option Int)(c:Int)(b:Option Int):(rlx1 a c b=none↔b=none∧a=none)∧∀d,rlx1 a c b=some d→(b=some d∨∃e,a=some e∧d=e+c)∧(∀e,b=some e→d≤e)∧∀e,a=some e→d≤e+c:=by
  cases a with
  | none=>cases b <;>simp[rlx1]
  | some a=>
    cases b with
    | none=>simp[rlx1]
    | some b=>
      by_cases h:a+c < b
      · simp[rlx1,h];omega
      · simp[rlx1,h];omega
theorem rlx_fold(cw:Nat→Option Int)(j:Nat):∀(S:List Stp) (cm:Nat→Option Int),
    (S.foldl (rlx cw) cm j=none↔cm j=none∧∀s∈S,s.j=j→cw s.i=none)∧
    ∀c,S.foldl (rlx cw) cm j=some c→(cm j=some c∨∃s∈S,∃a,s.j=j∧cw s.i=some a∧c=a+s.c)∧(∀b,cm j=some b→c≤b)∧∀s∈S,∀a,s.j=j→cw s.i=some a→c≤a+s.c
  | [],cm=>by
    refine⟨by simp,fun c h=>⟨.inl h,fun b hb=>?_,fun s hs=>by cases hs⟩⟩
    have:some c=some b:=h.symm.trans hb
    cases this;exact Int.le_refl _
  | s::S,cm=>by
    obtain⟨h1,h2⟩:=rlx_fold cw j S (rlx cw cm s)
    rw[List.foldl_cons]
    by_cases hj:j=s.j
    · have e:rlx cw cm s j=rlx1 (cw s.i) s.c (cm j):=if_pos hj
      rw[e]at h1 h2
      obtain⟨g1,g2⟩:=rlx1_spec (cw s.i) s.c (cm j)
      refine⟨?_,fun c hc=>?_⟩
      · rw[h1,g1]
        constructor
        · rintro⟨⟨a,b⟩,d⟩
          refine⟨a,fun s' hs' e'=>?_⟩
          rcases List.mem_cons.mp hs' with rfl | hs'
          · exact b
          · exact d s' hs' e'
        · rintro⟨a,d⟩
          exact⟨⟨a,d s List.mem_cons_self hj.symm⟩,fun s' hs'=>d s' (List.mem_cons_of_mem _ hs')⟩
      · obtain⟨k1,k2,k3⟩:=h2 c hc
        cases er:rlx1 (cw s.i) s.c (cm j)with
        | none=>
          obtain⟨e1,e2⟩:=g1.mp er
          refine⟨?_,(fun b hb=>by rw[e1]at hb;cases hb),fun s' hs' a ha hb=>?_⟩
          · rcases k1 with k1 | ⟨s',hs',k1⟩
            · rw[er]at k1;cases k1
            · exact .inr ⟨s',List.mem_cons_of_mem _ hs',k1⟩
          · rcases List.mem_cons.mp hs' with rfl | hs'
            · rw[e2]at hb;cases hb
            · exact k3 s' hs' a ha hb
        | some d=>
          obtain⟨m1,m2,m3⟩:=g2 d er
          have hcd:=k2 d er
          refine⟨?_,fun b hb=>Int.le_trans hcd (m2 b hb),fun s' hs' a ha hb=>?_⟩
          · rcases k1 with k1 | ⟨s',hs',k1⟩
            · have:c=d:=by rw[er]at k1;cases k1;rfl
              subst this
              rcases m1 with m1 | ⟨a,m1,rfl⟩
              · exact .inl m1
              · exact .inr ⟨s,List.mem_cons_self,a,hj.symm,m1,rfl⟩
            · exact .inr ⟨s',List.mem_cons_of_mem _ hs',k1⟩
          · rcases List.mem_cons.mp hs' with rfl | hs'
            · exact Int.le_trans hcd (m3 a hb)
            · exact k3 s' hs' a ha hb
    · have e:rlx cw cm s j=cm j:=if_neg hj
      rw[e]at h1 h2
      refine⟨?_,fun c hc=>?_⟩
      · rw[h1]
        constructor
        · rintro⟨a,d⟩
          refine⟨a,fun s' hs' e'=>?_⟩
          rcases List.mem_cons.mp hs' with rfl | hs'
          · exact absurd e'.symm hj
          · exact d s' hs' e'
        · rintro⟨a,d⟩
          exact⟨a,fun s' hs'=>d s' (List.mem_cons_of_mem _ hs')⟩
      · obtain⟨k1,k2,k3⟩:=h2 c hc
        refine⟨?_,k2,fun s' hs' a ha hb=>?_⟩
        · rcases k1 with k1 | ⟨s',hs',k1⟩
          · exact .inl k1
          · exact .inr ⟨s',List.mem_cons_of_mem _ hs',k1⟩
        · rcases List.mem_cons.mp hs' with rfl | hs'
          · exact absurd ha.symm hj
          · exact k3 s' hs' a ha hb
structure StepsOk(f:Nat→Nat→Option Int)(U:Nat→Prop)(S:List Stp):Prop where
  is:∀s∈S,f s.i s.j=some s.c
  all:∀i j c,U i→U j→f i j=some c→∃s∈S,s.i=i∧s.j=j∧s.c=c
theorem rlx_all{org:Nat→Option Int}{f:Nat→Nat→Option Int}{U:Nat→Prop}{S:List Stp}{k:Nat}{cw:Nat→Option Int}(so:StepsOk f U S)(cl:∀i j a e,Bst org f k i a→f i j=some e→U j→U i)
    (hn:∀j a,cw j=some a→Bst org f k j a) (h:∀j,U j→IsB org f k j (cw j)):∀j,U j→IsB org f (k+1) j (S.foldl (rlx cw) cw j):=by
  intro j hj
  obtain⟨h1,h2⟩:=rlx_fold cw j S cw
  cases e:S.foldl (rlx cw) cw j with
  | none=>
    obtain⟨g1,g2⟩:=h1.mp e
    intro c hc
    rcases bst_succ.mp hc with hc | ⟨i,a,d,hi,hd,rfl⟩
    · have:=h j hj;rw[g1]at this;exact this c hc
    · have ui:=cl i j a d hi hd hj
      obtain⟨s,hs,rfl,rfl,rfl⟩:=so.all i j d ui hj hd
      have:=h s.i ui
      rw[g2 s hs rfl]at this
      exact this a hi
  | some c=>
    obtain⟨g1,g2,g3⟩:=h2 c e
    refine⟨?_,fun c' hc'=>?_⟩
    · rcases g1 with g1 | ⟨s,hs,a,rfl,ha,rfl⟩
      · exact bst_succ.mpr (.inl (hn j c g1))
      · exact bst_succ.mpr (.inr ⟨s.i,a,s.c,hn _ _ ha,so.is s hs,rfl⟩)
    · rcases bst_succ.mp hc' with hc' | ⟨i,a,d,hi,hd,rfl⟩
      · have:=h j hj
        cases ej:cw j with
        | none=>rw[ej]at this;exact absurd hc' (this c')
        | some b=>rw[ej]at this;exact Int.le_trans (g2 b ej) (this.2 c' hc')
      · have ui:=cl i j a d hi hd hj
        obtain⟨s,hs,rfl,rfl,rfl⟩:=so.all i j d ui hj hd
        have:=h s.i ui
        cases ei:cw s.i with
        | none=>rw[ei]at this;exact absurd hi (this a)
        | some b=>
          rw[ei]at this
          have l1:=this.2 a hi
          have l2:=g3 s hs b rfl ei
          omega
inductive Wy(W:Nat→Nat→Nat→Int→Prop):Nat→Nat→List Nat→List Nat→Int→Prop
  | one (i:Nat):Wy W i i [] [i] 0
  | snoc {i j k x:Nat} {w p:List Nat} {c d:Int}:Wy W i j w p c→W j k x d→Wy W i k (w++[x]) (p++[k]) (c+d)
section
variable{W:Nat→Nat→Nat→Int→Prop}{i j k x:Nat}{w p:List Nat}{c d:Int}
theorem Wy.len(h:Wy W i j w p c):p.length=w.length+1:=by
  induction h with
  | one=>rfl
  | snoc _ _ ih=>simp[ih]
theorem Wy.first(h:Wy W i j w p c):p[0]? = some i:=by
  induction h with
  | one=>rfl
  | snoc h _ ih=>
    rw[List.getElem?_append_left (by rw[h.len];omega)];exact ih
theorem Wy.last(h:Wy W i j w p c):p.getLast? = some j:=by
  cases h with
  | one=>rfl
  | snoc h _=>simp
theorem Wy.cons{i j k x:Nat}{w p:List Nat}{c d:Int}(e:W i j x d)(h:Wy W j k w p c):Wy W i k (x::w) (i::p) (d+c):=by
  induction h with
  | one=>have:=Wy.snoc (.one i) e;rw[Int.zero_add]at this;rw[Int.add_zero];exact this
  | snoc _ e2 ih=>rw[← Int.add_assoc];exact Wy.snoc ih e2
theorem Wy.rev(h:Wy W i j w p c):Wy (fun a b x d=>W b a x d) j i w.reverse p.reverse c:=by
  induction h with
  | one=>exact .one _
  | snoc _ e ih=>
    rw[List.reverse_append,List.reverse_append,Int.add_comm]
    exact Wy.cons (W:=fun a b x d=>W b a x d) e ih
def OkW(org:Nat→Option Int)(W:Nat→Nat→Nat→Int→Prop)(k j:Nat)(c:Int)(w p:List Nat):Prop:=∃i o d,org i=some o∧Wy W i j w p d∧c=o+d∧w.length≤k
theorem OkW.on{org:Nat→Option Int}{k:Nat}(h:OkW org W k i c w p)(e:W i j x d):OkW org W (k+1) j (c+d) (w++[x]) (p++[j]):=by
  obtain⟨i0,o,d',h1,h2,rfl,h3⟩:=h
  exact⟨i0,o,d'+d,h1,h2.snoc e,by omega,by simp;omega⟩
theorem OkW.up{org:Nat→Option Int}{k m:Nat}(h:OkW org W k i c w p)(e:k≤m):OkW org W m i c w p:=by
  obtain⟨i0,o,d',h1,h2,h3,h4⟩:=h
  exact⟨i0,o,d',h1,h2,h3,by omega⟩
end
end Mine
set_option maxHeartbeats 0
lay_quick PySem.Challenge.pw_weighwalk_k74_whole_no_word_is_cheaper
namespace H74
open PySem PySem.W
noncomputable section
abbrev q0:=SL.s658472552662922059x5
abbrev q1:=SL.s14018661285674007319x4
abbrev q2:=SL.s6070975301684473832x10
abbrev q3:=SL.s11030030927630378310x26
abbrev q4:=SL.s10062305145149207511x16
abbrev q5:=SL.s17162191345867700912x4
abbrev q6:=SL.s5946037652744460706x9
abbrev q7:=SL.s4278001404047624695x13
abbrev q8:=SL.s2742458400755230247x6
abbrev q9:=SL.s4209523147560561109x18
abbrev q10:=SL.s14755015743595814543x17
abbrev q11:=SL.s4290257624100764138x5
abbrev q12:=SL.s4860613602091757760x24
abbrev q13:=SL.s11443829558043349243x14
def i(n:Int):Value:=.int n 0
def r(n:Addr):Value:=.ref n
def tu(a:Array Value)(n:Nat):Obj:=⟨.type SL.s2766695959194262286x5,none,.seq a n,#[]⟩
def co(a:Array Value):Obj:=⟨.type SL.s5856160107412720595x4,none,.fields a,#[]⟩
def fo(n q:Str)(s:Stmt)(m c:Value):Obj:=⟨.type SL.s7174869446012820540x8,none,.func ⟨n,q,L2.defArgs s,.stmts (L2.defBody s),L2.defScope s,3,[],.none,.none,.none,m,none,c,.none,0⟩,#[]⟩
def f0(n q:Str)(s:Stmt):Obj:=⟨.none,none,.func ⟨n,q,L2.defArgs s,.stmts (L2.defBody s),L2.defScope s,0,[],.none,.none,.none,.none,none,.none,.none,0⟩,#[]⟩
abbrev nd:=@BT.node
abbrev nl:=BT.nil
abbrev lf(x:Obj):BT:=.node x .nil .nil
abbrev kh:=@PySem.PyData.keyHash
def topT(i:Nat):Stmt:=Fast.tw2205068122024722360.main.body.getD i (.Pass ⟨0,0,0,0⟩)
def s0:Str:=⟨⟨[60,109,111,100,117,108,101,62]⟩⟩
def s1:Str:=⟨⟨[47,99,108,97,105,109,47,99,117,116,46,112,121]⟩⟩
def s2:Str:=⟨⟨[95,95,109,97,105,110,95,95]⟩⟩
def s3:Str:=⟨⟨[95,95,110,97,109,101,95,95]⟩⟩
def s4:Str:=⟨⟨[108,97,119,95,119,101,105,103,104,119,97,108,107,95,107,55,52,95,119,104,111,108,101,95,110,111,95,119,111,114,100,95,105,115,95,99,104,101,97,112,101,114]⟩⟩
def s5:Str:=⟨⟨[95,95,100,111,99,95,95]⟩⟩
def s6:Str:=⟨⟨[95,95,112,97,99,107,97,103,101,95,95]⟩⟩
def s7:Str:=⟨⟨[95,95,108,111,97,100,101,114,95,95]⟩⟩
def s8:Str:=⟨⟨[95,95,115,112,101,99,95,95]⟩⟩
def s9:Str:=⟨⟨[95,95,97,110,110,111,116,97,116,105,111,110,115,95,95]⟩⟩
def s10:Str:=⟨⟨[95,95,98,117,105,108,116,105,110,115,95,95]⟩⟩
def s11:Str:=⟨⟨[95,95,102,105,108,101,95,95]⟩⟩
def s12:Str:=⟨⟨[95,95,99,97,99,104,101,100,95,95]⟩⟩
def s13:Str:=⟨⟨[95,119,97,108,108]⟩⟩
def s14:Str:=⟨⟨[87,101,105,103,104,69,114,114,111,114]⟩⟩
def s15:Str:=⟨⟨[78,111,87,111,114,100]⟩⟩
def s16:Str:=⟨⟨[78,111,84,101,120,116]⟩⟩
def s17:Str:=⟨⟨[99,111,108,117,109,110,95,97,116]⟩⟩
def s18:Str:=⟨⟨[99,111,108,117,109,110,115,95,111,102]⟩⟩
def s19:Str:=⟨⟨[100,111,116]⟩⟩
def s20:Str:=⟨⟨[114,111,119,95,98,121]⟩⟩
def s21:Str:=⟨⟨[105,115,95,119,111,114,100]⟩⟩
def s22:Str:=⟨⟨[110,101,101,100,95,119,111,114,100]⟩⟩
def s23:Str:=⟨⟨[114,111,111,109,115]⟩⟩
def s24:Str:=⟨⟨[116,97,98,108,101,95,111,102]⟩⟩
def s25:Str:=⟨⟨[97,104,101,97,100]⟩⟩
def s26:Str:=⟨⟨[119,101,105,103,104,116]⟩⟩
def s27:Str:=⟨⟨[99,104,101,97,112,101,115,116,95,115,116,101,112,115]⟩⟩
def s28:Str:=⟨⟨[115,116,101,112,115,95,116,117,114,110,101,100]⟩⟩
def s29:Str:=⟨⟨[115,116,97,110,100,105,110,103]⟩⟩
def s30:Str:=⟨⟨[111,110,101,95,115,116,101,112,95,111,110]⟩⟩
def s31:Str:=⟨⟨[99,104,101,97,112,101,115,116,95,119,97,108,107,115]⟩⟩
def s32:Str:=⟨⟨[119,111,114,100,95,97,110,100,95,119,97,121]⟩⟩
def s33:Str:=⟨⟨[116,117,114,110,101,100,95,98,97,99,107]⟩⟩
def s34:Str:=⟨⟨[114,105,110,103,95,98,101,108,111,119]⟩⟩
def s35:Str:=⟨⟨[114,105,110,103,115,95,98,101,108,111,119]⟩⟩
def s36:Str:=⟨⟨[108,101,97,115,116,95,119,97,108,107]⟩⟩
def s37:Str:=⟨⟨[112,114,105,99,101,115,95,111,102]⟩⟩
def s38:Str:=⟨⟨[99,104,101,97,112,101,115,116]⟩⟩
def s39:Str:=⟨⟨[70,73,71,85,82,69,83]⟩⟩
def s40:Str:=⟨⟨[48,49,50,51,52,53,54,55,56,57]⟩⟩
def s41:Str:=⟨⟨[77,79,83,84,95,70,73,71,85,82,69,83]⟩⟩
def s42:Str:=⟨⟨[105,115,95,119,114,105,116,116,101,110]⟩⟩
def s43:Str:=⟨⟨[114,101,97,100,95,119,104,111,108,101]⟩⟩
def s44:Str:=⟨⟨[110,101,101,100,95,116,101,120,116]⟩⟩
def s45:Str:=⟨⟨[75,105,110,100]⟩⟩
def s46:Str:=⟨⟨[80,105,99,107,105,110,103]⟩⟩
def s47:Str:=⟨⟨[67,111,115,116,115]⟩⟩
def s48:Str:=⟨⟨[95,108,97,119,95,115,116,97,116,101]⟩⟩
def s49:Str:=⟨⟨[95,108,97,119,95,110,101,120,116]⟩⟩
def s50:Str:=⟨⟨[95,108,97,119,95,114,111,111,109,115]⟩⟩
def s51:Str:=⟨⟨[95,108,97,119,95,108,101,116,116,101,114,115]⟩⟩
def s52:Str:=⟨⟨[95,108,97,119,95,99,111,115,116,115]⟩⟩
def s53:Str:=⟨⟨[95,108,97,119,95,102,97,114]⟩⟩
def s54:Str:=⟨⟨[95,108,97,119,95,97,110,121,95,109,97,99,104,105,110,101]⟩⟩
def s55:Str:=⟨⟨[95,108,97,119,95,119,97,108,107]⟩⟩
def s56:Str:=⟨⟨[95,108,97,119,95,102,97,108,108,115]⟩⟩
def s57:Str:=⟨⟨[95,108,97,119,95,108,101,115,115]⟩⟩
def s58:Str:=⟨⟨[95,108,97,119,95,119,101,105,103,104]⟩⟩
def s59:Str:=⟨⟨[95,108,97,119,95,115,111,109,101,95,119,111,114,100,115]⟩⟩
def s60:Str:=⟨⟨[95,108,97,119,95,119,101,105,103,104,115]⟩⟩
def s61:Str:=⟨⟨[95,108,97,119,95,101,97,99,104,95,108,101,115,115]⟩⟩
def s62:Str:=⟨⟨[108,97,119]⟩⟩
def s63:Str:=⟨⟨[107]⟩⟩
def s64:Str:=⟨⟨[95,95,109,111,100,117,108,101,95,95]⟩⟩
def s65:Str:=⟨⟨[119,101,105,103,104,119,97,108,107,46,101,114,114,111,114,115]⟩⟩
def s66:Str:=⟨⟨[95,95,113,117,97,108,110,97,109,101,95,95]⟩⟩
def s67:Str:=⟨⟨[95,95,102,105,114,115,116,108,105,110,101,110,111,95,95]⟩⟩
def s68:Str:=⟨⟨[95,95,115,116,97,116,105,99,95,97,116,116,114,105,98,117,116,101,115,95,95]⟩⟩
def s69:Str:=⟨⟨[95,95,119,101,97,107,114,101,102,95,95]⟩⟩
def s70:Str:=⟨⟨[119,101,105,103,104,119,97,108,107,46,116,97,98,108,101,115]⟩⟩
def s71:Str:=⟨⟨[107,105,110,100]⟩⟩
def s72:Str:=⟨⟨[114,111,119]⟩⟩
def s73:Str:=⟨⟨[99,111,108,117,109,110]⟩⟩
def s74:Str:=⟨⟨[116,111,116,97,108]⟩⟩
def s75:Str:=⟨⟨[120]⟩⟩
def s76:Str:=⟨⟨[121]⟩⟩
def s77:Str:=⟨⟨[119,101,105,103,104,119,97,108,107,46,109,97,99,104,105,110,101,115]⟩⟩
def s78:Str:=⟨⟨[108,101,116,116,101,114,115]⟩⟩
def s79:Str:=⟨⟨[116,104,105,110,103]⟩⟩
def s80:Str:=⟨⟨[109,97,99,104,105,110,101]⟩⟩
def s81:Str:=⟨⟨[108,101,116,116,101,114]⟩⟩
def s82:Str:=⟨⟨[119,111,114,100]⟩⟩
def s83:Str:=⟨⟨[119,101,105,103,104,119,97,108,107,46,99,104,101,97,112]⟩⟩
def s84:Str:=⟨⟨[116,111,108,100]⟩⟩
def s85:Str:=⟨⟨[114,111,111,109]⟩⟩
def s86:Str:=⟨⟨[99,111,115,116]⟩⟩
def s87:Str:=⟨⟨[119,97,108,107,115]⟩⟩
def s88:Str:=⟨⟨[115,116,101,112,115]⟩⟩
def s89:Str:=⟨⟨[102,105,114,115,116]⟩⟩
def s90:Str:=⟨⟨[115,101,99,111,110,100]⟩⟩
def s91:Str:=⟨⟨[112,97,105,114]⟩⟩
def s92:Str:=⟨⟨[119,97,108,107]⟩⟩
def s93:Str:=⟨⟨[109,111,115,116]⟩⟩
def s94:Str:=⟨⟨[99,111,117,110,116]⟩⟩
def s95:Str:=⟨⟨[115,105,122,101]⟩⟩
def s96:Str:=⟨⟨[119,101,105,103,104,119,97,108,107,46,107,105,110,100,115]⟩⟩
def s97:Str:=⟨⟨[116,101,120,116]⟩⟩
def s98:Str:=⟨⟨[95,95,100,105,99,116,95,95]⟩⟩
def s99:Str:=⟨⟨[105,115,95,102,105,101,108,100]⟩⟩
def s100:Str:=⟨⟨[112,105,99,107,115]⟩⟩
def s101:Str:=⟨⟨[109,105,110,117,115]⟩⟩
def s102:Str:=⟨⟨[105,110,118,101,114,115,101]⟩⟩
def s103:Str:=⟨⟨[115,101,108,102]⟩⟩
def s104:Str:=⟨⟨[80,105,99,107,105,110,103,46,105,115,95,102,105,101,108,100]⟩⟩
def s105:Str:=⟨⟨[80,105,99,107,105,110,103,46,112,105,99,107,115]⟩⟩
def s106:Str:=⟨⟨[80,105,99,107,105,110,103,46,109,105,110,117,115]⟩⟩
def s107:Str:=⟨⟨[80,105,99,107,105,110,103,46,105,110,118,101,114,115,101]⟩⟩
def s108:Str:=⟨⟨[110,111,117,103,104,116]⟩⟩
def s109:Str:=⟨⟨[111,110,101]⟩⟩
def s110:Str:=⟨⟨[112,108,117,115]⟩⟩
def s111:Str:=⟨⟨[116,105,109,101,115]⟩⟩
def s112:Str:=⟨⟨[105,115,95,119,101,105,103,104,116]⟩⟩
def s113:Str:=⟨⟨[115,104,111,119,110]⟩⟩
def s114:Str:=⟨⟨[114,101,97,100]⟩⟩
def s115:Str:=⟨⟨[67,111,115,116,115,46,116,111,108,100]⟩⟩
def s116:Str:=⟨⟨[67,111,115,116,115,46,110,111,117,103,104,116]⟩⟩
def s117:Str:=⟨⟨[67,111,115,116,115,46,111,110,101]⟩⟩
def s118:Str:=⟨⟨[67,111,115,116,115,46,112,108,117,115]⟩⟩
def s119:Str:=⟨⟨[67,111,115,116,115,46,116,105,109,101,115]⟩⟩
def s120:Str:=⟨⟨[67,111,115,116,115,46,105,115,95,119,101,105,103,104,116]⟩⟩
def s121:Str:=⟨⟨[67,111,115,116,115,46,115,104,111,119,110]⟩⟩
def s122:Str:=⟨⟨[67,111,115,116,115,46,114,101,97,100]⟩⟩
def s123:Str:=⟨⟨[95,108,97,119,95,115,99,114,105,112,116]⟩⟩
def s124:Str:=⟨⟨[95,108,97,119,95,115,101,101,100]⟩⟩
def s125:Str:=⟨⟨[95,108,97,119,95,99,101,108,108]⟩⟩
def s126:Str:=⟨⟨[95,108,97,119,95,115,116,97,116,101,95,104,101,114,101]⟩⟩
def s127:Str:=⟨⟨[95,108,97,119,95,109,97,110,121]⟩⟩
def s128:Str:=⟨⟨[95,108,97,119,95,102,111,117,110,100]⟩⟩
def s129:Str:=⟨⟨[95,108,97,119,95,102,101,119]⟩⟩
def s130:Str:=⟨⟨[95,108,97,119,95,109,111,115,116]⟩⟩
def s131:Str:=⟨⟨[95,108,97,119,95,115,111,109,101]⟩⟩
def s132:Str:=⟨⟨[95,108,97,119,95,97,110,115,119,101,114]⟩⟩
def s133:Str:=⟨⟨[95,108,97,119,95,107]⟩⟩
def s134:Str:=⟨⟨[95,108,97,119,95,108,101,116,116,101,114]⟩⟩
def s135:Str:=⟨⟨[95,108,97,119,95,102,97,114,95,104,101,114,101]⟩⟩
def s136:Str:=⟨⟨[95,108,97,119,95,114,111,119]⟩⟩
def s137:Str:=⟨⟨[95,108,97,119,95,99,111,115,116]⟩⟩
def s138:Str:=⟨⟨[95,108,97,119,95,108,101,116,116,101,114,115,95,104,101,114,101]⟩⟩
def s139:Str:=⟨⟨[95,108,97,119,95,116,104,105,110]⟩⟩
def s140:Str:=⟨⟨[95,108,97,119,95,116,97,98,108,101,115]⟩⟩
def s141:Str:=⟨⟨[95,108,97,119,95,116,97,98,108,101]⟩⟩
def s142:Str:=⟨⟨[95,108,97,119,95,106]⟩⟩
def s143:Str:=⟨⟨[95,108,97,119,95,120]⟩⟩
def s144:Str:=⟨⟨[95,108,97,119,95,121]⟩⟩
def s145:Str:=⟨⟨[95,108,97,119,95,109,97,99,104,105,110,101]⟩⟩
def s146:Str:=⟨⟨[95,108,97,119,95,119,111,114,100]⟩⟩
def s147:Str:=⟨⟨[95,108,97,119,95,109,111,114,101]⟩⟩
def s148:Str:=⟨⟨[95,108,97,119,95,116,111,116,97,108]⟩⟩
def s149:Str:=⟨⟨[95,108,97,119,95,108,101,118,101,108]⟩⟩
def s150:Str:=⟨⟨[95,108,97,119,95,116,111,108,100]⟩⟩
def o11a:Obj:=tu #[] 0
def o12a:Obj:=⟨.none,none,.fields #[],#[]⟩
def o13a:Obj:=co #[.str s0 182,.str s0 183,.str s1 184,i 1,i 0,i 0,i 0,i 0,r 11,.bool false,i 181,r 12,.none,.none,.none,.none,i 185,i 1,.str s1 186]
def o14a:Obj:=⟨.type q0,none,.plain,#[some (r 13),some (r 3),some (r 3),none,some (.str s2 164),none,some (r 0)]⟩
def o3(P:Params):Obj:=⟨.type q1,none,.dict #[⟨kh P s3,.str s3 165,.str s4 598⟩,⟨kh P s5,.str s5 166,.none⟩,⟨kh P s6,.str s6 167,.none⟩,⟨kh P s7,.str s7 168,.builtin SL.s7097527257260152453x26⟩,⟨kh P s8,.str s8 169,.none⟩,⟨kh P s9,.str s9 170,r 6⟩,⟨kh P s10,.str s10 171,r 4⟩,⟨kh P s11,.str s11 173,.str s1 172⟩,⟨kh P s12,.str s12 174,.none⟩,⟨kh P s13,.str s13 193,r 21⟩,⟨kh P s14,.str s14 213,r 31⟩,⟨kh P s15,.str s15 229,r 44⟩,⟨kh P s16,.str s16 245,r 56⟩,⟨kh P s17,.str s17 253,r 63⟩,⟨kh P s18,.str s18 259,r 68⟩,⟨kh P s19,.str s19 271,r 75⟩,⟨kh P s20,.str s20 277,r 80⟩,⟨kh P s21,.str s21 285,r 85⟩,⟨kh P s22,.str s22 293,r 92⟩,⟨kh P s23,.str s23 300,r 99⟩,⟨kh P s24,.str s24 308,r 106⟩,⟨kh P s25,.str s25 319,r 113⟩,⟨kh P s26,.str s26 328,r 120⟩,⟨kh P s27,.str s27 336,r 125⟩,⟨kh P s28,.str s28 342,r 130⟩,⟨kh P s29,.str s29 352,r 137⟩,⟨kh P s30,.str s30 366,r 144⟩,⟨kh P s31,.str s31 377,r 151⟩,⟨kh P s32,.str s32 384,r 158⟩,⟨kh P s33,.str s33 391,r 165⟩,⟨kh P s34,.str s34 402,r 172⟩,⟨kh P s35,.str s35 408,r 177⟩,⟨kh P s36,.str s36 414,r 182⟩,⟨kh P s37,.str s37 420,r 187⟩,⟨kh P s38,.str s38 426,r 192⟩,⟨kh P s39,.str s39 430,.str s40 429⟩,⟨kh P s41,.str s41 432,.int 30 431⟩,⟨kh P s42,.str s42 438,r 197⟩,⟨kh P s43,.str s43 445,r 204⟩,⟨kh P s44,.str s44 452,r 211⟩,⟨kh P s45,.str s45 472,r 221⟩,⟨kh P s46,.str s46 518,r 263⟩,⟨kh P s47,.str s47 597,r 331⟩,⟨kh P s48,.str s48 608,r 340⟩,⟨kh P s49,.str s49 617,r 347⟩,⟨kh P s50,.str s50 626,r 354⟩,⟨kh P s51,.str s51 637,r 361⟩,⟨kh P s52,.str s52 649,r 368⟩,⟨kh P s53,.str s53 656,r 375⟩,⟨kh P s54,.str s54 673,r 382⟩,⟨kh P s55,.str s55 679,r 387⟩,⟨kh P s56,.str s56 685,r 392⟩,⟨kh P s57,.str s57 693,r 399⟩,⟨kh P s58,.str s58 709,r 406⟩,⟨kh P s59,.str s59 723,r 413⟩,⟨kh P s60,.str s60 732,r 420⟩,⟨kh P s61,.str s61 738,r 425⟩,⟨kh P s62,.str s62 744,r 430⟩] 58,#[]⟩
def o12:Obj:=⟨.none,none,.fields #[i 1,i 0,r 20,i 5,i 0,r 27,i 7,i 0,r 40,i 9,i 0,r 52,i 12,i 0,r 62,i 14,i 0,r 67,i 18,i 0,r 74,i 23,i 0,r 79,i 26,i 0,r 84,i 28,i 0,r 91,i 31,i 0,r 98,i 33,i 0,r 105,i 35,i 0,r 112,i 41,i 0,r 119,i 44,i 0,r 124,i 53,i 0,r 129,i 55,i 0,r 136,i 61,i 0,r 143,i 70,i 0,r 150,i 75,i 0,r 157,i 77,i 0,r 164,i 79,i 0,r 171,i 86,i 0,r 176,i 89,i 0,r 181,i 94,i 0,r 186,i 96,i 0,r 191,i 113,i 0,r 196,i 122,i 0,r 203,i 126,i 0,r 210,i 129,i 0,r 217,i 131,i 0,r 231,i 144,i 0,r 271,i 179,i 0,r 339,i 186,i 0,r 346,i 195,i 0,r 353,i 199,i 0,r 360,i 207,i 0,r 367,i 215,i 0,r 374,i 217,i 0,r 381,i 230,i 0,r 386,i 246,i 0,r 391,i 259,i 0,r 398,i 263,i 0,r 405,i 279,i 0,r 412,i 290,i 0,r 419,i 295,i 0,r 424,i 307,i 0,r 429],#[]⟩
def o15:Obj:=tu #[] 0
def o16:Obj:=⟨.none,none,.fields #[],#[]⟩
def o17:Obj:=tu #[.str s63 190] 0
def o18:Obj:=tu #[] 0
def o19:Obj:=f0 s13 s13 (topT 0)
def o20:Obj:=co #[.str s13 187,.str s13 188,.str s1 189,i 1,i 1,i 0,i 0,i 3,r 15,.bool true,i 181,r 16,.none,r 17,r 18,r 19,i 191,i 1,.str s1 192]
def o21:Obj:=fo s13 s13 (topT 0) (.str s2 164) (r 20)
def o22:Obj:=tu #[.type q2] 0
def o23:Obj:=⟨.type q3,none,.fields #[.builtin q4,.type q5],#[]⟩
def o24(P:Params):Obj:=⟨.type q1,none,.dict #[⟨kh P s64,.str s64 203,.str s65 194⟩,⟨kh P s66,.str s66 205,.str s14 204⟩,⟨kh P s67,.str s67 207,.int 5 206⟩,⟨kh P s68,.str s68 208,r 29⟩] 4,#[]⟩
def o25:Obj:=tu #[] 0
def o26:Obj:=⟨.none,none,.fields #[],#[]⟩
def o27:Obj:=co #[.str s14 198,.str s14 199,.str s1 200,i 5,i 0,i 0,i 0,i 0,r 25,.bool false,i 181,r 26,.none,.none,.none,.none,i 201,i 5,.str s1 202]
def o28:Obj:=⟨.type q0,none,.plain,#[some (r 27),some (r 3),some (r 24),none,some (.str s65 194),none,some (r 0)]⟩
def o29:Obj:=tu #[] 0
def o30(P:Params):Obj:=⟨.type q1,none,.dict #[⟨kh P s64,.str s64 203,.str s65 194⟩,⟨kh P s67,.str s67 207,.int 5 206⟩,⟨kh P s68,.str s68 208,r 29⟩,⟨kh P s69,.str s69 210,r 32⟩,⟨kh P s5,.str s5 211,.none⟩] 3,#[]⟩
def o31:Obj:=⟨.type q5,none,.cls ⟨s14,[.type q2],[r 31,.type q2,.type q6,.type q7,.type q8],30,s14,true,[],[r 44,r 56],false,none,false⟩,#[some (r 22),none,some (.str s14 196),some (.str s14 204),some (.builtin q9),some (.bool true)]⟩
def o32:Obj:=⟨.type q10,none,.fields #[.str s69 209,r 31,.builtin SL.s10220274742760427390x26,.none],#[]⟩
def o33:Obj:=⟨.type q11,none,.fields #[r 31,r 31,r 31],#[]⟩
def o34:Obj:=⟨.type q3,none,.fields #[.builtin q12,r 31],#[]⟩
def o35:Obj:=tu #[r 31] 0
def o36:Obj:=⟨.type q3,none,.fields #[.builtin q4,.type q5],#[]⟩
def o37(P:Params):Obj:=⟨.type q1,none,.dict #[⟨kh P s64,.str s64 221,.str s65 194⟩,⟨kh P s66,.str s66 223,.str s15 222⟩,⟨kh P s67,.str s67 225,.int 7 224⟩,⟨kh P s68,.str s68 226,r 42⟩] 4,#[]⟩
def o38:Obj:=tu #[] 0
def o39:Obj:=⟨.none,none,.fields #[],#[]⟩
def o40:Obj:=co #[.str s15 216,.str s15 217,.str s1 218,i 7,i 0,i 0,i 0,i 0,r 38,.bool false,i 181,r 39,.none,.none,.none,.none,i 219,i 7,.str s1 220]
def o41:Obj:=⟨.type q0,none,.plain,#[some (r 40),some (r 3),some (r 37),none,some (.str s65 194),none,some (r 0)]⟩
def o42:Obj:=tu #[] 0
def o43(P:Params):Obj:=⟨.type q1,none,.dict #[⟨kh P s64,.str s64 221,.str s65 194⟩,⟨kh P s67,.str s67 225,.int 7 224⟩,⟨kh P s68,.str s68 226,r 42⟩,⟨kh P s5,.str s5 227,.none⟩] 2,#[]⟩
def o44:Obj:=⟨.type q5,none,.cls ⟨s15,[r 31],[r 44,r 31,.type q2,.type q6,.type q7,.type q8],43,s15,true,[],[],false,none,false⟩,#[some (r 35),none,some (.str s15 214),some (.str s15 222),some (.builtin q9),some (.bool true)]⟩
def o45:Obj:=⟨.type q11,none,.fields #[r 44,r 44,r 44],#[]⟩
def o46:Obj:=⟨.type q3,none,.fields #[.builtin q12,r 44],#[]⟩
def o47:Obj:=tu #[r 31] 0
def o48:Obj:=⟨.type q3,none,.fields #[.builtin q4,.type q5],#[]⟩
def o49(P:Params):Obj:=⟨.type q1,none,.dict #[⟨kh P s64,.str s64 237,.str s65 194⟩,⟨kh P s66,.str s66 239,.str s16 238⟩,⟨kh P s67,.str s67 241,.int 9 240⟩,⟨kh P s68,.str s68 242,r 54⟩] 4,#[]⟩
def o50:Obj:=tu #[] 0
def o51:Obj:=⟨.none,none,.fields #[],#[]⟩
def o52:Obj:=co #[.str s16 232,.str s16 233,.str s1 234,i 9,i 0,i 0,i 0,i 0,r 50,.bool false,i 181,r 51,.none,.none,.none,.none,i 235,i 9,.str s1 236]
def o53:Obj:=⟨.type q0,none,.plain,#[some (r 52),some (r 3),some (r 49),none,some (.str s65 194),none,some (r 0)]⟩
def o54:Obj:=tu #[] 0
def o55(P:Params):Obj:=⟨.type q1,none,.dict #[⟨kh P s64,.str s64 237,.str s65 194⟩,⟨kh P s67,.str s67 241,.int 9 240⟩,⟨kh P s68,.str s68 242,r 54⟩,⟨kh P s5,.str s5 243,.none⟩] 2,#[]⟩
def o56:Obj:=⟨.type q5,none,.cls ⟨s16,[r 31],[r 56,r 31,.type q2,.type q6,.type q7,.type q8],55,s16,true,[],[],false,none,false⟩,#[some (r 47),none,some (.str s16 230),some (.str s16 238),some (.builtin q9),some (.bool true)]⟩
def o57:Obj:=⟨.type q11,none,.fields #[r 56,r 56,r 56],#[]⟩
def o58:Obj:=⟨.type q3,none,.fields #[.builtin q12,r 56],#[]⟩
def o59:Obj:=tu #[] 0
def o60:Obj:=⟨.none,none,.fields #[],#[]⟩
def o61:Obj:=f0 s17 s17 (topT 6)
def o62:Obj:=co #[.str s17 248,.str s17 249,.str s1 250,i 12,i 2,i 0,i 0,i 3,r 59,.bool true,i 181,r 60,.none,.none,.none,r 61,i 251,i 12,.str s1 252]
def o63:Obj:=fo s17 s17 (topT 6) (.str s70 246) (r 62)
def o64:Obj:=tu #[] 0
def o65:Obj:=⟨.none,none,.fields #[],#[]⟩
def o66:Obj:=f0 s18 s18 (topT 7)
def o67:Obj:=co #[.str s18 254,.str s18 255,.str s1 256,i 14,i 1,i 0,i 0,i 3,r 64,.bool true,i 181,r 65,.none,.none,.none,r 66,i 257,i 14,.str s1 258]
def o68:Obj:=fo s18 s18 (topT 7) (.str s70 246) (r 67)
def o69:Obj:=tu #[] 0
def o70:Obj:=⟨.none,none,.fields #[],#[]⟩
def o71:Obj:=tu #[.str s71 263,.str s72 264,.str s73 265,.str s74 266,.str s75 267,.str s76 268] 0
def o72:Obj:=tu #[] 0
def o73:Obj:=f0 s19 s19 (topT 8)
def o74:Obj:=co #[.str s19 260,.str s19 261,.str s1 262,i 18,i 3,i 0,i 0,i 3,r 69,.bool true,i 181,r 70,.none,r 71,r 72,r 73,i 269,i 18,.str s1 270]
def o75:Obj:=fo s19 s19 (topT 8) (.str s70 246) (r 74)
def o76:Obj:=tu #[] 0
def o77:Obj:=⟨.none,none,.fields #[],#[]⟩
def o78:Obj:=f0 s20 s20 (topT 9)
def o79:Obj:=co #[.str s20 272,.str s20 273,.str s1 274,i 23,i 3,i 0,i 0,i 3,r 76,.bool true,i 181,r 77,.none,.none,.none,r 78,i 275,i 23,.str s1 276]
def o80:Obj:=fo s20 s20 (topT 9) (.str s70 246) (r 79)
def o81:Obj:=tu #[] 0
def o82:Obj:=⟨.none,none,.fields #[],#[]⟩
def o83:Obj:=f0 s21 s21 (topT 11)
def o84:Obj:=co #[.str s21 280,.str s21 281,.str s1 282,i 26,i 2,i 0,i 0,i 3,r 81,.bool true,i 181,r 82,.none,.none,.none,r 83,i 283,i 26,.str s1 284]
def o85:Obj:=fo s21 s21 (topT 11) (.str s77 278) (r 84)
def o86:Obj:=tu #[] 0
def o87:Obj:=⟨.none,none,.fields #[],#[]⟩
def o88:Obj:=tu #[.str s78 289,.str s79 290] 0
def o89:Obj:=tu #[] 0
def o90:Obj:=f0 s22 s22 (topT 12)
def o91:Obj:=co #[.str s22 286,.str s22 287,.str s1 288,i 28,i 2,i 0,i 0,i 3,r 86,.bool true,i 181,r 87,.none,r 88,r 89,r 90,i 291,i 28,.str s1 292]
def o92:Obj:=fo s22 s22 (topT 12) (.str s77 278) (r 91)
def o93:Obj:=tu #[] 0
def o94:Obj:=⟨.none,none,.fields #[],#[]⟩
def o95:Obj:=tu #[.str s80 297] 0
def o96:Obj:=tu #[] 0
def o97:Obj:=f0 s23 s23 (topT 13)
def o98:Obj:=co #[.str s23 294,.str s23 295,.str s1 296,i 31,i 1,i 0,i 0,i 3,r 93,.bool true,i 181,r 94,.none,r 95,r 96,r 97,i 298,i 31,.str s1 299]
def o99:Obj:=fo s23 s23 (topT 13) (.str s77 278) (r 98)
def o100:Obj:=tu #[] 0
def o101:Obj:=⟨.none,none,.fields #[],#[]⟩
def o102:Obj:=tu #[.str s80 304,.str s81 305] 0
def o103:Obj:=tu #[] 0
def o104:Obj:=f0 s24 s24 (topT 14)
def o105:Obj:=co #[.str s24 301,.str s24 302,.str s1 303,i 33,i 2,i 0,i 0,i 3,r 100,.bool true,i 181,r 101,.none,r 102,r 103,r 104,i 306,i 33,.str s1 307]
def o106:Obj:=fo s24 s24 (topT 14) (.str s77 278) (r 105)
def o107:Obj:=tu #[] 0
def o108:Obj:=⟨.none,none,.fields #[],#[]⟩
def o109:Obj:=tu #[.str s71 312,.str s80 313,.str s82 314,.str s72 315,.str s81 316] 0
def o110:Obj:=tu #[] 0
def o111:Obj:=f0 s25 s25 (topT 15)
def o112:Obj:=co #[.str s25 309,.str s25 310,.str s1 311,i 35,i 3,i 0,i 0,i 3,r 107,.bool true,i 181,r 108,.none,r 109,r 110,r 111,i 317,i 35,.str s1 318]
def o113:Obj:=fo s25 s25 (topT 15) (.str s77 278) (r 112)
def o114:Obj:=tu #[] 0
def o115:Obj:=⟨.none,none,.fields #[],#[]⟩
def o116:Obj:=tu #[.str s71 323,.str s80 324,.str s82 325] 0
def o117:Obj:=tu #[] 0
def o118:Obj:=f0 s26 s26 (topT 16)
def o119:Obj:=co #[.str s26 320,.str s26 321,.str s1 322,i 41,i 3,i 0,i 0,i 3,r 114,.bool true,i 181,r 115,.none,r 116,r 117,r 118,i 326,i 41,.str s1 327]
def o120:Obj:=fo s26 s26 (topT 16) (.str s77 278) (r 119)
def o121:Obj:=tu #[] 0
def o122:Obj:=⟨.none,none,.fields #[],#[]⟩
def o123:Obj:=f0 s27 s27 (topT 18)
def o124:Obj:=co #[.str s27 331,.str s27 332,.str s1 333,i 44,i 1,i 0,i 0,i 3,r 121,.bool true,i 181,r 122,.none,.none,.none,r 123,i 334,i 44,.str s1 335]
def o125:Obj:=fo s27 s27 (topT 18) (.str s83 329) (r 124)
def o126:Obj:=tu #[] 0
def o127:Obj:=⟨.none,none,.fields #[],#[]⟩
def o128:Obj:=f0 s28 s28 (topT 19)
def o129:Obj:=co #[.str s28 337,.str s28 338,.str s1 339,i 53,i 1,i 0,i 0,i 3,r 126,.bool true,i 181,r 127,.none,.none,.none,r 128,i 340,i 53,.str s1 341]
def o130:Obj:=fo s28 s28 (topT 19) (.str s83 329) (r 129)
def o131:Obj:=tu #[] 0
def o132:Obj:=⟨.none,none,.fields #[],#[]⟩
def o133:Obj:=tu #[.str s72 346,.str s84 347,.str s85 348,.str s86 349] 0
def o134:Obj:=tu #[] 0
def o135:Obj:=f0 s29 s29 (topT 20)
def o136:Obj:=co #[.str s29 343,.str s29 344,.str s1 345,i 55,i 1,i 0,i 0,i 3,r 131,.bool true,i 181,r 132,.none,r 133,r 134,r 135,i 350,i 55,.str s1 351]
def o137:Obj:=fo s29 s29 (topT 20) (.str s83 329) (r 136)
def o138:Obj:=tu #[] 0
def o139:Obj:=⟨.none,none,.fields #[],#[]⟩
def o140:Obj:=tu #[.str s87 356,.str s88 357,.str s84 358,.str s89 359,.str s90 360,.str s91 361,.str s92 362,.str s86 363] 0
def o141:Obj:=tu #[] 0
def o142:Obj:=f0 s30 s30 (topT 21)
def o143:Obj:=co #[.str s30 353,.str s30 354,.str s1 355,i 61,i 2,i 0,i 0,i 3,r 138,.bool true,i 181,r 139,.none,r 140,r 141,r 142,i 364,i 61,.str s1 365]
def o144:Obj:=fo s30 s30 (topT 21) (.str s83 329) (r 143)
def o145:Obj:=tu #[] 0
def o146:Obj:=⟨.none,none,.fields #[],#[]⟩
def o147:Obj:=tu #[.str s87 370,.str s88 371,.str s93 372,.str s84 373,.str s94 374] 0
def o148:Obj:=tu #[] 0
def o149:Obj:=f0 s31 s31 (topT 22)
def o150:Obj:=co #[.str s31 367,.str s31 368,.str s1 369,i 70,i 3,i 0,i 0,i 3,r 145,.bool true,i 181,r 146,.none,r 147,r 148,r 149,i 375,i 70,.str s1 376]
def o151:Obj:=fo s31 s31 (topT 22) (.str s83 329) (r 150)
def o152:Obj:=tu #[] 0
def o153:Obj:=⟨.none,none,.fields #[],#[]⟩
def o154:Obj:=tu #[.str s92 381] 0
def o155:Obj:=tu #[] 0
def o156:Obj:=f0 s32 s32 (topT 23)
def o157:Obj:=co #[.str s32 378,.str s32 379,.str s1 380,i 75,i 1,i 0,i 0,i 3,r 152,.bool true,i 181,r 153,.none,r 154,r 155,r 156,i 382,i 75,.str s1 383]
def o158:Obj:=fo s32 s32 (topT 23) (.str s83 329) (r 157)
def o159:Obj:=tu #[] 0
def o160:Obj:=⟨.none,none,.fields #[],#[]⟩
def o161:Obj:=tu #[.str s92 388] 0
def o162:Obj:=tu #[] 0
def o163:Obj:=f0 s33 s33 (topT 24)
def o164:Obj:=co #[.str s33 385,.str s33 386,.str s1 387,i 77,i 1,i 0,i 0,i 3,r 159,.bool true,i 181,r 160,.none,r 161,r 162,r 163,i 389,i 77,.str s1 390]
def o165:Obj:=fo s33 s33 (topT 24) (.str s83 329) (r 164)
def o166:Obj:=tu #[] 0
def o167:Obj:=⟨.none,none,.fields #[],#[]⟩
def o168:Obj:=tu #[.str s88 395,.str s85 396,.str s95 397,.str s87 398,.str s94 399] 0
def o169:Obj:=tu #[] 0
def o170:Obj:=f0 s34 s34 (topT 25)
def o171:Obj:=co #[.str s34 392,.str s34 393,.str s1 394,i 79,i 3,i 0,i 0,i 3,r 166,.bool true,i 181,r 167,.none,r 168,r 169,r 170,i 400,i 79,.str s1 401]
def o172:Obj:=fo s34 s34 (topT 25) (.str s83 329) (r 171)
def o173:Obj:=tu #[] 0
def o174:Obj:=⟨.none,none,.fields #[],#[]⟩
def o175:Obj:=f0 s35 s35 (topT 26)
def o176:Obj:=co #[.str s35 403,.str s35 404,.str s1 405,i 86,i 3,i 0,i 0,i 3,r 173,.bool true,i 181,r 174,.none,.none,.none,r 175,i 406,i 86,.str s1 407]
def o177:Obj:=fo s35 s35 (topT 26) (.str s83 329) (r 176)
def o178:Obj:=tu #[] 0
def o179:Obj:=⟨.none,none,.fields #[],#[]⟩
def o180:Obj:=f0 s36 s36 (topT 27)
def o181:Obj:=co #[.str s36 409,.str s36 410,.str s1 411,i 89,i 3,i 0,i 0,i 3,r 178,.bool true,i 181,r 179,.none,.none,.none,r 180,i 412,i 89,.str s1 413]
def o182:Obj:=fo s36 s36 (topT 27) (.str s83 329) (r 181)
def o183:Obj:=tu #[] 0
def o184:Obj:=⟨.none,none,.fields #[],#[]⟩
def o185:Obj:=f0 s37 s37 (topT 28)
def o186:Obj:=co #[.str s37 415,.str s37 416,.str s1 417,i 94,i 3,i 0,i 0,i 3,r 183,.bool true,i 181,r 184,.none,.none,.none,r 185,i 418,i 94,.str s1 419]
def o187:Obj:=fo s37 s37 (topT 28) (.str s83 329) (r 186)
def o188:Obj:=tu #[] 0
def o189:Obj:=⟨.none,none,.fields #[],#[]⟩
def o190:Obj:=f0 s38 s38 (topT 29)
def o191:Obj:=co #[.str s38 421,.str s38 422,.str s1 423,i 96,i 1,i 0,i 0,i 3,r 188,.bool true,i 181,r 189,.none,.none,.none,r 190,i 424,i 96,.str s1 425]
def o192:Obj:=fo s38 s38 (topT 29) (.str s83 329) (r 191)
def o193:Obj:=tu #[] 0
def o194:Obj:=⟨.none,none,.fields #[],#[]⟩
def o195:Obj:=f0 s42 s42 (topT 33)
def o196:Obj:=co #[.str s42 433,.str s42 434,.str s1 435,i 113,i 1,i 0,i 0,i 3,r 193,.bool true,i 181,r 194,.none,.none,.none,r 195,i 436,i 113,.str s1 437]
def o197:Obj:=fo s42 s42 (topT 33) (.str s96 427) (r 196)
def o198:Obj:=tu #[] 0
def o199:Obj:=⟨.none,none,.fields #[],#[]⟩
def o200:Obj:=tu #[.str s97 442] 0
def o201:Obj:=tu #[] 0
def o202:Obj:=f0 s43 s43 (topT 34)
def o203:Obj:=co #[.str s43 439,.str s43 440,.str s1 441,i 122,i 1,i 0,i 0,i 3,r 198,.bool true,i 181,r 199,.none,r 200,r 201,r 202,i 443,i 122,.str s1 444]
def o204:Obj:=fo s43 s43 (topT 34) (.str s96 427) (r 203)
def o205:Obj:=tu #[] 0
def o206:Obj:=⟨.none,none,.fields #[],#[]⟩
def o207:Obj:=tu #[.str s97 449] 0
def o208:Obj:=tu #[] 0
def o209:Obj:=f0 s44 s44 (topT 35)
def o210:Obj:=co #[.str s44 446,.str s44 447,.str s1 448,i 126,i 1,i 0,i 0,i 3,r 205,.bool true,i 181,r 206,.none,r 207,r 208,r 209,i 450,i 126,.str s1 451]
def o211:Obj:=fo s44 s44 (topT 35) (.str s96 427) (r 210)
def o212:Obj:=tu #[] 0
def o213:Obj:=⟨.type q3,none,.fields #[.builtin q4,.type q5],#[]⟩
def o214(P:Params):Obj:=⟨.type q1,none,.dict #[⟨kh P s64,.str s64 460,.str s96 427⟩,⟨kh P s66,.str s66 462,.str s45 461⟩,⟨kh P s67,.str s67 464,.int 129 463⟩,⟨kh P s68,.str s68 465,r 219⟩] 4,#[]⟩
def o215:Obj:=tu #[] 0
def o216:Obj:=⟨.none,none,.fields #[],#[]⟩
def o217:Obj:=co #[.str s45 455,.str s45 456,.str s1 457,i 129,i 0,i 0,i 0,i 0,r 215,.bool false,i 181,r 216,.none,.none,.none,.none,i 458,i 129,.str s1 459]
def o218:Obj:=⟨.type q0,none,.plain,#[some (r 217),some (r 3),some (r 214),none,some (.str s96 427),none,some (r 0)]⟩
def o219:Obj:=tu #[] 0
def o220(P:Params):Obj:=⟨.type q1,none,.dict #[⟨kh P s64,.str s64 460,.str s96 427⟩,⟨kh P s67,.str s67 464,.int 129 463⟩,⟨kh P s68,.str s68 465,r 219⟩,⟨kh P s98,.str s98 467,r 222⟩,⟨kh P s69,.str s69 469,r 223⟩,⟨kh P s5,.str s5 470,.none⟩] 4,#[]⟩
def o221:Obj:=⟨.type q5,none,.cls ⟨s45,[.type q8],[r 221,.type q8],220,s45,true,[],[r 263],false,none,false⟩,#[none,none,some (.str s45 453),some (.str s45 461),some (.builtin q13),some (.bool true)]⟩
def o222:Obj:=⟨.type q10,none,.fields #[.str s98 466,r 221,.builtin SL.s6511155373996960695x17,.builtin SL.s12411053484034534018x21],#[]⟩
def o223:Obj:=⟨.type q10,none,.fields #[.str s69 468,r 221,.builtin SL.s10220274742760427390x26,.none],#[]⟩
def o224:Obj:=⟨.type q11,none,.fields #[r 221,r 221,r 221],#[]⟩
def o225:Obj:=⟨.type q3,none,.fields #[.builtin q12,r 221],#[]⟩
def o226:Obj:=tu #[r 221] 0
def o227:Obj:=⟨.type q3,none,.fields #[.builtin q4,.type q5],#[]⟩
def o228(P:Params):Obj:=⟨.type q1,none,.dict #[⟨kh P s64,.str s64 480,.str s96 427⟩,⟨kh P s66,.str s66 482,.str s46 481⟩,⟨kh P s67,.str s67 484,.int 131 483⟩,⟨kh P s99,.str s99 491,r 239⟩,⟨kh P s100,.str s100 498,r 246⟩,⟨kh P s101,.str s101 506,r 253⟩,⟨kh P s102,.str s102 514,r 260⟩,⟨kh P s68,.str s68 515,r 261⟩] 8,#[]⟩
def o229:Obj:=tu #[] 0
def o230:Obj:=⟨.none,none,.fields #[i 133,i 4,r 238,i 136,i 4,r 245,i 139,i 4,r 252,i 142,i 4,r 259],#[]⟩
def o231:Obj:=co #[.str s46 475,.str s46 476,.str s1 477,i 131,i 0,i 0,i 0,i 0,r 229,.bool false,i 181,r 230,.none,.none,.none,.none,i 478,i 131,.str s1 479]
def o232:Obj:=⟨.type q0,none,.plain,#[some (r 231),some (r 3),some (r 228),none,some (.str s96 427),none,some (r 0)]⟩
def o233:Obj:=tu #[] 0
def o234:Obj:=⟨.none,none,.fields #[],#[]⟩
def o235:Obj:=tu #[.str s103 488] 0
def o236:Obj:=tu #[] 0
def o237:Obj:=f0 s99 s104 (L2.inClass (topT 37) 0)
def o238:Obj:=co #[.str s99 485,.str s104 486,.str s1 487,i 133,i 1,i 0,i 0,i 3,r 233,.bool true,i 181,r 234,.none,r 235,r 236,r 237,i 489,i 133,.str s1 490]
def o239:Obj:=fo s99 s104 (L2.inClass (topT 37) 0) (.str s96 427) (r 238)
def o240:Obj:=tu #[] 0
def o241:Obj:=⟨.none,none,.fields #[],#[]⟩
def o242:Obj:=tu #[.str s103 495] 0
def o243:Obj:=tu #[] 0
def o244:Obj:=f0 s100 s105 (L2.inClass (topT 37) 1)
def o245:Obj:=co #[.str s100 492,.str s105 493,.str s1 494,i 136,i 1,i 0,i 0,i 3,r 240,.bool true,i 181,r 241,.none,r 242,r 243,r 244,i 496,i 136,.str s1 497]
def o246:Obj:=fo s100 s105 (L2.inClass (topT 37) 1) (.str s96 427) (r 245)
def o247:Obj:=tu #[] 0
def o248:Obj:=⟨.none,none,.fields #[],#[]⟩
def o249:Obj:=tu #[.str s103 502,.str s75 503] 0
def o250:Obj:=tu #[] 0
def o251:Obj:=f0 s101 s106 (L2.inClass (topT 37) 2)
def o252:Obj:=co #[.str s101 499,.str s106 500,.str s1 501,i 139,i 2,i 0,i 0,i 3,r 247,.bool true,i 181,r 248,.none,r 249,r 250,r 251,i 504,i 139,.str s1 505]
def o253:Obj:=fo s101 s106 (L2.inClass (topT 37) 2) (.str s96 427) (r 252)
def o254:Obj:=tu #[] 0
def o255:Obj:=⟨.none,none,.fields #[],#[]⟩
def o256:Obj:=tu #[.str s103 510,.str s75 511] 0
def o257:Obj:=tu #[] 0
def o258:Obj:=f0 s102 s107 (L2.inClass (topT 37) 3)
def o259:Obj:=co #[.str s102 507,.str s107 508,.str s1 509,i 142,i 2,i 0,i 0,i 3,r 254,.bool true,i 181,r 255,.none,r 256,r 257,r 258,i 512,i 142,.str s1 513]
def o260:Obj:=fo s102 s107 (L2.inClass (topT 37) 3) (.str s96 427) (r 259)
def o261:Obj:=tu #[] 0
def o262(P:Params):Obj:=⟨.type q1,none,.dict #[⟨kh P s64,.str s64 480,.str s96 427⟩,⟨kh P s67,.str s67 484,.int 131 483⟩,⟨kh P s99,.str s99 491,r 239⟩,⟨kh P s100,.str s100 498,r 246⟩,⟨kh P s101,.str s101 506,r 253⟩,⟨kh P s102,.str s102 514,r 260⟩,⟨kh P s68,.str s68 515,r 261⟩,⟨kh P s5,.str s5 516,.none⟩] 2,#[]⟩
def o263:Obj:=⟨.type q5,none,.cls ⟨s46,[r 221],[r 263,r 221,.type q8],262,s46,true,[],[r 331],false,none,false⟩,#[some (r 226),none,some (.str s46 473),some (.str s46 481),some (.builtin q13),some (.bool true)]⟩
def o264:Obj:=⟨.type q11,none,.fields #[r 263,r 263,r 263],#[]⟩
def o265:Obj:=⟨.type q3,none,.fields #[.builtin q12,r 263],#[]⟩
def o266:Obj:=tu #[r 263] 0
def o267:Obj:=⟨.type q3,none,.fields #[.builtin q4,.type q5],#[]⟩
def o268(P:Params):Obj:=⟨.type q1,none,.dict #[⟨kh P s64,.str s64 526,.str s96 427⟩,⟨kh P s66,.str s66 528,.str s47 527⟩,⟨kh P s67,.str s67 530,.int 144 529⟩,⟨kh P s84,.str s84 537,r 279⟩,⟨kh P s108,.str s108 544,r 286⟩,⟨kh P s109,.str s109 551,r 293⟩,⟨kh P s110,.str s110 560,r 300⟩,⟨kh P s111,.str s111 569,r 307⟩,⟨kh P s112,.str s112 577,r 314⟩,⟨kh P s113,.str s113 585,r 321⟩,⟨kh P s114,.str s114 593,r 328⟩,⟨kh P s68,.str s68 594,r 329⟩] 12,#[]⟩
def o269:Obj:=tu #[] 0
def o270:Obj:=⟨.none,none,.fields #[i 146,i 4,r 278,i 149,i 4,r 285,i 152,i 4,r 292,i 155,i 4,r 299,i 162,i 4,r 306,i 167,i 4,r 313,i 170,i 4,r 320,i 173,i 4,r 327],#[]⟩
def o271:Obj:=co #[.str s47 521,.str s47 522,.str s1 523,i 144,i 0,i 0,i 0,i 0,r 269,.bool false,i 181,r 270,.none,.none,.none,.none,i 524,i 144,.str s1 525]
def o272:Obj:=⟨.type q0,none,.plain,#[some (r 271),some (r 3),some (r 268),none,some (.str s96 427),none,some (r 0)]⟩
def o273:Obj:=tu #[] 0
def o274:Obj:=⟨.none,none,.fields #[],#[]⟩
def o275:Obj:=tu #[.str s103 534] 0
def o276:Obj:=tu #[] 0
def o277:Obj:=f0 s84 s115 (L2.inClass (topT 38) 0)
def o278:Obj:=co #[.str s84 531,.str s115 532,.str s1 533,i 146,i 1,i 0,i 0,i 3,r 273,.bool true,i 181,r 274,.none,r 275,r 276,r 277,i 535,i 146,.str s1 536]
def o279:Obj:=fo s84 s115 (L2.inClass (topT 38) 0) (.str s96 427) (r 278)
def o280:Obj:=tu #[] 0
def o281:Obj:=⟨.none,none,.fields #[],#[]⟩
def o282:Obj:=tu #[.str s103 541] 0
def o283:Obj:=tu #[] 0
def o284:Obj:=f0 s108 s116 (L2.inClass (topT 38) 1)
def o285:Obj:=co #[.str s108 538,.str s116 539,.str s1 540,i 149,i 1,i 0,i 0,i 3,r 280,.bool true,i 181,r 281,.none,r 282,r 283,r 284,i 542,i 149,.str s1 543]
def o286:Obj:=fo s108 s116 (L2.inClass (topT 38) 1) (.str s96 427) (r 285)
def o287:Obj:=tu #[] 0
def o288:Obj:=⟨.none,none,.fields #[],#[]⟩
def o289:Obj:=tu #[.str s103 548] 0
def o290:Obj:=tu #[] 0
def o291:Obj:=f0 s109 s117 (L2.inClass (topT 38) 2)
def o292:Obj:=co #[.str s109 545,.str s117 546,.str s1 547,i 152,i 1,i 0,i 0,i 3,r 287,.bool true,i 181,r 288,.none,r 289,r 290,r 291,i 549,i 152,.str s1 550]
def o293:Obj:=fo s109 s117 (L2.inClass (topT 38) 2) (.str s96 427) (r 292)
def o294:Obj:=tu #[] 0
def o295:Obj:=⟨.none,none,.fields #[],#[]⟩
def o296:Obj:=tu #[.str s103 555,.str s75 556,.str s76 557] 0
def o297:Obj:=tu #[] 0
def o298:Obj:=f0 s110 s118 (L2.inClass (topT 38) 3)
def o299:Obj:=co #[.str s110 552,.str s118 553,.str s1 554,i 155,i 3,i 0,i 0,i 3,r 294,.bool true,i 181,r 295,.none,r 296,r 297,r 298,i 558,i 155,.str s1 559]
def o300:Obj:=fo s110 s118 (L2.inClass (topT 38) 3) (.str s96 427) (r 299)
def o301:Obj:=tu #[] 0
def o302:Obj:=⟨.none,none,.fields #[],#[]⟩
def o303:Obj:=tu #[.str s103 564,.str s75 565,.str s76 566] 0
def o304:Obj:=tu #[] 0
def o305:Obj:=f0 s111 s119 (L2.inClass (topT 38) 4)
def o306:Obj:=co #[.str s111 561,.str s119 562,.str s1 563,i 162,i 3,i 0,i 0,i 3,r 301,.bool true,i 181,r 302,.none,r 303,r 304,r 305,i 567,i 162,.str s1 568]
def o307:Obj:=fo s111 s119 (L2.inClass (topT 38) 4) (.str s96 427) (r 306)
def o308:Obj:=tu #[] 0
def o309:Obj:=⟨.none,none,.fields #[],#[]⟩
def o310:Obj:=tu #[.str s103 573,.str s79 574] 0
def o311:Obj:=tu #[] 0
def o312:Obj:=f0 s112 s120 (L2.inClass (topT 38) 5)
def o313:Obj:=co #[.str s112 570,.str s120 571,.str s1 572,i 167,i 2,i 0,i 0,i 3,r 308,.bool true,i 181,r 309,.none,r 310,r 311,r 312,i 575,i 167,.str s1 576]
def o314:Obj:=fo s112 s120 (L2.inClass (topT 38) 5) (.str s96 427) (r 313)
def o315:Obj:=tu #[] 0
def o316:Obj:=⟨.none,none,.fields #[],#[]⟩
def o317:Obj:=tu #[.str s103 581,.str s75 582] 0
def o318:Obj:=tu #[] 0
def o319:Obj:=f0 s113 s121 (L2.inClass (topT 38) 6)
def o320:Obj:=co #[.str s113 578,.str s121 579,.str s1 580,i 170,i 2,i 0,i 0,i 3,r 315,.bool true,i 181,r 316,.none,r 317,r 318,r 319,i 583,i 170,.str s1 584]
def o321:Obj:=fo s113 s121 (L2.inClass (topT 38) 6) (.str s96 427) (r 320)
def o322:Obj:=tu #[] 0
def o323:Obj:=⟨.none,none,.fields #[],#[]⟩
def o324:Obj:=tu #[.str s103 589,.str s97 590] 0
def o325:Obj:=tu #[] 0
def o326:Obj:=f0 s114 s122 (L2.inClass (topT 38) 7)
def o327:Obj:=co #[.str s114 586,.str s122 587,.str s1 588,i 173,i 2,i 0,i 0,i 3,r 322,.bool true,i 181,r 323,.none,r 324,r 325,r 326,i 591,i 173,.str s1 592]
def o328:Obj:=fo s114 s122 (L2.inClass (topT 38) 7) (.str s96 427) (r 327)
def o329:Obj:=tu #[] 0
def o330(P:Params):Obj:=⟨.type q1,none,.dict #[⟨kh P s64,.str s64 526,.str s96 427⟩,⟨kh P s67,.str s67 530,.int 144 529⟩,⟨kh P s84,.str s84 537,r 279⟩,⟨kh P s108,.str s108 544,r 286⟩,⟨kh P s109,.str s109 551,r 293⟩,⟨kh P s110,.str s110 560,r 300⟩,⟨kh P s111,.str s111 569,r 307⟩,⟨kh P s112,.str s112 577,r 314⟩,⟨kh P s113,.str s113 585,r 321⟩,⟨kh P s114,.str s114 593,r 328⟩,⟨kh P s68,.str s68 594,r 329⟩,⟨kh P s5,.str s5 595,.none⟩] 2,#[]⟩
def o331:Obj:=⟨.type q5,none,.cls ⟨s47,[r 263],[r 331,r 263,r 221,.type q8],330,s47,true,[],[],false,none,false⟩,#[some (r 266),none,some (.str s47 519),some (.str s47 527),some (.builtin q13),some (.bool true)]⟩
def o332:Obj:=⟨.type q11,none,.fields #[r 331,r 331,r 331],#[]⟩
def o333:Obj:=⟨.type q3,none,.fields #[.builtin q12,r 331],#[]⟩
def o334:Obj:=tu #[] 0
def o335:Obj:=⟨.none,none,.fields #[],#[]⟩
def o336:Obj:=tu #[.str s123 603,.str s124 604,.str s125 605] 0
def o337:Obj:=tu #[] 0
def o338:Obj:=f0 s48 s48 (topT 40)
def o339:Obj:=co #[.str s48 600,.str s48 601,.str s1 602,i 179,i 1,i 0,i 0,i 3,r 334,.bool true,i 181,r 335,.none,r 336,r 337,r 338,i 606,i 179,.str s1 607]
def o340:Obj:=fo s48 s48 (topT 40) (.str s4 598) (r 339)
def o341:Obj:=tu #[] 0
def o342:Obj:=⟨.none,none,.fields #[],#[]⟩
def o343:Obj:=tu #[.str s126 612,.str s127 613,.str s128 614] 0
def o344:Obj:=tu #[] 0
def o345:Obj:=f0 s49 s49 (topT 41)
def o346:Obj:=co #[.str s49 609,.str s49 610,.str s1 611,i 186,i 2,i 0,i 0,i 3,r 341,.bool true,i 181,r 342,.none,r 343,r 344,r 345,i 615,i 186,.str s1 616]
def o347:Obj:=fo s49 s49 (topT 41) (.str s4 598) (r 346)
def o348:Obj:=tu #[] 0
def o349:Obj:=⟨.none,none,.fields #[],#[]⟩
def o350:Obj:=tu #[.str s126 621,.str s129 622,.str s130 623] 0
def o351:Obj:=tu #[] 0
def o352:Obj:=f0 s50 s50 (topT 42)
def o353:Obj:=co #[.str s50 618,.str s50 619,.str s1 620,i 195,i 3,i 0,i 0,i 3,r 348,.bool true,i 181,r 349,.none,r 350,r 351,r 352,i 624,i 195,.str s1 625]
def o354:Obj:=fo s50 s50 (topT 42) (.str s4 598) (r 353)
def o355:Obj:=tu #[] 0
def o356:Obj:=⟨.none,none,.fields #[],#[]⟩
def o357:Obj:=tu #[.str s126 630,.str s131 631,.str s132 632,.str s133 633,.str s134 634] 0
def o358:Obj:=tu #[] 0
def o359:Obj:=f0 s51 s51 (topT 43)
def o360:Obj:=co #[.str s51 627,.str s51 628,.str s1 629,i 199,i 1,i 0,i 0,i 3,r 355,.bool true,i 181,r 356,.none,r 357,r 358,r 359,i 635,i 199,.str s1 636]
def o361:Obj:=fo s51 s51 (topT 43) (.str s4 598) (r 360)
def o362:Obj:=tu #[] 0
def o363:Obj:=⟨.none,none,.fields #[],#[]⟩
def o364:Obj:=tu #[.str s126 641,.str s135 642,.str s127 643,.str s136 644,.str s133 645,.str s137 646] 0
def o365:Obj:=tu #[] 0
def o366:Obj:=f0 s52 s52 (topT 44)
def o367:Obj:=co #[.str s52 638,.str s52 639,.str s1 640,i 207,i 3,i 0,i 0,i 3,r 362,.bool true,i 181,r 363,.none,r 364,r 365,r 366,i 647,i 207,.str s1 648]
def o368:Obj:=fo s52 s52 (topT 44) (.str s4 598) (r 367)
def o369:Obj:=tu #[] 0
def o370:Obj:=⟨.none,none,.fields #[],#[]⟩
def o371:Obj:=tu #[.str s126 653] 0
def o372:Obj:=tu #[] 0
def o373:Obj:=f0 s53 s53 (topT 45)
def o374:Obj:=co #[.str s53 650,.str s53 651,.str s1 652,i 215,i 1,i 0,i 0,i 3,r 369,.bool true,i 181,r 370,.none,r 371,r 372,r 373,i 654,i 215,.str s1 655]
def o375:Obj:=fo s53 s53 (topT 45) (.str s4 598) (r 374)
def o376:Obj:=tu #[] 0
def o377:Obj:=⟨.none,none,.fields #[],#[]⟩
def o378:Obj:=tu #[.str s126 660,.str s138 661,.str s127 662,.str s139 663,.str s135 664,.str s140 665,.str s134 666,.str s141 667,.str s142 668,.str s136 669,.str s133 670] 0
def o379:Obj:=tu #[] 0
def o380:Obj:=f0 s54 s54 (topT 46)
def o381:Obj:=co #[.str s54 657,.str s54 658,.str s1 659,i 217,i 4,i 0,i 0,i 3,r 376,.bool true,i 181,r 377,.none,r 378,r 379,r 380,i 671,i 217,.str s1 672]
def o382:Obj:=fo s54 s54 (topT 46) (.str s4 598) (r 381)
def o383:Obj:=tu #[] 0
def o384:Obj:=⟨.none,none,.fields #[],#[]⟩
def o385:Obj:=f0 s55 s55 (topT 47)
def o386:Obj:=co #[.str s55 674,.str s55 675,.str s1 676,i 230,i 2,i 0,i 0,i 3,r 383,.bool true,i 181,r 384,.none,.none,.none,r 385,i 677,i 230,.str s1 678]
def o387:Obj:=fo s55 s55 (topT 47) (.str s4 598) (r 386)
def o388:Obj:=tu #[] 0
def o389:Obj:=⟨.none,none,.fields #[],#[]⟩
def o390:Obj:=f0 s56 s56 (topT 48)
def o391:Obj:=co #[.str s56 680,.str s56 681,.str s1 682,i 246,i 2,i 0,i 0,i 3,r 388,.bool true,i 181,r 389,.none,.none,.none,r 390,i 683,i 246,.str s1 684]
def o392:Obj:=fo s56 s56 (topT 48) (.str s4 598) (r 391)
def o393:Obj:=tu #[] 0
def o394:Obj:=⟨.none,none,.fields #[],#[]⟩
def o395:Obj:=tu #[.str s143 689,.str s144 690] 0
def o396:Obj:=tu #[] 0
def o397:Obj:=f0 s57 s57 (topT 49)
def o398:Obj:=co #[.str s57 686,.str s57 687,.str s1 688,i 259,i 2,i 0,i 0,i 3,r 393,.bool true,i 181,r 394,.none,r 395,r 396,r 397,i 691,i 259,.str s1 692]
def o399:Obj:=fo s57 s57 (topT 49) (.str s4 598) (r 398)
def o400:Obj:=tu #[] 0
def o401:Obj:=⟨.none,none,.fields #[],#[]⟩
def o402:Obj:=tu #[.str s145 697,.str s146 698,.str s127 699,.str s136 700,.str s134 701,.str s141 702,.str s147 703,.str s142 704,.str s133 705,.str s148 706] 0
def o403:Obj:=tu #[] 0
def o404:Obj:=f0 s58 s58 (topT 50)
def o405:Obj:=co #[.str s58 694,.str s58 695,.str s1 696,i 263,i 2,i 0,i 0,i 3,r 400,.bool true,i 181,r 401,.none,r 402,r 403,r 404,i 707,i 263,.str s1 708]
def o406:Obj:=fo s58 s58 (topT 50) (.str s4 598) (r 405)
def o407:Obj:=tu #[] 0
def o408:Obj:=⟨.none,none,.fields #[],#[]⟩
def o409:Obj:=tu #[.str s138 713,.str s130 714,.str s131 715,.str s149 716,.str s133 717,.str s147 718,.str s146 719,.str s134 720] 0
def o410:Obj:=tu #[] 0
def o411:Obj:=f0 s59 s59 (topT 51)
def o412:Obj:=co #[.str s59 710,.str s59 711,.str s1 712,i 279,i 2,i 0,i 0,i 3,r 407,.bool true,i 181,r 408,.none,r 409,r 410,r 411,i 721,i 279,.str s1 722]
def o413:Obj:=fo s59 s59 (topT 51) (.str s4 598) (r 412)
def o414:Obj:=tu #[] 0
def o415:Obj:=⟨.none,none,.fields #[],#[]⟩
def o416:Obj:=tu #[.str s145 727,.str s146 728,.str s150 729] 0
def o417:Obj:=tu #[] 0
def o418:Obj:=f0 s60 s60 (topT 52)
def o419:Obj:=co #[.str s60 724,.str s60 725,.str s1 726,i 290,i 2,i 0,i 0,i 3,r 414,.bool true,i 181,r 415,.none,r 416,r 417,r 418,i 730,i 290,.str s1 731]
def o420:Obj:=fo s60 s60 (topT 52) (.str s4 598) (r 419)
def o421:Obj:=tu #[] 0
def o422:Obj:=⟨.none,none,.fields #[],#[]⟩
def o423:Obj:=f0 s61 s61 (topT 53)
def o424:Obj:=co #[.str s61 733,.str s61 734,.str s1 735,i 295,i 2,i 0,i 0,i 3,r 421,.bool true,i 181,r 422,.none,.none,.none,r 423,i 736,i 295,.str s1 737]
def o425:Obj:=fo s61 s61 (topT 53) (.str s4 598) (r 424)
def o426:Obj:=tu #[] 0
def o427:Obj:=⟨.none,none,.fields #[],#[]⟩
def o428:Obj:=f0 s62 s62 (topT 54)
def o429:Obj:=co #[.str s62 739,.str s62 740,.str s1 741,i 307,i 1,i 0,i 0,i 3,r 426,.bool true,i 181,r 427,.none,.none,.none,r 428,i 742,i 307,.str s1 743]
def o430:Obj:=fo s62 s62 (topT 54) (.str s4 598) (r 429)
def envT:Env:={ scope:=Fast.tw2205068122024722360.main.scope,locals:=mainNs,globals:=mainNs,cells:=[],code:=(r 13),frame:=some 14 }
def cT:Code:=.body (behindTheImports Fast.tw2205068122024722360) envT
def qP:Pos:=⟨0,0,0,0⟩
def Ha(P:Params):Heap:=⟨⟨[boot_o_0 P,boot_o_1 P,boot_o_2 P,boot_o_3 P,boot_o_4 P,boot_o_5 P,boot_o_6 P,boot_o_7 P,boot_o_8 P,boot_o_9 P,boot_o_10 P,o11a,o12a,o13a,o14a]⟩,PySem.Life.mk [] [] [] 0 [] [] false #[] [] 0 false false false 0 [2000,10,10] false 0 true [] [] 0 false⟩
def Sa(w:World)(os:OsState):Shared:=⟨Ha w.params,⟨[]⟩,PySem.Drawn.mk 0 0 0 0,187,os⟩
def Tb(P:Params):BT:=(nd (boot_o_0 P) (nd (boot_o_1 P) (nd (boot_o_3 P) (lf (boot_o_7 P)) (lf o11a)) (nd (boot_o_5 P) (lf (boot_o_9 P)) (lf o13a))) (nd (boot_o_2 P) (nd (boot_o_4 P) (lf (boot_o_8 P)) (lf o12a)) (nd (boot_o_6 P) (lf (boot_o_10 P)) (lf o14a))))
def Sb(w:World)(os:OsState):SharedT:=⟨Tb w.params,15,PySem.Life.mk [] [] [] 0 [] [] false #[] [] 0 false false false 0 [2000,10,10] false 0 true [] [] 0 false,⟨[]⟩,PySem.Drawn.mk 0 0 0 0,187,os⟩
def T0(P:Params):BT:=(nd (boot_o_0 P) (nd (boot_o_1 P) (nd (o3 P) (nd (boot_o_7 P) (nd o15 (nd o31 (nd o63 (nd o127 (lf o255) (lf o383)) (nd o191 (lf o319) nl)) (nd o95 (nd o159 (lf o287) (lf o415)) (nd o223 (lf o351) nl))) (nd o47 (nd o79 (nd o143 (lf o271) (lf o399)) (nd o207 (lf o335) nl)) (nd o111 (nd o175 (lf o303) nl) (nd o239 (lf o367) nl)))) (nd o23 (nd o39 (nd o71 (nd o135 (lf o263) (lf o391)) (nd o199 (lf o327) nl)) (nd o103 (nd o167 (lf o295) (lf o423)) (nd o231 (lf o359) nl))) (nd (o55 P) (nd o87 (nd o151 (lf o279) (lf o407)) (nd o215 (lf o343) nl)) (nd o119 (nd o183 (lf o311) nl) (nd o247 (lf o375) nl))))) (nd o11a (nd o19 (nd o35 (nd o67 (nd o131 (lf o259) (lf o387)) (nd o195 (lf o323) nl)) (nd o99 (nd o163 (lf o291) (lf o419)) (nd o227 (lf o355) nl))) (nd o51 (nd o83 (nd o147 (lf o275) (lf o403)) (nd o211 (lf o339) nl)) (nd o115 (nd o179 (lf o307) nl) (nd o243 (lf o371) nl)))) (nd o27 (nd (o43 P) (nd o75 (nd o139 (lf o267) (lf o395)) (nd o203 (lf o331) nl)) (nd o107 (nd o171 (lf o299) (lf o427)) (nd o235 (lf o363) nl))) (nd o59 (nd o91 (nd o155 (lf o283) (lf o411)) (nd o219 (lf o347) nl)) (nd o123 (nd o187 (lf o315) nl) (nd o251 (lf o379) nl)))))) (nd (boot_o_5 P) (nd (boot_o_9 P) (nd o17 (nd o33 (nd o65 (nd o129 (lf o257) (lf o385)) (nd o193 (lf o321) nl)) (nd o97 (nd o161 (lf o289) (lf o417)) (nd o225 (lf o353) nl))) (nd (o49 P) (nd o81 (nd o145 (lf o273) (lf o401)) (nd o209 (lf o337) nl)) (nd o113 (nd o177 (lf o305) nl) (nd o241 (lf o369) nl)))) (nd o25 (nd o41 (nd o73 (nd o137 (lf o265) (lf o393)) (nd o201 (lf o329) nl)) (nd o105 (nd o169 (lf o297) (lf o425)) (nd o233 (lf o361) nl))) (nd o57 (nd o89 (nd o153 (lf o281) (lf o409)) (nd o217 (lf o345) nl)) (nd o121 (nd o185 (lf o313) nl) (nd o249 (lf o377) nl))))) (nd o13a (nd o21 (nd (o37 P) (nd o69 (nd o133 (lf o261) (lf o389)) (nd o197 (lf o325) nl)) (nd o101 (nd o165 (lf o293) (lf o421)) (nd o229 (lf o357) nl))) (nd o53 (nd o85 (nd o149 (lf o277) (lf o405)) (nd o213 (lf o341) nl)) (nd o117 (nd o181 (lf o309) nl) (nd o245 (lf o373) nl)))) (nd o29 (nd o45 (nd o77 (nd o141 (lf o269) (lf o397)) (nd o205 (lf o333) nl)) (nd o109 (nd o173 (lf o301) (lf o429)) (nd o237 (lf o365) nl))) (nd o61 (nd o93 (nd o157 (lf o285) (lf o413)) (nd o221 (lf o349) nl)) (nd o125 (nd o189 (lf o317) nl) (nd o253 (lf o381) nl))))))) (nd (boot_o_2 P) (nd (boot_o_4 P) (nd (boot_o_8 P) (nd o16 (nd o32 (nd o64 (nd o128 (lf o256) (lf o384)) (nd o192 (lf o320) nl)) (nd o96 (nd o160 (lf o288) (lf o416)) (nd o224 (lf o352) nl))) (nd o48 (nd o80 (nd o144 (lf o272) (lf o400)) (nd o208 (lf o336) nl)) (nd o112 (nd o176 (lf o304) nl) (nd o240 (lf o368) nl)))) (nd (o24 P) (nd o40 (nd o72 (nd o136 (lf o264) (lf o392)) (nd o200 (lf o328) nl)) (nd o104 (nd o168 (lf o296) (lf o424)) (nd o232 (lf o360) nl))) (nd o56 (nd o88 (nd o152 (lf o280) (lf o408)) (nd o216 (lf o344) nl)) (nd o120 (nd o184 (lf o312) nl) (nd o248 (lf o376) nl))))) (nd o12 (nd o20 (nd o36 (nd o68 (nd o132 (lf o260) (lf o388)) (nd o196 (lf o324) nl)) (nd o100 (nd o164 (lf o292) (lf o420)) (nd (o228 P) (lf o356) nl))) (nd o52 (nd o84 (nd o148 (lf o276) (lf o404)) (nd o212 (lf o340) nl)) (nd o116 (nd o180 (lf o308) nl) (nd o244 (lf o372) nl)))) (nd o28 (nd o44 (nd o76 (nd o140 (lf (o268 P)) (lf o396)) (nd o204 (lf o332) nl)) (nd o108 (nd o172 (lf o300) (lf o428)) (nd o236 (lf o364) nl))) (nd o60 (nd o92 (nd o156 (lf o284) (lf o412)) (nd (o220 P) (lf o348) nl)) (nd o124 (nd o188 (lf o316) nl) (nd o252 (lf o380) nl)))))) (nd (boot_o_6 P) (nd (boot_o_10 P) (nd o18 (nd o34 (nd o66 (nd o130 (lf o258) (lf o386)) (nd o194 (lf o322) nl)) (nd o98 (nd o162 (lf o290) (lf o418)) (nd o226 (lf o354) nl))) (nd o50 (nd o82 (nd o146 (lf o274) (lf o402)) (nd o210 (lf o338) nl)) (nd o114 (nd o178 (lf o306) nl) (nd o242 (lf o370) nl)))) (nd o26 (nd o42 (nd o74 (nd o138 (lf o266) (lf o394)) (nd o202 (lf (o330 P)) nl)) (nd o106 (nd o170 (lf o298) (lf o426)) (nd o234 (lf o362) nl))) (nd o58 (nd o90 (nd o154 (lf o282) (lf o410)) (nd o218 (lf o346) nl)) (nd o122 (nd o186 (lf o314) nl) (nd o250 (lf o378) nl))))) (nd o14a (nd o22 (nd o38 (nd o70 (nd o134 (lf (o262 P)) (lf o390)) (nd o198 (lf o326) nl)) (nd o102 (nd o166 (lf o294) (lf o422)) (nd o230 (lf o358) nl))) (nd o54 (nd o86 (nd o150 (lf o278) (lf o406)) (nd (o214 P) (lf o342) nl)) (nd o118 (nd o182 (lf o310) nl) (nd o246 (lf o374) nl)))) (nd (o30 P) (nd o46 (nd o78 (nd o142 (lf o270) (lf o398)) (nd o206 (lf o334) nl)) (nd o110 (nd o174 (lf o302) (lf o430)) (nd o238 (lf o366) nl))) (nd o62 (nd o94 (nd o158 (lf o286) (lf o414)) (nd o222 (lf o350) nl)) (nd o126 (nd o190 (lf o318) nl) (nd o254 (lf o382) nl))))))))
def S0(w:World)(os:OsState):SharedT:=⟨T0 w.params,431,PySem.Life.mk [] [] [] 0 [] [] false #[] [] 0 false false false 0 [2000,10,10] false 0 true [] [] 0 false,⟨[]⟩,PySem.Drawn.mk 0 0 0 0,745,os⟩
def Hf(P:Params):Heap:=⟨⟨[boot_o_0 P,boot_o_1 P,boot_o_2 P,o3 P,boot_o_4 P,boot_o_5 P,boot_o_6 P,boot_o_7 P,boot_o_8 P,boot_o_9 P,boot_o_10 P,o11a,o12,o13a,o14a,o15,o16,o17,o18,o19,o20,o21,o22,o23,o24 P,o25,o26,o27,o28,o29,o30 P,o31,o32,o33,o34,o35,o36,o37 P,o38,o39,o40,o41,o42,o43 P,o44,o45,o46,o47,o48,o49 P,o50,o51,o52,o53,o54,o55 P,o56,o57,o58,o59,o60,o61,o62,o63,o64,o65,o66,o67,o68,o69,o70,o71,o72,o73,o74,o75,o76,o77,o78,o79,o80,o81,o82,o83,o84,o85,o86,o87,o88,o89,o90,o91,o92,o93,o94,o95,o96,o97,o98,o99,o100,o101,o102,o103,o104,o105,o106,o107,o108,o109,o110,o111,o112,o113,o114,o115,o116,o117,o118,o119,o120,o121,o122,o123,o124,o125,o126,o127,o128,o129,o130,o131,o132,o133,o134,o135,o136,o137,o138,o139,o140,o141,o142,o143,o144,o145,o146,o147,o148,o149,o150,o151,o152,o153,o154,o155,o156,o157,o158,o159,o160,o161,o162,o163,o164,o165,o166,o167,o168,o169,o170,o171,o172,o173,o174,o175,o176,o177,o178,o179,o180,o181,o182,o183,o184,o185,o186,o187,o188,o189,o190,o191,o192,o193,o194,o195,o196,o197,o198,o199,o200,o201,o202,o203,o204,o205,o206,o207,o208,o209,o210,o211,o212,o213,o214 P,o215,o216,o217,o218,o219,o220 P,o221,o222,o223,o224,o225,o226,o227,o228 P,o229,o230,o231,o232,o233,o234,o235,o236,o237,o238,o239,o240,o241,o242,o243,o244,o245,o246,o247,o248,o249,o250,o251,o252,o253,o254,o255,o256,o257,o258,o259,o260,o261,o262 P,o263,o264,o265,o266,o267,o268 P,o269,o270,o271,o272,o273,o274,o275,o276,o277,o278,o279,o280,o281,o282,o283,o284,o285,o286,o287,o288,o289,o290,o291,o292,o293,o294,o295,o296,o297,o298,o299,o300,o301,o302,o303,o304,o305,o306,o307,o308,o309,o310,o311,o312,o313,o314,o315,o316,o317,o318,o319,o320,o321,o322,o323,o324,o325,o326,o327,o328,o329,o330 P,o331,o332,o333,o334,o335,o336,o337,o338,o339,o340,o341,o342,o343,o344,o345,o346,o347,o348,o349,o350,o351,o352,o353,o354,o355,o356,o357,o358,o359,o360,o361,o362,o363,o364,o365,o366,o367,o368,o369,o370,o371,o372,o373,o374,o375,o376,o377,o378,o379,o380,o381,o382,o383,o384,o385,o386,o387,o388,o389,o390,o391,o392,o393,o394,o395,o396,o397,o398,o399,o400,o401,o402,o403,o404,o405,o406,o407,o408,o409,o410,o411,o412,o413,o414,o415,o416,o417,o418,o419,o420,o421,o422,o423,o424,o425,o426,o427,o428,o429,o430]⟩,PySem.Life.mk [] [] [] 0 [] [] false #[] [] 0 false false false 0 [2000,10,10] false 0 true [] [] 0 false⟩
def Sf(w:World)(os:OsState):Shared:=⟨Hf w.params,⟨[]⟩,PySem.Drawn.mk 0 0 0 0,745,os⟩
theorem pre_(w:World)(os:OsState):topGo treeTable Fast.tw2205068122024722360 w 11 ((some (r 6))) 12 ⟨boot_heap w.params,⟨[]⟩,boot_drawn,boot_toks,os⟩ (topStub Fast.tw2205068122024722360)=some (Sa w os,⟨denote treeTable cT,cT,⟨0,0,0,0⟩,[topFrame qP]⟩):=by(try rw[Fast.te15667345088766844465]);(try rw[Fast.te14082659384304107361]);(try rw[Fast.te14374325043358763698]);(try rw[Fast.te10110043849684766642]);(try rw[Fast.te14364793385576792824]);(try rw[Fast.te11892475500146522536]);(try rw[Fast.te4187177175401517315]);(try rw[Fast.te5923862056798008813]);(try rw[Fast.te8920871248978507458]);kernel_rfl
theorem block_(w:World)(os:OsState):segRun treeTable Fast.tw2205068122024722360 w 11 ((some (r 6))) 1 1 (Sa w os) (blockOf (behindTheImports Fast.tw2205068122024722360) envT cT ⟨0,0,0,0⟩ [topFrame qP])=some (.next,(Sb w os).abs,cT,⟨0,0,0,0⟩):=by(try rw[Fast.te15667345088766844465]);(try rw[Fast.te14082659384304107361]);(try rw[Fast.te14374325043358763698]);(try rw[Fast.te10110043849684766642]);(try rw[Fast.te14364793385576792824]);(try rw[Fast.te11892475500146522536]);(try rw[Fast.te4187177175401517315]);(try rw[Fast.te5923862056798008813]);(try rw[Fast.te8920871248978507458]);kernel_rfl
def sts0:List Stmt:=[topT 0,topT 1,topT 2,topT 3,topT 4,topT 5,topT 6,topT 7,topT 8,topT 9,topT 10,topT 11,topT 12,topT 13,topT 14,topT 15,topT 16,topT 17,topT 18,topT 19,topT 20,topT 21,topT 22,topT 23,topT 24,topT 25,topT 26,topT 27,topT 28,topT 29,topT 30,topT 31,topT 32,topT 33,topT 34,topT 35,topT 36,topT 37,topT 38,topT 39,topT 40,topT 41,topT 42,topT 43,topT 44,topT 45,topT 46,topT 47,topT 48,topT 49,topT 50,topT 51,topT 52,topT 53,topT 54]
theorem pc0(w:World)(os:OsState):segRunT treeTable Fast.tw2205068122024722360 w 11 ((some (r 6))) 1 2913 (Sb w os) (piecesOf sts0 envT cT ⟨0,0,0,0⟩ [topFrame qP])=some (.next,S0 w os,cT,⟨307,0,324,85⟩):=by(try rw[Fast.te15667345088766844465]);(try rw[Fast.te14082659384304107361]);(try rw[Fast.te14374325043358763698]);(try rw[Fast.te10110043849684766642]);(try rw[Fast.te14364793385576792824]);(try rw[Fast.te11892475500146522536]);(try rw[Fast.te4187177175401517315]);(try rw[Fast.te5923862056798008813]);(try rw[Fast.te8920871248978507458]);kernel_rfl
theorem fin_(w:World)(os:OsState):topRun treeTable Fast.tw2205068122024722360 w 11 ((some (r 6))) 2 (S0 w os).abs ⟨doneF .next,cT,⟨307,0,324,85⟩,[topFrame qP]⟩=some (Sf w os):=by(try rw[Fast.te15667345088766844465]);(try rw[Fast.te14082659384304107361]);(try rw[Fast.te14374325043358763698]);(try rw[Fast.te10110043849684766642]);(try rw[Fast.te14364793385576792824]);(try rw[Fast.te11892475500146522536]);(try rw[Fast.te4187177175401517315]);(try rw[Fast.te5923862056798008813]);(try rw[Fast.te8920871248978507458]);kernel_rfl
theorem body_eq:behindTheImports Fast.tw2205068122024722360=(sts0++[]):=by kernel_rfl
theorem run_(w:World)(os:OsState):topRun treeTable Fast.tw2205068122024722360 w 11 ((some (r 6))) (12+(1+(2913+2))) ⟨boot_heap w.params,⟨[]⟩,boot_drawn,boot_toks,os⟩ (topStub Fast.tw2205068122024722360)=some (Sf w os):=by
  have h:=(piece_app (segRun_of (pc0 w os)) (piece_nil (fin_ w os)))
  rw[← body_eq]at h
  exact go_top (pre_ w os) (piece_block (block_ w os) h)
def K(P:Params):Frag:=(nat_lit 2,boot_o_2 P)::(nat_lit 3,o3 P)::(nat_lit 15,o15)::(nat_lit 17,o17)::(nat_lit 18,o18)::(nat_lit 20,o20)::(nat_lit 21,o21)::(nat_lit 22,o22)::(nat_lit 29,o29)::(nat_lit 30,o30 P)::(nat_lit 31,o31)::(nat_lit 32,o32)::(nat_lit 35,o35)::(nat_lit 42,o42)::(nat_lit 43,o43 P)::(nat_lit 44,o44)::(nat_lit 47,o47)::(nat_lit 54,o54)::(nat_lit 55,o55 P)::(nat_lit 56,o56)::(nat_lit 59,o59)::(nat_lit 62,o62)::(nat_lit 63,o63)::(nat_lit 64,o64)::(nat_lit 67,o67)::(nat_lit 68,o68)::(nat_lit 69,o69)::(nat_lit 71,o71)::(nat_lit 72,o72)::(nat_lit 74,o74)::(nat_lit 75,o75)::(nat_lit 76,o76)::(nat_lit 79,o79)::(nat_lit 80,o80)::(nat_lit 81,o81)::(nat_lit 84,o84)::(nat_lit 85,o85)::(nat_lit 86,o86)::(nat_lit 88,o88)::(nat_lit 89,o89)::(nat_lit 91,o91)::(nat_lit 92,o92)::(nat_lit 93,o93)::(nat_lit 95,o95)::(nat_lit 96,o96)::(nat_lit 98,o98)::(nat_lit 99,o99)::(nat_lit 100,o100)::(nat_lit 102,o102)::(nat_lit 103,o103)::(nat_lit 105,o105)::(nat_lit 106,o106)::(nat_lit 107,o107)::(nat_lit 109,o109)::(nat_lit 110,o110)::(nat_lit 112,o112)::(nat_lit 113,o113)::(nat_lit 114,o114)::(nat_lit 116,o116)::(nat_lit 117,o117)::(nat_lit 119,o119)::(nat_lit 120,o120)::(nat_lit 121,o121)::(nat_lit 124,o124)::(nat_lit 125,o125)::(nat_lit 126,o126)::(nat_lit 129,o129)::(nat_lit 130,o130)::(nat_lit 131,o131)::(nat_lit 133,o133)::(nat_lit 134,o134)::(nat_lit 136,o136)::(nat_lit 137,o137)::(nat_lit 138,o138)::(nat_lit 140,o140)::(nat_lit 141,o141)::(nat_lit 143,o143)::(nat_lit 144,o144)::(nat_lit 145,o145)::(nat_lit 147,o147)::(nat_lit 148,o148)::(nat_lit 150,o150)::(nat_lit 151,o151)::(nat_lit 152,o152)::(nat_lit 154,o154)::(nat_lit 155,o155)::(nat_lit 157,o157)::(nat_lit 158,o158)::(nat_lit 159,o159)::(nat_lit 161,o161)::(nat_lit 162,o162)::(nat_lit 164,o164)::(nat_lit 165,o165)::(nat_lit 166,o166)::(nat_lit 168,o168)::(nat_lit 169,o169)::(nat_lit 171,o171)::(nat_lit 172,o172)::(nat_lit 173,o173)::(nat_lit 176,o176)::(nat_lit 177,o177)::(nat_lit 178,o178)::(nat_lit 181,o181)::(nat_lit 182,o182)::(nat_lit 183,o183)::(nat_lit 186,o186)::(nat_lit 187,o187)::(nat_lit 188,o188)::(nat_lit 191,o191)::(nat_lit 192,o192)::(nat_lit 193,o193)::(nat_lit 196,o196)::(nat_lit 197,o197)::(nat_lit 198,o198)::(nat_lit 200,o200)::(nat_lit 201,o201)::(nat_lit 203,o203)::(nat_lit 204,o204)::(nat_lit 205,o205)::(nat_lit 207,o207)::(nat_lit 208,o208)::(nat_lit 210,o210)::(nat_lit 211,o211)::(nat_lit 219,o219)::(nat_lit 220,o220 P)::(nat_lit 221,o221)::(nat_lit 222,o222)::(nat_lit 223,o223)::(nat_lit 226,o226)::(nat_lit 233,o233)::(nat_lit 235,o235)::(nat_lit 236,o236)::(nat_lit 238,o238)::(nat_lit 239,o239)::(nat_lit 240,o240)::(nat_lit 242,o242)::(nat_lit 243,o243)::(nat_lit 245,o245)::(nat_lit 246,o246)::(nat_lit 247,o247)::(nat_lit 249,o249)::(nat_lit 250,o250)::(nat_lit 252,o252)::(nat_lit 253,o253)::(nat_lit 254,o254)::(nat_lit 256,o256)::(nat_lit 257,o257)::(nat_lit 259,o259)::(nat_lit 260,o260)::(nat_lit 261,o261)::(nat_lit 262,o262 P)::(nat_lit 263,o263)::(nat_lit 266,o266)::(nat_lit 273,o273)::(nat_lit 275,o275)::(nat_lit 276,o276)::(nat_lit 278,o278)::(nat_lit 279,o279)::(nat_lit 280,o280)::(nat_lit 282,o282)::(nat_lit 283,o283)::(nat_lit 285,o285)::(nat_lit 286,o286)::(nat_lit 287,o287)::(nat_lit 289,o289)::(nat_lit 290,o290)::(nat_lit 292,o292)::(nat_lit 293,o293)::(nat_lit 294,o294)::(nat_lit 296,o296)::(nat_lit 297,o297)::(nat_lit 299,o299)::(nat_lit 300,o300)::(nat_lit 301,o301)::(nat_lit 303,o303)::(nat_lit 304,o304)::(nat_lit 306,o306)::(nat_lit 307,o307)::(nat_lit 308,o308)::(nat_lit 310,o310)::(nat_lit 311,o311)::(nat_lit 313,o313)::(nat_lit 314,o314)::(nat_lit 315,o315)::(nat_lit 317,o317)::(nat_lit 318,o318)::(nat_lit 320,o320)::(nat_lit 321,o321)::(nat_lit 322,o322)::(nat_lit 324,o324)::(nat_lit 325,o325)::(nat_lit 327,o327)::(nat_lit 328,o328)::(nat_lit 329,o329)::(nat_lit 330,o330 P)::(nat_lit 331,o331)::(nat_lit 334,o334)::(nat_lit 336,o336)::(nat_lit 337,o337)::(nat_lit 339,o339)::(nat_lit 340,o340)::(nat_lit 341,o341)::(nat_lit 343,o343)::(nat_lit 344,o344)::(nat_lit 346,o346)::(nat_lit 347,o347)::(nat_lit 348,o348)::(nat_lit 350,o350)::(nat_lit 351,o351)::(nat_lit 353,o353)::(nat_lit 354,o354)::(nat_lit 355,o355)::(nat_lit 357,o357)::(nat_lit 358,o358)::(nat_lit 360,o360)::(nat_lit 361,o361)::(nat_lit 362,o362)::(nat_lit 364,o364)::(nat_lit 365,o365)::(nat_lit 367,o367)::(nat_lit 368,o368)::(nat_lit 369,o369)::(nat_lit 371,o371)::(nat_lit 372,o372)::(nat_lit 374,o374)::(nat_lit 375,o375)::(nat_lit 376,o376)::(nat_lit 378,o378)::(nat_lit 379,o379)::(nat_lit 381,o381)::(nat_lit 382,o382)::(nat_lit 383,o383)::(nat_lit 386,o386)::(nat_lit 387,o387)::(nat_lit 388,o388)::(nat_lit 391,o391)::(nat_lit 392,o392)::(nat_lit 393,o393)::(nat_lit 395,o395)::(nat_lit 396,o396)::(nat_lit 398,o398)::(nat_lit 399,o399)::(nat_lit 400,o400)::(nat_lit 402,o402)::(nat_lit 403,o403)::(nat_lit 405,o405)::(nat_lit 406,o406)::(nat_lit 407,o407)::(nat_lit 409,o409)::(nat_lit 410,o410)::(nat_lit 412,o412)::(nat_lit 413,o413)::(nat_lit 414,o414)::(nat_lit 416,o416)::(nat_lit 417,o417)::(nat_lit 419,o419)::(nat_lit 420,o420)::(nat_lit 421,o421)::(nat_lit 424,o424)::(nat_lit 425,o425)::(nat_lit 426,o426)::(nat_lit 429,o429)::(nat_lit 430,o430)::[]
def KA:List Addr:=[2,3,15,17,18,20,21,22,29,30,31,32,35,42,43,44,47,54,55,56,59,62,63,64,67,68,69,71,72,74,75,76,79,80,81,84,85,86,88,89,91,92,93,95,96,98,99,100,102,103,105,106,107,109,110,112,113,114,116,117,119,120,121,124,125,126,129,130,131,133,134,136,137,138,140,141,143,144,145,147,148,150,151,152,154,155,157,158,159,161,162,164,165,166,168,169,171,172,173,176,177,178,181,182,183,186,187,188,191,192,193,196,197,198,200,201,203,204,205,207,208,210,211,219,220,221,222,223,226,233,235,236,238,239,240,242,243,245,246,247,249,250,252,253,254,256,257,259,260,261,262,263,266,273,275,276,278,279,280,282,283,285,286,287,289,290,292,293,294,296,297,299,300,301,303,304,306,307,308,310,311,313,314,315,317,318,320,321,322,324,325,327,328,329,330,331,334,336,337,339,340,341,343,344,346,347,348,350,351,353,354,355,357,358,360,361,362,364,365,367,368,369,371,372,374,375,376,378,379,381,382,383,386,387,388,391,392,393,395,396,398,399,400,402,403,405,406,407,409,410,412,413,414,416,417,419,420,421,424,425,426,429,430]
theorem KA_eq(P:Params):KA=(K P).map (·.1):=by kernel_rfl
def topO(i:Nat):Stmt:=PySem.Challenge.pw_weighwalk_k74_whole_no_word_is_cheaper.main.body.getD i (.Pass ⟨0,0,0,0⟩)
theorem top_eq:topT=topO:=by unfold topT topO;rw[Fast.te2205068122024722360]
def qT:Program:={ Fast.tw2205068122024722360 with main:={ Fast.tw2205068122024722360.main with body:=[topT 0,topT 2,topT 3,topT 4,topT 6,topT 7,topT 8,topT 9,topT 11,topT 12,topT 13,topT 14,topT 15,topT 16,topT 18,topT 19,topT 20,topT 21,topT 22,topT 23,topT 24,topT 25,topT 26,topT 27,topT 28,topT 29,topT 31,topT 32,topT 33,topT 34,topT 35,topT 36,topT 37,topT 38,topT 40,topT 41,topT 42,topT 43,topT 44,topT 45,topT 46,topT 47,topT 48,topT 49,topT 50,topT 51,topT 52,topT 53,topT 54] } }
def qO:Program:={ PySem.Challenge.pw_weighwalk_k74_whole_no_word_is_cheaper with main:={ PySem.Challenge.pw_weighwalk_k74_whole_no_word_is_cheaper.main with body:=[topO 0,topO 2,topO 3,topO 4,topO 6,topO 7,topO 8,topO 9,topO 11,topO 12,topO 13,topO 14,topO 15,topO 16,topO 18,topO 19,topO 20,topO 21,topO 22,topO 23,topO 24,topO 25,topO 26,topO 27,topO 28,topO 29,topO 31,topO 32,topO 33,topO 34,topO 35,topO 36,topO 37,topO 38,topO 40,topO 41,topO 42,topO 43,topO 44,topO 45,topO 46,topO 47,topO 48,topO 49,topO 50,topO 51,topO 52,topO 53,topO 54] } }
theorem q_eq:qO=qT:=by unfold qO qT;rw[top_eq,Fast.te2205068122024722360]
def recs:=RowW.records (OpenRow.toRowW (OpenLaw.row PySem.Challenge.rw_weighwalk_k74_whole_no_word_is_cheaper))
abbrev Xt(q:Program)(s:Shared):Bool:=xlAt q [] s && recOk recs s
abbrev hook:Hook:=kHook K KA KA_eq
theorem size_(w:World):((boot_heap w.params).isNs mainGlobals && (⟨[]⟩:Array GenState).size == 0,(boot_heap w.params).objs.size,(boot_heap w.params).nsMap mainGlobals "__annotations__")=(true,11,(some (r 6))):=by(try rw[Fast.te15667345088766844465]);(try rw[Fast.te14082659384304107361]);(try rw[Fast.te14374325043358763698]);(try rw[Fast.te10110043849684766642]);(try rw[Fast.te14364793385576792824]);(try rw[Fast.te11892475500146522536]);(try rw[Fast.te4187177175401517315]);(try rw[Fast.te5923862056798008813]);(try rw[Fast.te8920871248978507458]);kernel_rfl
theorem open_:∀w:World,(fencedOpening treeTable Fast.tw2205068122024722360 w 5950).map (fun s=>(s.heap,s.gens,s.drawn,s.toks))=some (boot_heap w.params,⟨[]⟩,boot_drawn,boot_toks):=boot_open (by kernel_rfl) (by decide) (fun s=>by(try rw[Fast.te15667345088766844465]);(try rw[Fast.te14082659384304107361]);(try rw[Fast.te14374325043358763698]);(try rw[Fast.te10110043849684766642]);(try rw[Fast.te14364793385576792824]);(try rw[Fast.te11892475500146522536]);(try rw[Fast.te4187177175401517315]);(try rw[Fast.te5923862056798008813]);(try rw[Fast.te8920871248978507458]);kernel_rfl)
theorem look1(w:World)(os:OsState):(staticsOk (importedModules Fast.tw2205068122024722360.main.body) (boot_heap w.params) (Hf w.params) && namesBound Fast.tw2205068122024722360 (Hf w.params) && gensDone (Sf w os) && laidKept (boot_heap w.params) (Hf w.params))=true:=by(try rw[Fast.te15667345088766844465]);(try rw[Fast.te14082659384304107361]);(try rw[Fast.te14374325043358763698]);(try rw[Fast.te10110043849684766642]);(try rw[Fast.te14364793385576792824]);(try rw[Fast.te11892475500146522536]);(try rw[Fast.te4187177175401517315]);(try rw[Fast.te5923862056798008813]);(try rw[Fast.te8920871248978507458]);kernel_rfl
theorem look2(w:World)(os:OsState):openSeen qT [] (importedModules Fast.tw2205068122024722360.main.body) (Xt qT) true (Sf w os)=openGood qT []:=by(try rw[Fast.te15667345088766844465]);(try rw[Fast.te14082659384304107361]);(try rw[Fast.te14374325043358763698]);(try rw[Fast.te10110043849684766642]);(try rw[Fast.te14364793385576792824]);(try rw[Fast.te11892475500146522536]);(try rw[Fast.te4187177175401517315]);(try rw[Fast.te5923862056798008813]);(try rw[Fast.te8920871248978507458]);kernel_rfl
theorem look3(w:World)(os:OsState):hook.obs (Sf w os)=hook.val w:=by kernel_rfl
theorem leftT:LeftO Fast.tw2205068122024722360 qT [] (Xt qT) hook.obs hook.val 5950:=LeftO.of_pieces (H₁:=Hf) open_ size_ run_ (by decide) (fun w=>funext fun os=>looks_pair (look1 w os) (looks_pair (look2 w os) (look3 w os)))
theorem left:LeftO PySem.Challenge.pw_weighwalk_k74_whole_no_word_is_cheaper qO [] (Xt qO) hook.obs hook.val 5950:=by have h:=leftT;rw[← q_eq,← Fast.te2205068122024722360]at h;exact h
def dO:DefRec:=⟨PySem.Str.ofString "law",L2.defArgs (topO 54),L2.defBody (topO 54),L2.defScope (topO 54),⟨307,0,324,85⟩⟩
theorem holds_(said:(OpenLaw.row PySem.Challenge.rw_weighwalk_k74_whole_no_word_is_cheaper).wellSaid=true)(hw:(OpenLaw.row PySem.Challenge.rw_weighwalk_k74_whole_no_word_is_cheaper).toRowW.promised)(hc:WalkO qO [] (XL qO []) (Hook.says hook) (OpenLaw.row PySem.Challenge.rw_weighwalk_k74_whole_no_word_is_cheaper).toRowW dO [] (fun f vs=>PySem.call f vs)):(OpenLaw.row PySem.Challenge.rw_weighwalk_k74_whole_no_word_is_cheaper).Holds:=
  holds_open (r:=(OpenLaw.row PySem.Challenge.rw_weighwalk_k74_whole_no_word_is_cheaper)) (q:=qO) (loose:=[]) (Xt:=Xt qO) (XP:=XL qO []) (Yf:=hook.obs) (Ya:=hook.val) (YP:=hook.says) (d:=dO) (kwd:=[]) (N:=5950) left hook.of hook.keeps (fun s e=>xl_of s (Bool.and_eq_true_iff.mp e).1) XL.keeps (by kernel_rfl) (by kernel_rfl) (by kernel_rfl) (fun s e=>recFacts_of (Bool.and_eq_true_iff.mp e).2) (by kernel_rfl) said (by decide +kernel) ⟨rfl,rfl,rfl,rfl,rfl,by decide +kernel⟩ hw hc
abbrev fO(n q:String)(s:Stmt)(m c:Value):Obj:=⟨.type SL.s7174869446012820540x8,none,.func (fnOf (PySem.Str.ofString n) (PySem.Str.ofString q) (L2.defArgs s) (L2.defBody s) (L2.defScope s) .none .none .none m none c .none),#[]⟩
theorem lk_column_at(P:Params):(K P).lookup 63=some (fO "column_at" "column_at" (topO 6) (.str s70 246) (r 62)):=by rw[← top_eq];kernel_rfl
theorem lk_columns_of(P:Params):(K P).lookup 68=some (fO "columns_of" "columns_of" (topO 7) (.str s70 246) (r 67)):=by rw[← top_eq];kernel_rfl
theorem lk_dot(P:Params):(K P).lookup 75=some (fO "dot" "dot" (topO 8) (.str s70 246) (r 74)):=by rw[← top_eq];kernel_rfl
theorem lk_row_by(P:Params):(K P).lookup 80=some (fO "row_by" "row_by" (topO 9) (.str s70 246) (r 79)):=by rw[← top_eq];kernel_rfl
theorem lk_is_word(P:Params):(K P).lookup 85=some (fO "is_word" "is_word" (topO 11) (.str s77 278) (r 84)):=by rw[← top_eq];kernel_rfl
theorem lk_need_word(P:Params):(K P).lookup 92=some (fO "need_word" "need_word" (topO 12) (.str s77 278) (r 91)):=by rw[← top_eq];kernel_rfl
theorem lk_rooms(P:Params):(K P).lookup 99=some (fO "rooms" "rooms" (topO 13) (.str s77 278) (r 98)):=by rw[← top_eq];kernel_rfl
theorem lk_table_of(P:Params):(K P).lookup 106=some (fO "table_of" "table_of" (topO 14) (.str s77 278) (r 105)):=by rw[← top_eq];kernel_rfl
theorem lk_ahead(P:Params):(K P).lookup 113=some (fO "ahead" "ahead" (topO 15) (.str s77 278) (r 112)):=by rw[← top_eq];kernel_rfl
theorem lk_weight(P:Params):(K P).lookup 120=some (fO "weight" "weight" (topO 16) (.str s77 278) (r 119)):=by rw[← top_eq];kernel_rfl
theorem lk_cheapest_steps(P:Params):(K P).lookup 125=some (fO "cheapest_steps" "cheapest_steps" (topO 18) (.str s83 329) (r 124)):=by rw[← top_eq];kernel_rfl
theorem lk_steps_turned(P:Params):(K P).lookup 130=some (fO "steps_turned" "steps_turned" (topO 19) (.str s83 329) (r 129)):=by rw[← top_eq];kernel_rfl
theorem lk_standing(P:Params):(K P).lookup 137=some (fO "standing" "standing" (topO 20) (.str s83 329) (r 136)):=by rw[← top_eq];kernel_rfl
theorem lk_one_step_on(P:Params):(K P).lookup 144=some (fO "one_step_on" "one_step_on" (topO 21) (.str s83 329) (r 143)):=by rw[← top_eq];kernel_rfl
theorem lk_cheapest_walks(P:Params):(K P).lookup 151=some (fO "cheapest_walks" "cheapest_walks" (topO 22) (.str s83 329) (r 150)):=by rw[← top_eq];kernel_rfl
theorem lk_word_and_way(P:Params):(K P).lookup 158=some (fO "word_and_way" "word_and_way" (topO 23) (.str s83 329) (r 157)):=by rw[← top_eq];kernel_rfl
theorem lk_turned_back(P:Params):(K P).lookup 165=some (fO "turned_back" "turned_back" (topO 24) (.str s83 329) (r 164)):=by rw[← top_eq];kernel_rfl
theorem lk_ring_below(P:Params):(K P).lookup 172=some (fO "ring_below" "ring_below" (topO 25) (.str s83 329) (r 171)):=by rw[← top_eq];kernel_rfl
theorem lk_rings_below(P:Params):(K P).lookup 177=some (fO "rings_below" "rings_below" (topO 26) (.str s83 329) (r 176)):=by rw[← top_eq];kernel_rfl
theorem lk_least_walk(P:Params):(K P).lookup 182=some (fO "least_walk" "least_walk" (topO 27) (.str s83 329) (r 181)):=by rw[← top_eq];kernel_rfl
theorem lk_prices_of(P:Params):(K P).lookup 187=some (fO "prices_of" "prices_of" (topO 28) (.str s83 329) (r 186)):=by rw[← top_eq];kernel_rfl
theorem lk_cheapest(P:Params):(K P).lookup 192=some (fO "cheapest" "cheapest" (topO 29) (.str s83 329) (r 191)):=by rw[← top_eq];kernel_rfl
theorem lk_Costs_nought(P:Params):(K P).lookup 286=some (fO "nought" "Costs.nought" (L2.inClass (topO 38) 1) (.str s96 427) (r 285)):=by rw[← top_eq];kernel_rfl
theorem lk_Costs_plus(P:Params):(K P).lookup 300=some (fO "plus" "Costs.plus" (L2.inClass (topO 38) 3) (.str s96 427) (r 299)):=by rw[← top_eq];kernel_rfl
theorem lk_Costs_times(P:Params):(K P).lookup 307=some (fO "times" "Costs.times" (L2.inClass (topO 38) 4) (.str s96 427) (r 306)):=by rw[← top_eq];kernel_rfl
theorem lk__law_state(P:Params):(K P).lookup 340=some (fO "_law_state" "_law_state" (topO 40) (.str s4 598) (r 339)):=by rw[← top_eq];kernel_rfl
theorem lk__law_next(P:Params):(K P).lookup 347=some (fO "_law_next" "_law_next" (topO 41) (.str s4 598) (r 346)):=by rw[← top_eq];kernel_rfl
theorem lk__law_rooms(P:Params):(K P).lookup 354=some (fO "_law_rooms" "_law_rooms" (topO 42) (.str s4 598) (r 353)):=by rw[← top_eq];kernel_rfl
theorem lk__law_letters(P:Params):(K P).lookup 361=some (fO "_law_letters" "_law_letters" (topO 43) (.str s4 598) (r 360)):=by rw[← top_eq];kernel_rfl
theorem lk__law_costs(P:Params):(K P).lookup 368=some (fO "_law_costs" "_law_costs" (topO 44) (.str s4 598) (r 367)):=by rw[← top_eq];kernel_rfl
theorem lk__law_far(P:Params):(K P).lookup 375=some (fO "_law_far" "_law_far" (topO 45) (.str s4 598) (r 374)):=by rw[← top_eq];kernel_rfl
theorem lk__law_any_machine(P:Params):(K P).lookup 382=some (fO "_law_any_machine" "_law_any_machine" (topO 46) (.str s4 598) (r 381)):=by rw[← top_eq];kernel_rfl
theorem lk__law_walk(P:Params):(K P).lookup 387=some (fO "_law_walk" "_law_walk" (topO 47) (.str s4 598) (r 386)):=by rw[← top_eq];kernel_rfl
theorem lk__law_falls(P:Params):(K P).lookup 392=some (fO "_law_falls" "_law_falls" (topO 48) (.str s4 598) (r 391)):=by rw[← top_eq];kernel_rfl
theorem lk__law_less(P:Params):(K P).lookup 399=some (fO "_law_less" "_law_less" (topO 49) (.str s4 598) (r 398)):=by rw[← top_eq];kernel_rfl
theorem lk__law_weigh(P:Params):(K P).lookup 406=some (fO "_law_weigh" "_law_weigh" (topO 50) (.str s4 598) (r 405)):=by rw[← top_eq];kernel_rfl
theorem lk__law_some_words(P:Params):(K P).lookup 413=some (fO "_law_some_words" "_law_some_words" (topO 51) (.str s4 598) (r 412)):=by rw[← top_eq];kernel_rfl
theorem lk__law_weighs(P:Params):(K P).lookup 420=some (fO "_law_weighs" "_law_weighs" (topO 52) (.str s4 598) (r 419)):=by rw[← top_eq];kernel_rfl
theorem lk__law_each_less(P:Params):(K P).lookup 425=some (fO "_law_each_less" "_law_each_less" (topO 53) (.str s4 598) (r 424)):=by rw[← top_eq];kernel_rfl
theorem lk_law(P:Params):(K P).lookup 430=some (fO "law" "law" (topO 54) (.str s4 598) (r 429)):=by rw[← top_eq];kernel_rfl
end
end H74
set_option maxHeartbeats 4000000
namespace K74
open PySem L2 Mine PyProof.Rows PySem.SeqAt
abbrev Pr:Program:=PySem.Challenge.pw_weighwalk_k74_whole_no_word_is_cheaper
def top(i:Nat):Stmt:=PySem.Challenge.pw_weighwalk_k74_whole_no_word_is_cheaper.main.body.getD i (.Pass ⟨0,0,0,0⟩)
abbrev s_rooms:Stmt:=top 13
abbrev s_cheapest_steps:Stmt:=top 18
abbrev s_steps_turned:Stmt:=top 19
abbrev s_standing:Stmt:=top 20
abbrev s_one_step_on:Stmt:=top 21
abbrev s_cheapest_walks:Stmt:=top 22
abbrev s_word_and_way:Stmt:=top 23
abbrev s_turned_back:Stmt:=top 24
abbrev s_ring_below:Stmt:=top 25
abbrev s_rings_below:Stmt:=top 26
abbrev s_least_walk:Stmt:=top 27
abbrev s_prices_of:Stmt:=top 28
abbrev s_cheapest:Stmt:=top 29
abbrev s_column_at:Stmt:=top 6
abbrev s_columns_of:Stmt:=top 7
abbrev s_Costs_nought:Stmt:=inClass (top 38) 1
abbrev s_Costs_plus:Stmt:=inClass (top 38) 3
abbrev s_Costs_times:Stmt:=inClass (top 38) 4
abbrev s_dot:Stmt:=top 8
abbrev s_row_by:Stmt:=top 9
abbrev s_is_word:Stmt:=top 11
abbrev s_need_word:Stmt:=top 12
abbrev s_table_of:Stmt:=top 14
abbrev s_ahead:Stmt:=top 15
abbrev s_weight:Stmt:=top 16
abbrev s_law_next:Stmt:=top 41
abbrev s_law_state:Stmt:=top 40
abbrev s_law_letters:Stmt:=top 43
abbrev s_law_rooms:Stmt:=top 42
abbrev s_law_costs:Stmt:=top 44
abbrev s_law_far:Stmt:=top 45
abbrev s_law_any_machine:Stmt:=top 46
abbrev s_law_walk:Stmt:=top 47
abbrev s_law_falls:Stmt:=top 48
abbrev s_law_less:Stmt:=top 49
abbrev s_law_weigh:Stmt:=top 50
abbrev s_law_some_words:Stmt:=top 51
abbrev s_law_weighs:Stmt:=top 52
abbrev s_law_each_less:Stmt:=top 53
abbrev s_law:Stmt:=top 54
theorem _root_.L2.Room.m{j k:Nat}{A:Around}(r:Room k A)(h:j≤k:=by decide):Room j A:=r.mono h
theorem sc_mk{N P:List Str}{s:Scope}(a:s.kind=.function:=by rfl)(b:s.isCoroutine=false:=by rfl)(c:s.isGenerator=false:=by rfl)(d:N.Nodup:=by decide +kernel)(e:N.take P.length=P:=by rfl)(f:∀x∈P,s.names.lookup x=some .local∨s.names.lookup x=some .cell:=by decide +kernel)(g:∀y∈s.names,y.2≠.free:=by decide +kernel):FnScope N P s:=⟨a,b,c,d,e,f,g⟩
theorem sc_rooms:FnScope ["machine"] ["machine"] (defScope s_rooms):=sc_mk
theorem sc_cheapest_steps:FnScope ["machine","told","first","second","found","there"] ["machine"] (defScope s_cheapest_steps):=sc_mk
theorem sc_steps_turned:FnScope ["steps"] ["steps"] (defScope s_steps_turned):=sc_mk
theorem sc_standing:FnScope ["row","told","room","cost"] ["row"] (defScope s_standing):=sc_mk
theorem sc_one_step_on:FnScope ["walks","steps","told","first","second","pair","walk","cost"] ["walks","steps"] (defScope s_one_step_on):=sc_mk
theorem sc_cheapest_walks:FnScope ["walks","steps","most","told","count"] ["walks","steps","most"] (defScope s_cheapest_walks):=sc_mk
theorem sc_word_and_way:FnScope ["walk"] ["walk"] (defScope s_word_and_way):=sc_mk
theorem sc_turned_back:FnScope ["walk"] ["walk"] (defScope s_turned_back):=sc_mk
theorem sc_ring_below:FnScope ["steps","room","size","walks","count"] ["steps","room","size"] (defScope s_ring_below):=sc_mk
theorem sc_rings_below:FnScope ["steps","useful","size","rings"] ["steps","useful","size"] (defScope s_rings_below):=sc_mk
theorem sc_least_walk:FnScope ["machine","forth","useful","ended","best","walk"] ["machine","forth","useful"] (defScope s_least_walk):=sc_mk
theorem sc_prices_of:FnScope ["size","forth","useful"] ["size","forth","useful"] (defScope s_prices_of):=sc_mk
theorem sc_cheapest:FnScope ["machine","size","steps","forth","back","useful","rings","ring","room"] ["machine"] (defScope s_cheapest):=sc_mk
theorem sc_column_at:FnScope ["table","place"] ["table","place"] (defScope s_column_at):=sc_mk
theorem sc_columns_of:FnScope ["table"] ["table"] (defScope s_columns_of):=sc_mk
theorem sc_Costs_nought:FnScope ["self"] ["self"] (defScope s_Costs_nought):=sc_mk
theorem sc_Costs_plus:FnScope ["self","x","y"] ["self","x","y"] (defScope s_Costs_plus):=sc_mk
theorem sc_Costs_times:FnScope ["self","x","y"] ["self","x","y"] (defScope s_Costs_times):=sc_mk
theorem sc_dot:FnScope ["kind","row","column","total","x","y"] ["kind","row","column"] (defScope s_dot):=sc_mk
theorem sc_row_by:FnScope ["kind","row","table"] ["kind","row","table"] (defScope s_row_by):=sc_mk
theorem sc_is_word:FnScope ["letters","thing"] ["letters","thing"] (defScope s_is_word):=sc_mk
theorem sc_need_word:FnScope ["letters","thing"] ["letters","thing"] (defScope s_need_word):=sc_mk
theorem sc_table_of:FnScope ["machine","letter"] ["machine","letter"] (defScope s_table_of):=sc_mk
theorem sc_ahead:FnScope ["kind","machine","word","row","letter"] ["kind","machine","word"] (defScope s_ahead):=sc_mk
theorem sc_weight:FnScope ["kind","machine","word"] ["kind","machine","word"] (defScope s_weight):=sc_mk
theorem sc_law_next:FnScope ["_law_state_here","_law_many","_law_found"] ["_law_state_here","_law_many"] (defScope s_law_next):=sc_mk
theorem sc_law_state:FnScope ["_law_script","_law_seed","_law_cell"] ["_law_script"] (defScope s_law_state):=sc_mk
theorem sc_law_letters:FnScope ["_law_state_here","_law_some","_law_answer","_law_k","_law_letter"] ["_law_state_here"] (defScope s_law_letters):=sc_mk
theorem sc_law_rooms:FnScope ["_law_state_here","_law_few","_law_most"] ["_law_state_here","_law_few","_law_most"] (defScope s_law_rooms):=sc_mk
theorem sc_law_costs:FnScope ["_law_state_here","_law_far_here","_law_many","_law_row","_law_k","_law_cost"] ["_law_state_here","_law_far_here","_law_many"] (defScope s_law_costs):=sc_mk
theorem sc_law_far:FnScope ["_law_state_here"] ["_law_state_here"] (defScope s_law_far):=sc_mk
theorem sc_law_any_machine:FnScope ["_law_state_here","_law_letters_here","_law_many","_law_thin","_law_far_here","_law_tables","_law_letter","_law_table","_law_j","_law_row","_law_k"] ["_law_state_here","_law_letters_here","_law_many","_law_thin"] (defScope s_law_any_machine):=sc_mk
theorem sc_law_walk:FnScope ["_law_machine","_law_pair","_law_word","_law_way","_law_k","_law_total","_law_cost"] ["_law_machine","_law_pair"] (defScope s_law_walk):=sc_mk
theorem sc_law_falls:FnScope ["_law_machine","_law_answer","_law_costs_here","_law_one","_law_ring","_law_other","_law_many"] ["_law_machine","_law_answer"] (defScope s_law_falls):=sc_mk
theorem sc_law_less:FnScope ["_law_x","_law_y"] ["_law_x","_law_y"] (defScope s_law_less):=sc_mk
theorem sc_law_weigh:FnScope ["_law_machine","_law_word","_law_many","_law_row","_law_letter","_law_table","_law_more","_law_j","_law_k","_law_total"] ["_law_machine","_law_word"] (defScope s_law_weigh):=sc_mk
theorem sc_law_some_words:FnScope ["_law_letters_here","_law_most","_law_some","_law_level","_law_k","_law_more","_law_word","_law_letter"] ["_law_letters_here","_law_most"] (defScope s_law_some_words):=sc_mk
theorem sc_law_weighs:FnScope ["_law_machine","_law_word","_law_told"] ["_law_machine","_law_word"] (defScope s_law_weighs):=sc_mk
theorem sc_law_each_less:FnScope ["_law_machine","_law_answer","_law_costs_here","_law_total","_law_k","_law_word","_law_good","_law_told"] ["_law_machine","_law_answer"] (defScope s_law_each_less):=sc_mk
theorem sc_law:FnScope ["_law_script","_law_state_here","_law_letters_here","_law_machine","_law_answer","_law_some","_law_good","_law_told"] ["_law_script"] (defScope s_law):=sc_mk
set_option genInjectivity false in
set_option genSizeOfSpec false in
structure Adr where
  c_cheapest:Addr
  P_cheapest:Addr
  rooms:Addr
  d_rooms:FuncData
  cheapest_steps:Addr
  d_cheapest_steps:FuncData
  steps_turned:Addr
  d_steps_turned:FuncData
  standing:Addr
  d_standing:FuncData
  one_step_on:Addr
  d_one_step_on:FuncData
  cheapest_walks:Addr
  d_cheapest_walks:FuncData
  word_and_way:Addr
  d_word_and_way:FuncData
  turned_back:Addr
  d_turned_back:FuncData
  ring_below:Addr
  d_ring_below:FuncData
  rings_below:Addr
  d_rings_below:FuncData
  least_walk:Addr
  d_least_walk:FuncData
  prices_of:Addr
  d_prices_of:FuncData
  cheapest:Addr
  d_cheapest:FuncData
  column_at:Addr
  d_column_at:FuncData
  columns_of:Addr
  d_columns_of:FuncData
  Costs_nought:Addr
  d_Costs_nought:FuncData
  Costs_plus:Addr
  d_Costs_plus:FuncData
  Costs_times:Addr
  d_Costs_times:FuncData
  dot:Addr
  d_dot:FuncData
  row_by:Addr
  d_row_by:FuncData
  is_word:Addr
  d_is_word:FuncData
  need_word:Addr
  d_need_word:FuncData
  table_of:Addr
  d_table_of:FuncData
  ahead:Addr
  d_ahead:FuncData
  weight:Addr
  d_weight:FuncData
  law_next:Addr
  d_law_next:FuncData
  law_state:Addr
  d_law_state:FuncData
  law_letters:Addr
  d_law_letters:FuncData
  law_rooms:Addr
  d_law_rooms:FuncData
  law_costs:Addr
  d_law_costs:FuncData
  law_far:Addr
  d_law_far:FuncData
  law_any_machine:Addr
  d_law_any_machine:FuncData
  law_walk:Addr
  d_law_walk:FuncData
  law_falls:Addr
  d_law_falls:FuncData
  law_less:Addr
  d_law_less:FuncData
  law_weigh:Addr
  d_law_weigh:FuncData
  law_some_words:Addr
  d_law_some_words:FuncData
  law_weighs:Addr
  d_law_weighs:FuncData
  law_each_less:Addr
  d_law_each_less:FuncData
  law:Addr
  d_law:FuncData
  Costs:Addr
structure Txt(K:PySem.W.Frag)(mg:Str→Option Value)(t:Adr):Prop where
  F_rooms:Fun K "rooms" "rooms" s_rooms t.rooms t.d_rooms
  b_rooms:Binds K t.d_rooms ["machine"] []
  m_rooms:mg "rooms"=some (.ref t.rooms)
  F_cheapest_steps:Fun K "cheapest_steps" "cheapest_steps" s_cheapest_steps t.cheapest_steps t.d_cheapest_steps
  b_cheapest_steps:Binds K t.d_cheapest_steps ["machine"] []
  m_cheapest_steps:mg "cheapest_steps"=some (.ref t.cheapest_steps)
  F_steps_turned:Fun K "steps_turned" "steps_turned" s_steps_turned t.steps_turned t.d_steps_turned
  b_steps_turned:Binds K t.d_steps_turned ["steps"] []
  m_steps_turned:mg "steps_turned"=some (.ref t.steps_turned)
  F_standing:Fun K "standing" "standing" s_standing t.standing t.d_standing
  b_standing:Binds K t.d_standing ["row"] []
  m_standing:mg "standing"=some (.ref t.standing)
  F_one_step_on:Fun K "one_step_on" "one_step_on" s_one_step_on t.one_step_on t.d_one_step_on
  b_one_step_on:Binds K t.d_one_step_on ["walks","steps"] []
  m_one_step_on:mg "one_step_on"=some (.ref t.one_step_on)
  F_cheapest_walks:Fun K "cheapest_walks" "cheapest_walks" s_cheapest_walks t.cheapest_walks t.d_cheapest_walks
  b_cheapest_walks:Binds K t.d_cheapest_walks ["walks","steps","most"] []
  m_cheapest_walks:mg "cheapest_walks"=some (.ref t.cheapest_walks)
  F_word_and_way:Fun K "word_and_way" "word_and_way" s_word_and_way t.word_and_way t.d_word_and_way
  b_word_and_way:Binds K t.d_word_and_way ["walk"] []
  m_word_and_way:mg "word_and_way"=some (.ref t.word_and_way)
  F_turned_back:Fun K "turned_back" "turned_back" s_turned_back t.turned_back t.d_turned_back
  b_turned_back:Binds K t.d_turned_back ["walk"] []
  m_turned_back:mg "turned_back"=some (.ref t.turned_back)
  F_ring_below:Fun K "ring_below" "ring_below" s_ring_below t.ring_below t.d_ring_below
  b_ring_below:Binds K t.d_ring_below ["steps","room","size"] []
  m_ring_below:mg "ring_below"=some (.ref t.ring_below)
  F_rings_below:Fun K "rings_below" "rings_below" s_rings_below t.rings_below t.d_rings_below
  b_rings_below:Binds K t.d_rings_below ["steps","useful","size"] []
  m_rings_below:mg "rings_below"=some (.ref t.rings_below)
  F_least_walk:Fun K "least_walk" "least_walk" s_least_walk t.least_walk t.d_least_walk
  b_least_walk:Binds K t.d_least_walk ["machine","forth","useful"] []
  m_least_walk:mg "least_walk"=some (.ref t.least_walk)
  F_prices_of:Fun K "prices_of" "prices_of" s_prices_of t.prices_of t.d_prices_of
  b_prices_of:Binds K t.d_prices_of ["size","forth","useful"] []
  m_prices_of:mg "prices_of"=some (.ref t.prices_of)
  F_cheapest:Fun K "cheapest" "cheapest" s_cheapest t.cheapest t.d_cheapest
  b_cheapest:Binds K t.d_cheapest ["machine"] []
  m_cheapest:mg "cheapest"=some (.ref t.cheapest)
  F_column_at:Fun K "column_at" "column_at" s_column_at t.column_at t.d_column_at
  b_column_at:Binds K t.d_column_at ["table","place"] []
  m_column_at:mg "column_at"=some (.ref t.column_at)
  F_columns_of:Fun K "columns_of" "columns_of" s_columns_of t.columns_of t.d_columns_of
  b_columns_of:Binds K t.d_columns_of ["table"] []
  m_columns_of:mg "columns_of"=some (.ref t.columns_of)
  F_Costs_nought:Fun K "nought" "Costs.nought" s_Costs_nought t.Costs_nought t.d_Costs_nought
  b_Costs_nought:Binds K t.d_Costs_nought ["self"] []
  t_Costs_nought:Meth K t.Costs "nought" t.Costs_nought
  F_Costs_plus:Fun K "plus" "Costs.plus" s_Costs_plus t.Costs_plus t.d_Costs_plus
  b_Costs_plus:Binds K t.d_Costs_plus ["self","x","y"] []
  t_Costs_plus:Meth K t.Costs "plus" t.Costs_plus
  F_Costs_times:Fun K "times" "Costs.times" s_Costs_times t.Costs_times t.d_Costs_times
  b_Costs_times:Binds K t.d_Costs_times ["self","x","y"] []
  t_Costs_times:Meth K t.Costs "times" t.Costs_times
  F_dot:Fun K "dot" "dot" s_dot t.dot t.d_dot
  b_dot:Binds K t.d_dot ["kind","row","column"] []
  m_dot:mg "dot"=some (.ref t.dot)
  F_row_by:Fun K "row_by" "row_by" s_row_by t.row_by t.d_row_by
  b_row_by:Binds K t.d_row_by ["kind","row","table"] []
  m_row_by:mg "row_by"=some (.ref t.row_by)
  F_is_word:Fun K "is_word" "is_word" s_is_word t.is_word t.d_is_word
  b_is_word:Binds K t.d_is_word ["letters","thing"] []
  m_is_word:mg "is_word"=some (.ref t.is_word)
  F_need_word:Fun K "need_word" "need_word" s_need_word t.need_word t.d_need_word
  b_need_word:Binds K t.d_need_word ["letters","thing"] []
  m_need_word:mg "need_word"=some (.ref t.need_word)
  F_table_of:Fun K "table_of" "table_of" s_table_of t.table_of t.d_table_of
  b_table_of:Binds K t.d_table_of ["machine","letter"] []
  m_table_of:mg "table_of"=some (.ref t.table_of)
  F_ahead:Fun K "ahead" "ahead" s_ahead t.ahead t.d_ahead
  b_ahead:Binds K t.d_ahead ["kind","machine","word"] []
  m_ahead:mg "ahead"=some (.ref t.ahead)
  F_weight:Fun K "weight" "weight" s_weight t.weight t.d_weight
  b_weight:Binds K t.d_weight ["kind","machine","word"] []
  m_weight:mg "weight"=some (.ref t.weight)
  F_law_next:Fun K "_law_next" "_law_next" s_law_next t.law_next t.d_law_next
  b_law_next:Binds K t.d_law_next ["_law_state_here","_law_many"] []
  m_law_next:mg "_law_next"=some (.ref t.law_next)
  F_law_state:Fun K "_law_state" "_law_state" s_law_state t.law_state t.d_law_state
  b_law_state:Binds K t.d_law_state ["_law_script"] []
  m_law_state:mg "_law_state"=some (.ref t.law_state)
  F_law_letters:Fun K "_law_letters" "_law_letters" s_law_letters t.law_letters t.d_law_letters
  b_law_letters:Binds K t.d_law_letters ["_law_state_here"] []
  m_law_letters:mg "_law_letters"=some (.ref t.law_letters)
  F_law_rooms:Fun K "_law_rooms" "_law_rooms" s_law_rooms t.law_rooms t.d_law_rooms
  b_law_rooms:Binds K t.d_law_rooms ["_law_state_here","_law_few","_law_most"] []
  m_law_rooms:mg "_law_rooms"=some (.ref t.law_rooms)
  F_law_costs:Fun K "_law_costs" "_law_costs" s_law_costs t.law_costs t.d_law_costs
  b_law_costs:Binds K t.d_law_costs ["_law_state_here","_law_far_here","_law_many"] []
  m_law_costs:mg "_law_costs"=some (.ref t.law_costs)
  F_law_far:Fun K "_law_far" "_law_far" s_law_far t.law_far t.d_law_far
  b_law_far:Binds K t.d_law_far ["_law_state_here"] []
  m_law_far:mg "_law_far"=some (.ref t.law_far)
  F_law_any_machine:Fun K "_law_any_machine" "_law_any_machine" s_law_any_machine t.law_any_machine t.d_law_any_machine
  b_law_any_machine:Binds K t.d_law_any_machine ["_law_state_here","_law_letters_here","_law_many","_law_thin"] []
  m_law_any_machine:mg "_law_any_machine"=some (.ref t.law_any_machine)
  F_law_walk:Fun K "_law_walk" "_law_walk" s_law_walk t.law_walk t.d_law_walk
  b_law_walk:Binds K t.d_law_walk ["_law_machine","_law_pair"] []
  m_law_walk:mg "_law_walk"=some (.ref t.law_walk)
  F_law_falls:Fun K "_law_falls" "_law_falls" s_law_falls t.law_falls t.d_law_falls
  b_law_falls:Binds K t.d_law_falls ["_law_machine","_law_answer"] []
  m_law_falls:mg "_law_falls"=some (.ref t.law_falls)
  F_law_less:Fun K "_law_less" "_law_less" s_law_less t.law_less t.d_law_less
  b_law_less:Binds K t.d_law_less ["_law_x","_law_y"] []
  m_law_less:mg "_law_less"=some (.ref t.law_less)
  F_law_weigh:Fun K "_law_weigh" "_law_weigh" s_law_weigh t.law_weigh t.d_law_weigh
  b_law_weigh:Binds K t.d_law_weigh ["_law_machine","_law_word"] []
  m_law_weigh:mg "_law_weigh"=some (.ref t.law_weigh)
  F_law_some_words:Fun K "_law_some_words" "_law_some_words" s_law_some_words t.law_some_words t.d_law_some_words
  b_law_some_words:Binds K t.d_law_some_words ["_law_letters_here","_law_most"] []
  m_law_some_words:mg "_law_some_words"=some (.ref t.law_some_words)
  F_law_weighs:Fun K "_law_weighs" "_law_weighs" s_law_weighs t.law_weighs t.d_law_weighs
  b_law_weighs:Binds K t.d_law_weighs ["_law_machine","_law_word"] []
  m_law_weighs:mg "_law_weighs"=some (.ref t.law_weighs)
  F_law_each_less:Fun K "_law_each_less" "_law_each_less" s_law_each_less t.law_each_less t.d_law_each_less
  b_law_each_less:Binds K t.d_law_each_less ["_law_machine","_law_answer"] []
  m_law_each_less:mg "_law_each_less"=some (.ref t.law_each_less)
  F_law:Fun K "law" "law" s_law t.law t.d_law
  b_law:Binds K t.d_law ["_law_script"] []
  m_law:mg "law"=some (.ref t.law)
  C_Costs:Cls K t.Costs
  m_Costs:mg "Costs"=some (.ref t.Costs)
  M_Costs:MkO K t.Costs
  z_len:mg "len"=none
  z_range:mg "range"=none
  z_zip:mg "zip"=none
  z_min:mg "min"=none
  z_enumerate:mg "enumerate"=none
  z_dict:mg "dict"=none
  z_tuple:mg "tuple"=none
  z_isinstance:mg "isinstance"=none
  z_str:mg "str"=none
  z_all:mg "all"=none
  z_bool:mg "bool"=none
  z_int:mg "int"=none
  z_list:mg "list"=none
  k_tt:PySem.W.kitOne K (.type "tuple") (.type "tuple")=some true
  k_ll:PySem.W.kitOne K (.type "list") (.type "list")=some true
  k_ii:PySem.W.kitOne K (.type "int") (.type "int")=some true
  k_ib:PySem.W.kitOne K (.type "int") (.type "bool")=some false
  k_ss:PySem.W.kitOne K (.type "str") (.type "str")=some true
  tb_cheapest:PySem.W.tabIn K "cheapest"=some (t.c_cheapest,t.P_cheapest)
  ns_cheapest:PySem.W.nsIn K mainGlobals "cheapest"=some (some (.ref t.cheapest))
seal L2.PSs L2.PS L2.PE L2.PT L2.PW L2.PA L2.PG L2.PGs L2.PI
section
variable{w:World}{K:PySem.W.Frag}{mg:Str→Option Value}{base:Heap}{t:Adr}
theorem cut_take(xs:List V)(k:Nat):cutV xs none (some (k:Int))=xs.take k:=by
  unfold cutV
  rw[HT.sIx_none,HT.sIx_nat,List.drop_zero,Nat.sub_zero]
  by_cases h:k≤xs.length
  · rw[Nat.min_eq_left h]
  · rw[Nat.min_eq_right (by omega),List.take_length,List.take_of_length_le (by omega)]
def Dr(H:Hp)(a:Addr):Prop:=∃x:Int,H a=some (.lst [.int x])∨∃d:Int,H a=some (.lst [.int d,.int x])
def SameX(a:Addr)(H H':Hp):Prop:=∀b o,b≠a→H b=some o→H' b=some o
theorem SameX.refl(a:Addr)(H:Hp):SameX a H H:=fun _ _ _ h=>h
theorem SameX.trans{a:Addr}{H H1 H2:Hp}(x:SameX a H H1)(y:SameX a H1 H2):SameX a H H2:=fun b o n h=>y b o n (x b o n h)
theorem SameX.upd{a:Addr}{H:Hp}{o:HO}:SameX a H (upd H a o):=fun b u n h=>by rw[upd_ne n];exact h
theorem SameX.of{a:Addr}{H H':Hp}(x:Same H H'):SameX a H H':=fun b o _ h=>x b o h
def sp_next:Sp:=fun vs H Q _=>∃(a:Addr) (m:Int),vs=[.ref a,.int m]∧(Dr H a∧0 < m∧m≤1000000000000000)∧∀(r:Int) H',SameX a H H'→Dr H' a→0≤r→r < m→Q (.int r) H'
def sp_state(K:PySem.W.Frag):Sp:=fun vs H Q _=>∃(a:Addr) (ns:List Int),vs=[.ref a]∧SqL K H a (ns.map V.int)∧ns.length≤63∧∀b H',H b=none→Same H H'→Dr H' b→Q (.ref b) H'
theorem small_div{m:Int}(h:0 < m)(h':m≤1000000000000000)(x:Int):CDivB x m:=by
  refine⟨by omega,?_⟩
  have:m.natAbs≤2 ^ 50:=by
    have e:(2:Nat) ^ 50=1125899906842624:=by decide
    omega
  by_cases e:m.natAbs=0
  · rw[e];decide
  · rw[Nat.log2_lt e]
    exact Nat.lt_of_le_of_lt this (Nat.pow_lt_pow_right (by decide) (by decide))
theorem ok_law_next(T:Txt K mg t):FnOk Pr w K mg base CX0 1 t.law_next t.d_law_next ["_law_state_here","_law_many"] sp_next:=by
  refine T.F_law_next.ok sc_law_next (fun vs H Q E h=>?_) (fun cdv A outer s H vs Q E hr h=>?_)
  · obtain⟨a,m,rfl,_⟩:=h
    rfl
  · obtain⟨a,m,rfl,⟨⟨x,hD⟩,m0,m1⟩,k⟩:=h
    refine⟨_,(pss_cons (ps_if (pt_cmpR op_eq (pe_callB call_len (by rfl) T.z_len PySem.boot_len (pa_cons (pv 0) pa_nil)) pe_int (nomark _)) (pss_cons (ps_set (i:=2) sc_law_next.nd rfl (Or.inl rfl) (pe_op op_modN (pe_ix ix_list (pv 0) pe_int (fun _ _=>rfl)) (pv 1))) (pss_cons (ps_asg (pe_op op_fdivB (pe_ix ix_list (pv 0) pe_int (fun _ _=>rfl)) (pv 1)) (pg_sub (pv 0) pe_int set_list)) (pss_cons (ps_if (pt_cmpR op_eq (pe_ix ix_list (pv 0) pe_int (fun _ _=>rfl)) pe_int (nomark _)) (pss_one (ps_expr (pe_bm PySem.F.plainAttrs_list PySem.F.slot_list_pop PySem.F.type_list_pop mt_popAt (pv 0) (pa_cons pe_int pa_nil)))) pss_nil) (pss_one (ps_ret (pv 2)))))) pss_nil) (pss_cons (ps_asg (pe_op op_modN (pe_op op_add (pe_op op_mul (pe_ix ix_list (pv 0) pe_int (fun _ _=>rfl)) pe_int) pe_int) pe_int) (pg_sub (pv 0) pe_int set_list)) (pss_one (ps_ret (pe_op op_modN (pe_op op_fdivB (pe_ix ix_list (pv 0) pe_int (fun _ _=>rfl)) pe_int) (pv 1)))))),?_⟩
    rcases hD with hD | ⟨d,hD⟩
    · have lc:LenV K (.ref a) H 1:=.inl ⟨_,SqL.of hD,rfl⟩
      refine⟨_,rfl,_,_,rfl,lc,rfl,_,rfl,?_⟩
      refine iteI (fun h=>absurd h (by decide)) (fun _=>?_)
      refine⟨_,rfl,_,_,_,_,rfl,rfl,SqL.of hD,rfl,_,_,rfl,rfl,.inr ⟨by decide,by decide⟩,_,_,rfl,rfl,_,_,rfl,rfl,(show(2305843009213693951:Int)≠0 by decide),?_⟩
      refine⟨_,rfl,_,_,_,_,rfl,rfl,hD,rfl,?_⟩
      refine⟨_,rfl,_,_,_,_,rfl,rfl,SqL.of upd_same,rfl,_,_,rfl,rfl,⟨by decide,by decide⟩,_,rfl,_,_,rfl,rfl,(show m≠0 by omega),?_⟩
      exact k _ _ SameX.upd ⟨_,.inl upd_same⟩ (Int.fmod_nonneg_of_pos _ m0) (Int.fmod_lt_of_pos _ m0)
    · have lc:LenV K (.ref a) H 2:=.inl ⟨_,SqL.of hD,rfl⟩
      refine⟨_,rfl,_,_,rfl,lc,rfl,_,rfl,?_⟩
      refine iteI (fun _=>?_) (fun h=>absurd rfl h)
      refine⟨_,rfl,_,_,_,_,rfl,rfl,SqL.of hD,rfl,_,rfl,_,_,rfl,rfl,(show m≠0 by omega),?_⟩
      refine⟨_,rfl,_,_,_,_,rfl,rfl,SqL.of hD,rfl,_,rfl,_,_,rfl,rfl,small_div m0 m1 _,?_⟩
      refine⟨_,rfl,_,_,_,_,rfl,rfl,hD,rfl,?_⟩
      refine⟨_,rfl,_,_,_,_,rfl,rfl,SqL.of upd_same,rfl,rfl,_,rfl,?_⟩
      refine iteI (fun _=>?_) (fun _=>?_)
      · refine⟨_,rfl,.inl ⟨rfl,_,SqL.of upd_same⟩,_,_,_,_,_,rfl,rfl,upd_same,(by decide),(by decide),rfl,rfl,?_⟩
        refine⟨_,rfl,?_⟩
        exact k _ _ (SameX.upd.trans SameX.upd) ⟨x,.inl upd_same⟩ (Int.fmod_nonneg_of_pos _ m0) (Int.fmod_lt_of_pos _ m0)
      · refine⟨_,rfl,?_⟩
        exact k _ _ SameX.upd ⟨x,.inr ⟨_,upd_same⟩⟩ (Int.fmod_nonneg_of_pos _ m0) (Int.fmod_lt_of_pos _ m0)
theorem ok_law_state(T:Txt K mg t):FnOk Pr w K mg base CX0 1 t.law_state t.d_law_state ["_law_script"] (sp_state K):=by
  refine T.F_law_state.ok sc_law_state (fun vs H Q E h=>?_) (fun cdv A outer s H vs Q E hr h=>?_)
  · obtain⟨a,ns,rfl,_⟩:=h
    rfl
  · obtain⟨a,ns,rfl,hS,hlen,k⟩:=h
    refine⟨_,(pss_cons (ps_set (i:=1) sc_law_state.nd rfl (Or.inl rfl) pe_int) (pss_cons (ps_for PassesOwn.never rfl (pi_list (pe_slice sl_list (pv 0) po_none (po_some pe_int))) (pg_name (i:=2) sc_law_state.nd rfl (Or.inl rfl)) (pss_one (ps_set (i:=1) sc_law_state.nd rfl (Or.inl rfl) (pe_op op_modN (pe_op op_add (pe_op op_add (pe_op op_mul (pv 1) pe_int) (pe_op op_modN (pv 2) (pe_op op_pow pe_int pe_int))) pe_int) pe_int)))) (pss_cons (ps_if (PW.pt (pw_and (pt_cmpR op_gt (pe_callB call_len (by rfl) T.z_len PySem.boot_len (pa_cons (pv 0) pa_nil)) pe_int (nomark _)) (pw_and (pt_cmpR op_gt (pe_ix ix_list (pv 0) pe_int (fun _ _=>rfl)) pe_int (nomark _)) (pw_and1 (pt_cmpR op_eq (pe_op op_modN (pe_ix ix_list (pv 0) pe_int (fun _ _=>rfl)) pe_int) pe_int (nomark _)))))) (pss_one (ps_ret (pe_lst (pa_cons (pe_op op_fdivB (pe_ix ix_list (pv 0) pe_int (fun _ _=>rfl)) pe_int) (pa_cons (pv 1) pa_nil))))) pss_nil) (pss_one (ps_ret (pe_lst (pa_cons (pv 1) pa_nil))))))),?_⟩
    refine⟨_,rfl,_,rfl,_,_,rfl,hS,fun c1 hc1=>?_⟩
    have ec:cutV (ns.map V.int) none (some 200)=(ns.take 200).map V.int:=by
      rw[show(200:Int)=((200:Nat):Int)from rfl,cut_take,List.map_take]
    have s1:=same_upd (o:=.lst (cutV (ns.map V.int) none (some 200))) hc1
    have k1:=upd_same (H:=H) (a:=c1) (o:=.lst (cutV (ns.map V.int) none (some 200)))
    have hS1:=s1.seq hS
    clear hc1
    revert s1 k1 hS1
    generalize upd H c1 (.lst (cutV (ns.map V.int) none (some 200)))=H1
    intro s1 k1 hS1
    rw[ec]at k1
    refine⟨c1,rfl,⟨_,SqL.of k1⟩,for_list (K:=K) (a:=c1) (xs:=(ns.take 200).map V.int) (fun i σ H'=>∃(x:Int) (v:Option V),σ=[some (.ref a),some (.int x),v]∧H'=H1) ⟨_,_,rfl,rfl⟩ (fun i σ H' _ ⟨_,_,_,e⟩=>e▸SqL.of k1) ?_ ?_⟩
    · rintro i y σ H' hi ⟨x,v,rfl,rfl⟩
      obtain⟨z,rfl⟩:∃z,y=V.int z:=by
        rw[List.getElem?_map]at hi
        cases e:(ns.take 200)[i]? with
        | none=>rw[e]at hi;cases hi
        | some z=>rw[e]at hi;exact⟨z,(Option.some.inj hi).symm⟩
      refine⟨_,rfl,_,_,rfl,rfl,.inr ⟨by decide,by decide⟩,_,rfl,_,_,rfl,rfl,⟨by decide,by decide,by decide⟩,_,_,rfl,rfl,(show((10:Int) ^ (30:Int).toNat)≠0 by decide),_,_,rfl,rfl,_,_,rfl,rfl,_,_,rfl,rfl,(show(2305843009213693951:Int)≠0 by decide),?_⟩
      exact⟨_,_,rfl,rfl⟩
    · rintro σ H' ⟨x,v,rfl,rfl⟩
      have lc:LenV K (.ref a) H' (ns.map V.int).length:=.inl ⟨_,hS1,rfl⟩
      rw[List.length_map]at lc
      have last:tSeq tNext (tRet (tLst (tCons (tVar 1) tNil))) { nx:=fun _ H''=>Q .non H'',rt:=Q } [some (.ref a),some (.int x),v] H':=by
        refine⟨_,rfl,(by show 1≤sizeLine;decide),fun b hb=>?_⟩
        exact k b _ (s1.free hb) (s1.trans (same_upd hb)) ⟨x,.inl upd_same⟩
      refine⟨_,rfl,_,_,rfl,lc,_,_,rfl,rfl,_,rfl,?_⟩
      refine iteP (fun h0=>?_) (fun _=>?_)
      · obtain⟨n0,g0⟩:∃n,ns[0]? = some n:=⟨ns[0]'(by omega),by simp⟩
        have a0:atI (ns.map V.int) 0=some (V.int n0):=atI_nat (j:=0) (by rw[List.getElem?_map,g0];rfl)
        refine⟨_,rfl,_,_,_,_,rfl,rfl,hS1,a0,_,_,rfl,rfl,_,rfl,?_⟩
        refine iteP (fun _=>?_) (fun _=>?_)
        · refine⟨_,rfl,_,_,_,_,rfl,rfl,hS1,a0,_,_,rfl,rfl,(show(2:Int)≠0 by decide),rfl,_,rfl,?_⟩
          refine iteI (fun _=>?_) (fun _=>?_)
          · refine⟨_,rfl,_,_,_,_,rfl,rfl,hS1,a0,_,_,rfl,rfl,⟨by decide,by decide⟩,_,rfl,(by show 2≤sizeLine;decide),fun b hb=>?_⟩
            exact k b _ (s1.free hb) (s1.trans (same_upd hb)) ⟨x,.inr ⟨_,upd_same⟩⟩
          · exact last
        · exact last
      · exact last
theorem Dr.same{H H':Hp}{a:Addr}(e:Same H H')(h:Dr H a):Dr H' a:=by
  obtain⟨x,h | ⟨d,h⟩⟩:=h
  · exact⟨x,.inl (e _ _ h)⟩
  · exact⟨x,.inr ⟨d,e _ _ h⟩⟩
theorem Dr.lst{H:Hp}{a:Addr}(h:Dr H a):∃xs,H a=some (.lst xs):=by
  obtain⟨x,h | ⟨d,h⟩⟩:=h
  · exact⟨_,h⟩
  · exact⟨_,h⟩
theorem SameX.tt{a:Addr}{H H':Hp}(s:SameX a H H')(d:Dr H a):SameT H H':=fun p vs h=>s p _ (by
  rintro rfl
  obtain⟨xs,e⟩:=d.lst
  rw[h]at e;cases e) h
theorem SameX.tup{a p:Addr}{H:Hp}{o:HO}(n:H p=none)(d:Dr H a):SameX a H (L2.upd H p o)∧Dr (L2.upd H p o) a:=⟨.of (same_upd n),d.same (same_upd n)⟩
def tx(l:List Nat):Str:=⟨l.toArray⟩
def vT(l:List Nat):V:=.str (tx l)
theorem tx_app(a b:List Nat):tx a++tx b=tx (a++b):=by
  show(⟨a.toArray++b.toArray⟩:Str)=⟨(a++b).toArray⟩
  simp
theorem tx_len(a:List Nat):(tx a).length=a.length:=by
  show a.toArray.size=a.length
  simp
theorem three{l:List Nat}(h1:1≤l.length)(h3:l.length≤3):(∃a,l=[a])∨(∃a b,l=[a,b])∨∃a b c,l=[a,b,c]:=by
  match l,h1,h3 with
  | [a],_,_=>exact .inl ⟨a,rfl⟩
  | [a,b],_,_=>exact .inr (.inl ⟨a,b,rfl⟩)
  | [a,b,c],_,_=>exact .inr (.inr ⟨a,b,c,rfl⟩)
theorem occ1(a x:Nat)(h:x=a):Builtin.Str.occurrences (tx [a]) (tx [x]) 0 (tx [a]).length 1=[0]:=by
  subst h
  simp[Builtin.Str.occurrences,Builtin.Str.subAt,tx,Str.length,List.range']
theorem occ2(a b x:Nat)(n:a≠b)(h:x=a∨x=b):Builtin.Str.occurrences (tx [a,b]) (tx [x]) 0 (tx [a,b]).length 1=[List.idxOf x [a,b]]:=by
  rcases h with rfl | rfl
  · simp[Builtin.Str.occurrences,Builtin.Str.subAt,tx,Str.length,List.range',List.idxOf_cons]
  · simp[Builtin.Str.occurrences,Builtin.Str.subAt,tx,Str.length,List.range',List.idxOf_cons,n,beq_false_of_ne n]
theorem occ3(a b c x:Nat)(n:(a≠b∧a≠c)∧b≠c)(h:x=a∨x=b∨x=c):Builtin.Str.occurrences (tx [a,b,c]) (tx [x]) 0 (tx [a,b,c]).length 1=[List.idxOf x [a,b,c]]:=by
  rcases h with rfl | rfl | rfl
  · simp[Builtin.Str.occurrences,Builtin.Str.subAt,tx,Str.length,List.range',List.idxOf_cons]
  · simp[Builtin.Str.occurrences,Builtin.Str.subAt,tx,Str.length,List.range',List.idxOf_cons,n.1.1,beq_false_of_ne n.1.1]
  · simp[Builtin.Str.occurrences,Builtin.Str.subAt,tx,Str.length,List.range',List.idxOf_cons,n.1.2,n.2,beq_false_of_ne n.1.2,beq_false_of_ne n.2]
structure LOk(l:List Nat):Prop where
  h1:1≤l.length
  h3:l.length≤3
  nd:l.Nodup
  as:∀c∈l,c < 128
theorem occ_of{l:List Nat}(h:LOk l){x:Nat}(hx:x∈l):Builtin.Str.occurrences (tx l) (tx [x]) 0 (tx l).length 1=[l.idxOf x]:=by
  have nd:=h.nd
  rcases three h.h1 h.h3 with ⟨a,rfl⟩ | ⟨a,b,rfl⟩ | ⟨a,b,c,rfl⟩
  · have:x=a:=by simpa using hx
    rw[occ1 a x this,this];simp
  · exact occ2 a b x (by simpa using nd) (by simpa using hx)
  · exact occ3 a b c x (by simpa [not_or] using nd) (by simpa using hx)
structure Pool(p l:List Nat)(i:Nat):Prop where
  nd:(p++l).Nodup
  pl:p.length=26 - i
  ll:l.length=i
  az:∀c∈p++l,97≤c∧c≤122
def azs:List Nat:=[97,98,99,100,101,102,103,104,105,106,107,108,109,110,111,112,113,114,115,116,117,118,119,120,121,122]
theorem az_is:(Str.ofString "abcdefghijklmnopqrstuvwxyz")=tx azs:=by decide +kernel
theorem em_is:(Str.ofString "")=tx []:=by decide +kernel
theorem Pool.start:Pool azs [] 0:=⟨by decide,by decide,rfl,by decide⟩
theorem Pool.turn{p l:List Nat}{i j:Nat}{c:Nat}(h:Pool p l i)(hi:i≤20)(hc:p[j]? = some c):Pool (p.take j++p.drop (j+1)) (l++[c]) (i+1):=by
  have hj:j < p.length:=(List.getElem?_eq_some_iff.mp hc).1
  have e:p=p.take j++c::p.drop (j+1):=by
    have:p[j]=c:=(List.getElem?_eq_some_iff.mp hc).2
    rw[← this,List.getElem_cons_drop_succ_eq_drop hj,List.take_append_drop]
  have pm:((p.take j++p.drop (j+1))++(l++[c])).Perm (p++l):=by
    conv=>rhs;rw[e]
    have h1:((p.take j++p.drop (j+1))++(l++[c])).Perm ((l++[c])++(p.take j++p.drop (j+1))):=List.perm_append_comm
    have h2:(p.take j++c::p.drop (j+1)).Perm (c::(p.take j++p.drop (j+1))):=List.perm_middle
    have h3:(p.take j++c::p.drop (j+1)++l).Perm (c::(p.take j++p.drop (j+1))++l):=h2.append_right l
    have h4:(c::(p.take j++p.drop (j+1))++l).Perm (l++c::(p.take j++p.drop (j+1))):=List.perm_append_comm
    have h5:(l++[c])++(p.take j++p.drop (j+1))=l++c::(p.take j++p.drop (j+1)):=by simp
    rw[h5]at h1
    exact h1.trans (h4.symm.trans h3.symm)
  refine⟨pm.nodup_iff.mpr h.nd,?_,?_,fun x hx=>h.az x (pm.mem_iff.mp hx)⟩
  · rw[List.length_append,List.length_take,List.length_drop]
    have:=h.pl
    omega
  · rw[List.length_append,h.ll];rfl
def sp_letters:Sp:=fun vs H Q _=>∃(a:Addr),vs=[.ref a]∧Dr H a∧∀(p l:List Nat) (i:Nat) H',SameX a H H'→Dr H' a→Pool p l i→1≤i→i≤3→Q (vT l) H'
theorem strike{p:List Nat}{j c:Nat}(hd:p.Nodup)(hc:p[j]? = some c):p.filter (· != c)=p.take j++p.drop (j+1):=by
  induction p generalizing j with
  | nil=>cases hc
  | cons a p ih=>
    rw[List.nodup_cons]at hd
    cases j with
    | zero=>
      have e:a=c:=by simpa using hc
      subst e
      rw[List.filter_cons_of_neg (p:=fun x=>x != a) (by simp),PyProof.Rows.filter_free a p hd.1]
      rfl
    | succ j=>
      have hc':p[j]? = some c:=by simpa using hc
      have ne:(a != c)=true:=by
        simp only[bne_iff_ne]
        intro e
        subst e
        exact hd.1 (List.mem_of_getElem? hc')
      rw[List.filter_cons_of_pos (p:=fun x=>x != c) ne,ih hd.2 hc']
      rfl
theorem Pool.nodup{p l:List Nat}{i:Nat}(G:Pool p l i):p.Nodup:=(List.nodup_append.mp G.nd).1
theorem ok_law_letters(T:Txt K mg t):FnOk Pr w K mg base CX0 2 t.law_letters t.d_law_letters ["_law_state_here"] sp_letters:=by
  refine T.F_law_letters.ok sc_law_letters (fun vs H Q E h=>?_) (fun cdv A outer s H vs Q E hr h=>?_)
  · obtain⟨a,rfl,_⟩:=h
    rfl
  · obtain⟨a,rfl,hD,k⟩:=h
    have szl:(1000:Nat) < sizeLine:=by decide
    refine⟨_,(pss_fl (i:=1) sc_law_letters.nd rfl rfl pe_str (pssn_cons (PS.fl (ps_set (i:=2) sc_law_letters.nd rfl (Or.inl rfl) pe_str)) (pssn_cons (ps_forn PassesOwn.never rfl (pi_range1 rfl T.z_range (pa_cons (pe_op op_add pe_int (pe_call (ok_law_next T) hr.m rfl T.m_law_next T.F_law_next.kp T.b_law_next .nil pass0 (pa_cons (pv 0) (pa_cons pe_int pa_nil)))) pa_nil)) (pg_name (i:=3) sc_law_letters.nd rfl (Or.inl rfl)) (pssn_letter (il:=4) (ia:=1) (iw:=2) sc_law_letters.nd rfl rfl rfl rfl rfl rfl (by decide) (by decide) (by decide) (pe_call (ok_law_next T) hr.m rfl T.m_law_next T.F_law_next.kp T.b_law_next .nil pass0 (pa_cons (pv 0) (pa_cons (pe_callB call_len (by rfl) T.z_len PySem.boot_len (pa_cons (pv 1) pa_nil)) pa_nil))) (fun _ _=>rfl))) (PSs.fl (pss_one (ps_ret (pv 2))))))),?_⟩
    refine⟨_,rfl,_,_,rfl,⟨hD,by decide,by decide⟩,fun r H1 s1 D1 r0 r3=>?_⟩
    refine⟨_,_,rfl,rfl,_,rfl,(by omega),(by omega),for_range (lo:=0) (n:=(1+r).toNat)
      (fun i σ H'=>∃p l v3 v4,σ=[some (.ref a),some (vT p),some (vT l),v3,v4]∧SameX a H H'∧Dr H' a∧Pool p l i)
      ⟨azs,[],_,_,(by rw[vT,vT,← az_is,← em_is];rfl),s1,D1,Pool.start⟩ ?_ ?_⟩
    · rintro i σ H' hi ⟨p,l,v3,v4,rfl,q,D,G⟩
      have hp:=G.pl
      have hll:=G.ll
      have lp:LenV K (vT p) H' (tx p).length:=⟨by rw[tx_len];omega,rfl⟩
      rw[tx_len]at lp
      refine⟨tx p,tx l,rfl,rfl,by rw[tx_len];omega,by rw[tx_len];omega,?_⟩
      refine⟨_,rfl,_,rfl,_,_,rfl,lp,_,_,rfl,⟨D,by omega,by omega⟩,fun z H2 s2 D2 z0 z1=>?_⟩
      obtain⟨c,hc⟩:∃c,p[z.toNat]? = some c:=⟨p[z.toNat]'(by omega),by simp⟩
      have ac:atI (tx p).cps.toList z=some c:=by
        have e:z=((z.toNat:Nat):Int):=by omega
        rw[e]
        exact atI_nat (by show p.toArray.toList[z.toNat]? = some c;simpa using hc)
      refine⟨z,c,rfl,ac,?_⟩
      have e1:tx l++(⟨#[c]⟩:Str)=tx (l++[c]):=tx_app l [c]
      have e3:Txt.replace (tx p) ⟨#[c]⟩ (Str.ofString "")=tx (p.take z.toNat++p.drop (z.toNat+1)):=by
        have:=PyProof.Rows.replace_strikes (tx p) c
        rw[show(tx p).cps.toList=p by simp[tx],strike G.nodup hc]at this
        show(⟨_⟩:Str)=⟨_⟩
        rw[← this]
        rfl
      exact⟨_,_,_,_,(by rw[e1,e3];rfl),q.trans s2,D2,G.turn (by omega) hc⟩
    · rintro σ H' ⟨p,l,v3,v4,rfl,q,D,G⟩
      refine⟨_,rfl,?_⟩
      exact k p l _ H' q D G (by omega) (by omega)
theorem Pool.ok{p l:List Nat}{i:Nat}(G:Pool p l i)(h1:1≤i)(h3:i≤3):LOk l:=by
  have e:=G.ll
  refine⟨by omega,by omega,(List.nodup_append.mp G.nd).2.1,fun c hc=>?_⟩
  have:=(G.az c (List.mem_append_right _ hc)).2
  omega
theorem LOk.asc{l:List Nat}(L:LOk l):(tx l).cps.all (· < 128)=true:=by
  show l.toArray.all (· < 128)=true
  simp only[List.all_toArray,List.all_eq_true,decide_eq_true_eq]
  exact fun c hc=>L.as c hc
theorem comp_goI{J:It}{n k:Nat}{g:TG}{tc:TT}{te:TE}{σ:L2.St}{Q:VK}{H1:Hp}(Pv:Nat→List V→Hp→Prop)(hn:n≤10000)(h0:Pv 0 [] H1)(hl:∀i ys H,Pv i ys H→ys.length≤i)
    (hgo:∀i ys H,i < n→Pv i ys H→J.go i H∧∀x H',J.yld i H x H'→g x (σ++List.replicate k none) H' fun σ2 H2=>(∃zs,σ2=σ++zs∧zs.length=k)∧tc σ2 H2 fun b H3=>if b=true then te σ2 H3 fun v H4=>Pv (i+1) (ys++[v]) H4 else Pv (i+1) ys H3)
    (hstop:∀ys H,Pv n ys H→J.stop n H) (hend:∀ys H p,Pv n ys H→H p=none→Q (.ref p) (upd H p (.lst ys))) :
    CTailI J k g tc te σ Q H1:=by
  have z:10000 < sizeLine:=by decide
  refine⟨fun i m ys H=>m=n - i∧i≤n∧Pv i ys H,⟨n,rfl,Nat.zero_le _,h0⟩,?_⟩
  rintro i m ys H ⟨rfl,hi,p⟩
  have yl:=hl i ys H p
  by_cases hlt:i < n
  · obtain⟨a,b⟩:=hgo i ys H hlt p
    refine .inr ⟨a,by omega,fun x H' y=>?_⟩
    have c:=b x H' y
    have e1:∀ys H3,(∃m',m' < n - i∧m'=n - (i+1)∧i+1≤n∧Pv (i+1) ys H3)=Pv (i+1) ys H3:=fun ys H3=>propext ⟨fun⟨_,_,_,_,q⟩=>q,fun q=>⟨_,by omega,rfl,hlt,q⟩⟩
    simp only[e1]
    exact c
  · have e:i=n:=by omega
    subst e
    exact .inl ⟨hstop ys H p,by omega,fun q nq=>hend ys H q p nq⟩
def oV:Option Int→V
  | none=>.non
  | some i=>.int i
def CR(r:List (Option Int))(v:V)(H:Hp):Prop:=∃p,v=.ref p∧H p=some (.tup (r.map oV))
theorem CR.same{r:List (Option Int)}{v:V}{H H':Hp}(s:SameT H H')(h:CR r v H):CR r v H':=by
  obtain⟨p,rfl,h⟩:=h
  exact⟨p,rfl,s _ _ h⟩
def LT{α:Type}(Pd:α→V→Hp→Prop)(m:List α)(v:V)(H:Hp):Prop:=∃p vs,v=.ref p∧H p=some (.tup vs)∧Ents (fun i u H=>∃r,m[i]? = some r∧Pd r u H) vs m.length H
theorem LT.same{α:Type}{Pd:α→V→Hp→Prop}{m:List α}{v:V}{H H':Hp}(hp:∀r u,Pd r u H→Pd r u H')(s:SameT H H')(h:LT Pd m v H):LT Pd m v H':=by
  obtain⟨p,vs,rfl,h,e⟩:=h
  exact⟨p,vs,rfl,s _ _ h,e.mono fun j u _ ⟨r,e1,e2⟩=>⟨r,e1,hp r u e2⟩⟩
def CT(m:List (List (Option Int)))(v:V)(H:Hp):Prop:=LT CR m v H
theorem CT.same{m:List (List (Option Int))}{v:V}{H H':Hp}(s:SameT H H')(h:CT m v H):CT m v H':=LT.same (fun _ _=>CR.same s) s h
theorem ents_snoc{α:Type}{Pd:α→V→Hp→Prop}{m:List α}{ys:List V}{H H':Hp}{r:α}{u:V}(e:Ents (fun i u H=>∃r,m[i]? = some r∧Pd r u H) ys m.length H)(hp:∀r u,Pd r u H→Pd r u H')(h:Pd r u H') :
    Ents (fun i u H=>∃q,(m++[r])[i]? = some q∧Pd q u H) (ys++[u]) (m++[r]).length H':=by
  rw[List.length_append,List.length_singleton]
  refine(e.mono fun j v hj ⟨q,e1,e2⟩=>⟨q,by rw[List.getElem?_append_left hj];exact e1,hp q v e2⟩).snoc ⟨r,by simp,h⟩
structure CMok(l:List Nat)(n:Nat)(st:List (Option Int))(ts:List (List (List (Option Int))))(en:List (Option Int)):Prop where
  lk:LOk l
  n20:n≤20
  sl:st.length=n
  tl:ts.length=l.length
  tb:∀m∈ts,m.length=n∧∀r∈m,r.length=n
  el:en.length=n
def CM(l:List Nat)(st:List (Option Int))(ts:List (List (List (Option Int))))(en:List (Option Int))(v:V)(H:Hp):Prop:=∃p s tv e,v=.ref p∧H p=some (.tup [vT l,s,tv,e])∧CR st s H∧LT CT ts tv H∧CR en e H
theorem CM.same{l:List Nat}{st:List (Option Int)}{ts:List (List (List (Option Int)))}{en:List (Option Int)}{v:V}{H H':Hp}(s:SameT H H')(h:CM l st ts en v H):CM l st ts en v H':=by
  obtain⟨p,a,b,c,rfl,h,h1,h2,h3⟩:=h
  exact⟨p,a,b,c,rfl,s _ _ h,h1.same s,h2.same (fun _ _=>CT.same s) s,h3.same s⟩
def at2(m:List (List (Option Int)))(i j:Nat):Option Int:=(m[i]?.bind fun r=>r[j]?).join
def sc(ts:List (List (List (Option Int))))(i j:Nat):Option Int:=lo (ts.filterMap fun m=>at2 m i j)
def org(r:List (Option Int))(j:Nat):Option Int:=(r[j]?).join
def WL(l:List Nat)(ts:List (List (List (Option Int))))(i j x:Nat)(c:Int):Prop:=∃(a:Nat) (m:_),l[a]? = some x∧ts[a]? = some m∧at2 m i j=some c
theorem at2_lt{m:List (List (Option Int))}{i j n:Nat}{c:Int}(h:at2 m i j=some c)(hm:m.length=n∧∀r∈m,r.length=n):i < n∧j < n:=by
  unfold at2 at h
  cases e:m[i]? with
  | none=>rw[e]at h;cases h
  | some r=>
    rw[e]at h
    have h:(r[j]?).join=some c:=h
    cases e2:r[j]? with
    | none=>rw[e2]at h;cases h
    | some o=>
      have h1:=(List.getElem?_eq_some_iff.mp e).1
      have h2:=(List.getElem?_eq_some_iff.mp e2).1
      rw[hm.2 r (List.mem_of_getElem? e)]at h2
      exact⟨by omega,h2⟩
theorem sc_mem{ts:List (List (List (Option Int)))}{i j:Nat}{c:Int}(h:sc ts i j=some c):(∃(a:Nat) (m:_),ts[a]? = some m∧at2 m i j=some c)∧∀m∈ts,∀d,at2 m i j=some d→c≤d:=by
  obtain⟨h1,h2⟩:=lo_spec h
  obtain⟨m,hm,e⟩:=List.mem_filterMap.mp h1
  obtain⟨a,ha⟩:=List.getElem?_of_mem hm
  exact⟨⟨a,m,ha,e⟩,fun m hm d hd=>h2 d (List.mem_filterMap.mpr ⟨m,hm,hd⟩)⟩
theorem sc_is{ts:List (List (List (Option Int)))}{i j:Nat}{c:Int}{m:List (List (Option Int))}(hm:m∈ts)(e:at2 m i j=some c)(h:∀m∈ts,∀d,at2 m i j=some d→c≤d):sc ts i j=some c:=
  lo_is (List.mem_filterMap.mpr ⟨m,hm,e⟩) fun d hd=>by
    obtain⟨m,hm,e⟩:=List.mem_filterMap.mp hd
    exact h m hm d e
theorem sc_none{ts:List (List (List (Option Int)))}{i j:Nat}:sc ts i j=none↔∀m∈ts,at2 m i j=none:=by
  unfold sc
  rw[lo_none,List.filterMap_eq_nil_iff]
theorem sc_lt{l:List Nat}{n:Nat}{st en:List (Option Int)}{ts:List (List (List (Option Int)))}(O:CMok l n st ts en){i j:Nat}{c:Int}(h:sc ts i j=some c):i < n∧j < n:=by
  obtain⟨⟨a,m,ha,e⟩,_⟩:=sc_mem h
  exact at2_lt e (O.tb m (List.mem_of_getElem? ha))
theorem at_oV{r:List (Option Int)}{j:Nat}(h:j < r.length):atI (r.map oV) ((j:Nat):Int)=some (oV (org r j)):=by
  refine atI_nat ?_
  unfold org
  rw[List.getElem?_map,List.getElem?_eq_getElem h];rfl
theorem CT.row{m:List (List (Option Int))}{v:V}{H:Hp}(h:CT m v H){i:Nat}(hi:i < m.length):∃p vs q r,v=.ref p∧H p=some (.tup vs)∧atI vs ((i:Nat):Int)=some (.ref q)∧m[i]? = some r∧H q=some (.tup (r.map oV)):=by
  obtain⟨p,vs,rfl,h,e⟩:=h
  obtain⟨u,eu,r,er,q,rfl,hq⟩:=e.2 i hi
  exact⟨p,vs,q,r,rfl,h,atI_nat eu,er,hq⟩
theorem at2_row{m:List (List (Option Int))}{i j:Nat}{r:List (Option Int)}(h:m[i]? = some r):at2 m i j=org r j:=by
  unfold at2 org
  rw[h];rfl
theorem CR.len{r:List (Option Int)}{v:V}{H:Hp}(h:CR r v H):LenV K v H r.length:=by
  obtain⟨p,rfl,h⟩:=h
  exact .inr ⟨_,SqT.of h,(List.length_map ..).symm⟩
def sp_rooms:Sp:=fun vs H Q _=>∃mv l n st ts en,vs=[mv]∧(CM l st ts en mv H∧CMok l n st ts en)∧Q (.int n) H
theorem ok_rooms(T:Txt K mg t):FnOk Pr w K mg base CX0 1 t.rooms t.d_rooms ["machine"] sp_rooms:=by
  refine T.F_rooms.ok sc_rooms (fun vs H Q E h=>?_) (fun cdv A outer s H vs Q E hr h=>?_)
  · obtain⟨mv,l,n,st,ts,en,rfl,_⟩:=h
    rfl
  · obtain⟨mv,l,n,st,ts,en,rfl,⟨⟨p,sv,tv,ev,rfl,hp,hs,ht,he⟩,O⟩,k⟩:=h
    refine⟨_,(pss_one (ps_ret (pe_callB call_len (by rfl) T.z_len PySem.boot_len (pa_cons (pe_ix ix_tup (pv 0) pe_int (fun _ _=>rfl)) pa_nil)))),?_⟩
    refine⟨_,rfl,_,_,_,_,rfl,rfl,SqT.of hp,rfl,_,_,rfl,hs.len,?_⟩
    rw[O.sl]
    exact k
def StV(s:Stp)(u:V)(H:Hp):Prop:=∃q p,u=.ref q∧H q=some (.tup [.int s.i,.int s.j,.ref p])∧H p=some (.tup [.int s.c,vT [s.x]])
theorem StV.same{s:Stp}{u:V}{H H':Hp}(e:SameT H H')(h:StV s u H):StV s u H':=by
  obtain⟨q,p,rfl,h1,h2⟩:=h
  exact⟨q,p,rfl,e _ _ h1,e _ _ h2⟩
def StL(S:List Stp)(a:Addr)(H:Hp):Prop:=∃vs,H a=some (.lst vs)∧Ents (fun i u H=>∃s,S[i]? = some s∧StV s u H) vs S.length H
theorem StL.same{S:List Stp}{a:Addr}{H H':Hp}(e:Same H H')(h:StL S a H):StL S a H':=by
  obtain⟨vs,h,q⟩:=h
  exact⟨vs,e _ _ h,q.mono fun _ _ _ ⟨r,a1,a2⟩=>⟨r,a1,a2.same e.t⟩⟩
def sp_csteps:Sp:=fun vs H Q _=>∃mv l n st ts en,vs=[mv]∧(CM l st ts en mv H∧CMok l n st ts en)∧∀S a H',Same H H'→StL S a H'→StepsOk (sc ts) (fun _=>True) S→(∀s∈S,WL l ts s.i s.j s.x s.c∧s.j < n)→S.length≤400→Q (.ref a) H'
def PrV(ts:List (List (List (Option Int))))(l:List Nat)(i j:Nat)(a:Nat)(u:V)(H:Hp):Prop:=∃p m x,u=.ref p∧ts[a]? = some m∧l[a]? = some x∧H p=some (.tup [oV (at2 m i j),vT [x]])
structure Th(ts:List (List (List (Option Int))))(l:List Nat)(i j a:Nat)(qs:List (Addr × Int × Nat))(H:Hp):Prop where
  at_:∀q∈qs,H q.1=some (.tup [.int q.2.1,vT [q.2.2]])
  is:∀q∈qs,WL l ts i j q.2.2 q.2.1
  len:qs.length≤a
  all:∀b m c,b < a→ts[b]? = some m→at2 m i j=some c→∃q∈qs,q.2.1=c
theorem Th.same{ts:List (List (List (Option Int)))}{l:List Nat}{i j a:Nat}{qs:List (Addr × Int × Nat)}{H H':Hp}(s:SameT H H')(h:Th ts l i j a qs H):Th ts l i j a qs H':=⟨fun q hq=>s _ _ (h.at_ q hq),h.is,h.len,h.all⟩
structure Sts(l:List Nat)(ts:List (List (List (Option Int))))(n i j:Nat)(S:List Stp):Prop where
  is:∀s∈S,sc ts s.i s.j=some s.c∧WL l ts s.i s.j s.x s.c∧s.j < n
  all:∀a b c,(a < i∨(a=i∧b < j))→sc ts a b=some c→∃s∈S,s.i=a∧s.j=b∧s.c=c
  len:S.length≤i * 20+j
theorem sign_at{l:List Nat}{a x:Nat}(h:l[a]? = some x):(L2.signs (tx l))[a]? = some (vT [x]):=by
  unfold L2.signs
  rw[List.getElem?_map,show(tx l).cps.toList=l by simp[tx],h];rfl
theorem Sts.start{l:List Nat}{ts:List (List (List (Option Int)))}{n:Nat}:Sts l ts n 0 0 []:=⟨fun _ h=>(by cases h),fun a b c h=>(by omega),(by simp)⟩
theorem Sts.add{l:List Nat}{ts:List (List (List (Option Int)))}{n i j x:Nat}{c:Int}{S:List Stp}(h:Sts l ts n i j S)(e:sc ts i j=some c)(hw:WL l ts i j x c)(hj:j < n):Sts l ts n i (j+1) (S++[⟨i,j,c,x⟩]):=by
  refine⟨fun s hs=>?_,fun a b d hab hd=>?_,by have:=h.len;rw[List.length_append,List.length_singleton];omega⟩
  · rcases List.mem_append.mp hs with hs | hs
    · exact h.is s hs
    · rw[List.mem_singleton.mp hs];exact⟨e,hw,hj⟩
  · by_cases hh:a=i∧b=j
    · obtain⟨rfl,rfl⟩:=hh
      rw[e]at hd;cases hd
      exact⟨_,List.mem_append_right _ (List.mem_singleton.mpr rfl),rfl,rfl,rfl⟩
    · obtain⟨s,hs,q⟩:=h.all a b d (by omega) hd
      exact⟨s,List.mem_append_left _ hs,q⟩
theorem Sts.skip{l:List Nat}{ts:List (List (List (Option Int)))}{n i j:Nat}{S:List Stp}(h:Sts l ts n i j S)(e:sc ts i j=none):Sts l ts n i (j+1) S:=by
  refine⟨h.is,fun a b d hab hd=>?_,by have:=h.len;omega⟩
  by_cases hh:a=i∧b=j
  · obtain⟨rfl,rfl⟩:=hh
    rw[e]at hd;cases hd
  · exact h.all a b d (by omega) hd
theorem Sts.row{l:List Nat}{ts:List (List (List (Option Int)))}{n i j:Nat}{S:List Stp}(h:Sts l ts n i j S)(n20:n≤20)(e:j=n)(q:∀a b c,sc ts a b=some c→b < n):Sts l ts n (i+1) 0 S:=by
  refine⟨h.is,fun a b d hab hd=>?_,by have:=h.len;omega⟩
  have:=q a b d hd
  exact h.all a b d (by omega) hd
theorem _root_.L2.Same.put{H H':Hp}{a:Addr}{o:HO}(s:Same H H')(n:H a=none):Same H (L2.upd H' a o):=fun b u h=>by
  rw[upd_ne (fun e=>by rw[e,n]at h;cases h)];exact s b u h
theorem SameT_lst{H:Hp}{a:Addr}{xs ys:List V}(h:H a=some (.lst xs)):SameT H (L2.upd H a (.lst ys)):=fun p vs hp=>by
  rw[upd_ne (fun e=>by rw[e,h]at hp;cases hp)];exact hp
theorem StL.snoc{S:List Stp}{s:Stp}{a:Addr}{H:Hp}{vs:List V}{u:V}(h:H a=some (.lst vs))(e:Ents (fun i u H=>∃s,S[i]? = some s∧StV s u H) vs S.length H)(q:StV s u H):StL (S++[s]) a (L2.upd H a (.lst (vs++[u]))):=
  ⟨_,upd_same,ents_snoc e (fun _ _ z=>StV.same (SameT_lst h) z) (q.same (SameT_lst h))⟩
theorem ok_cheapest_steps(T:Txt K mg t):FnOk Pr w K mg base CX0 3 t.cheapest_steps t.d_cheapest_steps ["machine"] sp_csteps:=by
  refine T.F_cheapest_steps.ok sc_cheapest_steps (fun vs H Q E h=>?_) (fun cdv A outer s H vs Q E hr h=>?_)
  · obtain⟨mv,l,n,st,ts,en,rfl,_⟩:=h
    rfl
  · obtain⟨mv,l,n,st,ts,en,rfl,⟨hM,O⟩,k⟩:=h
    have n20:=O.n20
    have l3:=O.lk.h3
    have tl:=O.tl
    have zl:10000 < sizeLine:=by decide
    refine⟨_,(pss_cons (ps_set (i:=1) sc_cheapest_steps.nd rfl (Or.inl rfl) (pe_lst pa_nil)) (pss_cons (ps_for PassesOwn.never rfl (pi_range1 rfl T.z_range (pa_cons (pe_call (ok_rooms T) hr.m rfl T.m_rooms T.F_rooms.kp T.b_rooms .nil pass0 (pa_cons (pv 0) pa_nil)) pa_nil)) (pg_name (i:=2) sc_cheapest_steps.nd rfl (Or.inr rfl)) (pss_one (ps_for PassesOwn.never rfl (pi_range1 rfl T.z_range (pa_cons (pe_call (ok_rooms T) hr.m rfl T.m_rooms T.F_rooms.kp T.b_rooms .nil pass0 (pa_cons (pv 0) pa_nil)) pa_nil)) (pg_name (i:=3) sc_cheapest_steps.nd rfl (Or.inr rfl)) (pss_cons (ps_setC (i₀:=4) (xs:=["letter","table"]) sc_cheapest_steps.nd rfl (Or.inl rfl) rfl (show CompOk ["machine","told","first","second","found","there"] (defScope s_cheapest_steps) _ from⟨rfl,by decide +kernel,by decide +kernel,by decide +kernel,by decide +kernel,by decide +kernel⟩) (pi_zip rfl T.z_zip (pa_cons (pe_ix ix_tup (pv 0) pe_int (fun _ _=>rfl)) (pa_cons (pe_ix ix_tup (pv 0) pe_int (fun _ _=>rfl)) pa_nil))) (fun _ _ _ _ _=>(show PG _ _ (gTup K 2 _)from(pg_tup rfl (pgs_cons (pg_name (i:=6) (by show List.Nodup (["machine","told","first","second","found","there","letter","table"]:List Str);decide +kernel) rfl (Or.inl rfl)) (pgs_cons (pg_name (i:=7) (by show List.Nodup (["machine","told","first","second","found","there","letter","table"]:List Str);decide +kernel) rfl (Or.inl rfl)) pgs_nil))))) (fun _ _ _ _ _=>(pe_tup (pa_cons (pe_ix (show IxR _ (rIxT K)from ix_tup) (pe_ix (show IxR _ (rIxT K)from ix_tup) (pv 7) (pv 2) (fun _ _=>rfl)) (pv 3) (fun _ _=>rfl)) (pa_cons (pv 6) pa_nil))))) (pss_cons (ps_setCI (i₀:=5) (xs:=["pair"]) sc_cheapest_steps.nd rfl (Or.inl rfl) rfl (show CompOk ["machine","told","first","second","found","there"] (defScope s_cheapest_steps) _ from⟨rfl,by decide +kernel,by decide +kernel,by decide +kernel,by decide +kernel,by decide +kernel⟩) (pi_list (pv 4)) (fun _ _ _ _ _=>(pg_name (i:=6) (by show List.Nodup (["machine","told","first","second","found","there","pair"]:List Str);decide +kernel) rfl (Or.inl rfl))) (fun _ _ _ _ _=>(pt_cmpR op_notN (pe_ix (show IxR _ (rIxT K)from ix_tup) (pv 6) pe_int (fun _ _=>rfl)) pe_non (nomark _))) (fun _ _ _ _ _=>(pv 6))) (pss_one (ps_if (pt_cmpR op_gt (pe_callB call_len (by rfl) T.z_len PySem.boot_len (pa_cons (pv 5) pa_nil)) pe_int (nomark _)) (pss_one (ps_expr (pe_bm PySem.F.plainAttrs_list PySem.F.slot_list_append PySem.F.type_list_append mt_append (pv 1) (pa_cons (pe_tup (pa_cons (pv 2) (pa_cons (pv 3) (pa_cons (pe_callB (call_minP rfl hr.in1.units) (by rfl) T.z_min boot_min (pa_cons (pv 5) pa_nil)) pa_nil)))) pa_nil)))) pss_nil))))))) (pss_one (ps_ret (pv 1))))),?_⟩
    refine⟨Nat.zero_le _,fun tp ntp=>?_⟩
    have s1:=same_upd (o:=.lst []) ntp
    have k1:StL [] tp (upd H tp (.lst [])):=⟨[],upd_same,Ents.nil⟩
    revert s1 k1
    generalize upd H tp (.lst [])=H1
    intro s1 k1
    refine⟨_,rfl,mv,l,n,st,ts,en,rfl,⟨hM.same s1.t,O⟩,?_⟩
    refine⟨_,rfl,(by omega),(by omega),for_range (lo:=0) (n:=(n:Int).toNat) (fun i σ H2=>∃v2 v3 v4 v5 S,σ=[some mv,some (.ref tp),v2,v3,v4,v5]∧Same H H2∧StL S tp H2∧Sts l ts n i 0 S) ⟨_,_,_,_,[],rfl,s1,k1,Sts.start⟩ ?_ ?_⟩
    · rintro i σ H2 hi ⟨v2,v3,v4,v5,S,rfl,s2,k2,g2⟩
      refine⟨_,rfl,mv,l,n,st,ts,en,rfl,⟨hM.same s2.t,O⟩,?_⟩
      refine⟨_,rfl,(by omega),(by omega),for_range (lo:=0) (n:=(n:Int).toNat) (fun j σ H3=>∃v3 v4 v5 S,σ=[some mv,some (.ref tp),some (.int (0+(i:Int))),v3,v4,v5]∧Same H H3∧StL S tp H3∧Sts l ts n i j S) ⟨_,_,_,S,rfl,s2,k2,g2⟩ ?_ ?_⟩
      · rintro j σ H3 hj ⟨v3,v4,v5,S,rfl,s3,k3,g3⟩
        obtain⟨mp,sv,tv,ev,rfl,hp,hs,ht,he⟩:=hM.same s3.t
        have hM3:CM l st ts en (.ref mp) H3:=⟨mp,sv,tv,ev,rfl,hp,hs,ht,he⟩
        obtain⟨tq,tvs,rfl,htq,et⟩:=id ht
        have h0:(0:Int)+(i:Int)=((i:Nat):Int):=by omega
        have h1:(0:Int)+(j:Int)=((j:Nat):Int):=by omega
        refine⟨_,rfl,_,_,_,_,rfl,rfl,SqT.of hp,rfl,_,rfl,_,_,_,_,rfl,rfl,SqT.of hp,rfl,.str (tx l),.tup tq,_,_,_,_,rfl,rfl,rfl,rfl,SqT.of htq,?_⟩
        refine comp_go (n:=l.length) (fun a ys H4=>Same H3 H4∧Ents (PrV ts l i j) ys a H4) (by omega) ⟨Same.refl _,Ents.nil⟩ (fun a ys H4 h=>h.2.1) ?_ ?_ ?_
        · rintro a ys H4 ha ⟨s4,e4⟩
          obtain⟨x,ex⟩:∃x,l[a]? = some x:=⟨_,List.getElem?_eq_getElem ha⟩
          obtain⟨u,eu,m,em,hu⟩:=et.2 a (by rw[tl];exact ha)
          have esx:(L2.signs (tx l))[a]? = some (vT [x]):=sign_at ex
          refine⟨⟨L2.signs (tx l),tvs,vT [x],u,rfl,SqT.of (s4 _ _ htq),esx,eu⟩,fun y H5 hy=>?_⟩
          obtain⟨pp,x',y',rfl,np,rfl,ex',ey'⟩:=hy
          have q1:=ex' _ rfl
          rw[esx]at q1;cases q1
          have q2:=ey' _ (SqT.of (s4 _ _ htq))
          rw[eu]at q2;cases q2
          have s5:=same_upd (o:=.tup [vT [x],u]) np
          have hm:=O.tb m (List.mem_of_getElem? em)
          have hu5:CT m u (upd H4 pp (.tup [vT [x],u])):=CT.same (s4.t.trans s5.t) hu
          obtain⟨p2,vs2,q2,r2,rfl,h2,a2,er2,hq2⟩:=hu5.row (i:=i) (by rw[hm.1];omega)
          have rl:=hm.2 r2 (List.mem_of_getElem? er2)
          have a3:=at_oV (r:=r2) (j:=j) (by omega)
          refine⟨pp,_,rfl,SqT.of upd_same,rfl,_,_,rfl,_,_,rfl,rfl,⟨[some _,some _],rfl,rfl⟩,?_⟩
          refine⟨_,rfl,_,rfl,_,_,_,_,rfl,rfl,SqT.of h2,(by rw[h0];exact a2),_,rfl,_,_,_,_,rfl,rfl,SqT.of hq2,(by rw[h1];exact a3),_,rfl,(by show 2≤sizeLine;omega),fun b nb=>?_⟩
          have s6:=s5.trans (same_upd (o:=.tup [oV (org r2 j),vT [x]]) nb)
          refine⟨s4.trans s6,(e4.mono fun _ _ _ ⟨p',m',x',z1,z2,z3,z4⟩=>⟨p',m',x',z1,z2,z3,s6 _ _ z4⟩).snoc ⟨b,m,x,rfl,em,ex,?_⟩⟩
          rw[at2_row er2]
          exact upd_same
        · rintro ys H4 ⟨s4,e4⟩
          exact⟨_,_,rfl,SqT.of (s4 _ _ htq),.inl (by show l.length=(L2.signs (tx l)).length;simp[L2.signs,tx])⟩
        · rintro ys H4 fp ⟨s4,e4⟩ nfp
          have s5:=same_upd (o:=.lst ys) nfp
          have k5:upd H4 fp (.lst ys) fp=some (.lst ys):=upd_same
          have e5:Ents (PrV ts l i j) ys l.length (upd H4 fp (.lst ys)):=e4.mono fun _ _ _ ⟨p',m',x',z1,z2,z3,z4⟩=>⟨p',m',x',z1,z2,z3,s5 _ _ z4⟩
          have s35:=s4.trans s5
          clear s4 s5 nfp e4
          revert k5 e5 s35
          generalize upd H4 fp (.lst ys)=H5
          intro k5 e5 s35
          show gName 4 (.ref fp) [some (.ref mp),some (.ref tp),some (.int (0+(i:Int))),some (.int (0+(j:Int))),v4,v5] H5 _
          refine⟨_,rfl,fp,rfl,⟨_,SqL.of k5⟩,comp_goI (n:=l.length) (fun a zs H6=>∃qs:List (Addr × Int × Nat),zs=qs.map (fun q=>V.ref q.1)∧H6=H5∧Th ts l i j a qs H5) (by omega) ⟨[],rfl,rfl,⟨(fun _ h=>by cases h),(fun _ h=>by cases h),Nat.le_refl _,(fun b m c h=>by omega)⟩⟩ (fun a zs H6 ⟨qs,e,_,h⟩=>by rw[e,List.length_map];exact h.len) ?_ ?_ ?_⟩
          · rintro a zs H6 ha ⟨qs,rfl,rfl,g⟩
            obtain⟨u,eu,pp,m,x,rfl,em,ex,hpp⟩:=e5.2 a ha
            refine⟨⟨_,_,SqL.of k5,eu⟩,fun y H7 hy=>?_⟩
            obtain⟨rfl,hy⟩:=hy
            have:=hy _ (SqL.of k5)
            rw[eu]at this;cases this
            refine⟨⟨[some _],rfl,rfl⟩,_,rfl,_,_,_,_,rfl,rfl,SqT.of hpp,rfl,rfl,_,rfl,?_⟩
            cases eo:at2 m i j with
            | none=>
              refine iteF ?_
              refine⟨qs,rfl,rfl,⟨g.at_,g.is,Nat.le_succ_of_le g.len,fun b m' c hb h1 h2=>?_⟩⟩
              by_cases hba:b=a
              · subst hba
                rw[em]at h1;cases h1
                rw[eo]at h2;cases h2
              · exact g.all b m' c (by omega) h1 h2
            | some c=>
              rw[eo]at hpp
              refine iteT ?_
              refine⟨_,rfl,qs++[(pp,c,x)],by rw[List.map_append];rfl,rfl,⟨fun q hq=>?_,fun q hq=>?_,by rw[List.length_append];exact Nat.succ_le_succ g.len,fun b m' c' hb h1 h2=>?_⟩⟩
              · rcases List.mem_append.mp hq with hq | hq
                · exact g.at_ q hq
                · rw[List.mem_singleton.mp hq];exact hpp
              · rcases List.mem_append.mp hq with hq | hq
                · exact g.is q hq
                · rw[List.mem_singleton.mp hq];exact⟨a,m,ex,em,eo⟩
              · by_cases hba:b=a
                · subst hba
                  rw[em]at h1;cases h1
                  rw[eo]at h2;cases h2
                  exact⟨_,List.mem_append_right _ (List.mem_singleton.mpr rfl),rfl⟩
                · obtain⟨q,hq,e⟩:=g.all b m' c' (by omega) h1 h2
                  exact⟨q,List.mem_append_left _ hq,e⟩
          · rintro zs H6 ⟨qs,rfl,rfl,g⟩
            exact⟨_,SqL.of k5,Nat.le_of_eq e5.1⟩
          · rintro zs H6 hp ⟨qs,rfl,rfl,g⟩ nhp
            have t6:=same_upd (o:=.lst (qs.map fun q=>V.ref q.1)) nhp
            have k6:upd H6 hp (.lst (qs.map fun q=>V.ref q.1)) hp=some (.lst (qs.map fun q=>V.ref q.1)):=upd_same
            have g6:=g.same t6.t
            have s6:=(s3.trans s35).trans t6
            have k3':=(k3.same s35).same t6
            have k5':=t6 _ _ k5
            clear t6 g nhp e5 k5
            revert k6 g6 s6 k3' k5'
            generalize upd H6 hp (.lst (qs.map fun q=>V.ref q.1))=H7
            intro k6 g6 s6 k3' k5'
            show gName 5 (.ref hp) [some (.ref mp),some (.ref tp),some (.int (0+(i:Int))),some (.int (0+(j:Int))),some (.ref fp),v5] H7 _
            have ll:LenV K (.ref hp) H7 qs.length:=.inl ⟨_,SqL.of k6,(List.length_map ..).symm⟩
            refine⟨_,rfl,_,_,rfl,ll,_,_,rfl,rfl,_,rfl,?_⟩
            refine iteP (fun hq0=>?_) (fun hq0=>?_)
            · obtain⟨vs,hv,ev⟩:=k3'
              refine⟨_,rfl,.inl ⟨rfl,_,SqL.of hv⟩,?_⟩
              refine⟨_,rfl,_,rfl,_,rfl,hp,qs.map (·.1),qs.map (·.2.1),qs.map (fun q=>vT [q.2.2]),rfl,(by rw[List.map_map];exact SqL.of k6),⟨by simp,by simp,.inr fun x hx=>?_,fun i' a' c' x' h1 h2 h3=>?_⟩,?_,fun m' a' c' h1 h2 h3=>?_⟩
              · obtain⟨q,_,rfl⟩:=List.mem_map.mp hx
                exact⟨_,rfl⟩
              · rw[List.getElem?_map]at h1 h2 h3
                cases eq:qs[i']? with
                | none=>rw[eq]at h1;cases h1
                | some q=>
                  rw[eq]at h1 h2 h3
                  cases h1;cases h2;cases h3
                  exact g6.at_ q (List.mem_of_getElem? eq)
              · intro e
                rw[List.map_eq_nil_iff]at e
                subst e
                exact absurd hq0 (by decide)
              · rw[List.getElem?_map]at h1 h2
                cases eq:qs[m']? with
                | none=>rw[eq]at h1;cases h1
                | some q=>
                  rw[eq]at h1 h2
                  cases h1;cases h2
                  have hqm:=List.mem_of_getElem? eq
                  refine⟨(by show 3≤sizeLine;omega),fun sp nsp=>?_⟩
                  have t8:=same_upd (o:=.tup [.int (0+(i:Int)),.int (0+(j:Int)),.ref q.1]) nsp
                  have st8:StV ⟨i,j,q.2.1,q.2.2⟩ (.ref sp) (upd H7 sp (.tup [.int (0+(i:Int)),.int (0+(j:Int)),.ref q.1])):=⟨sp,q.1,rfl,by rw[h0,h1];exact upd_same,t8 _ _ (g6.at_ q hqm)⟩
                  have s8:=s6.trans t8
                  have hv8:=t8 _ _ hv
                  have ev8:Ents (fun i u H=>∃s,S[i]? = some s∧StV s u H) vs S.length (upd H7 sp (.tup [.int (0+(i:Int)),.int (0+(j:Int)),.ref q.1])):=ev.mono fun _ _ _ ⟨r,a1,a2⟩=>⟨r,a1,StV.same t8.t a2⟩
                  clear t8 nsp
                  revert st8 s8 hv8 ev8
                  generalize upd H7 sp (.tup [.int (0+(i:Int)),.int (0+(j:Int)),.ref q.1])=H8
                  intro st8 s8 hv8 ev8
                  have hl:=g3.len
                  have hin:i < n:=by omega
                  have hjn:j < n:=by omega
                  refine⟨tp,vs,_,rfl,rfl,hv8,(by rw[ev8.1];omega),?_⟩
                  refine⟨_,_,_,S++[⟨i,j,q.2.1,q.2.2⟩],rfl,s8.put ntp,StL.snoc hv8 ev8 st8,g3.add ?_ (g6.is q hqm) hjn⟩
                  obtain⟨a,m,_,em,eo⟩:=g6.is q hqm
                  refine sc_is (List.mem_of_getElem? em) eo fun m' hm' d hd=>?_
                  obtain⟨b,hb⟩:=List.getElem?_of_mem hm'
                  have hbl:=(List.getElem?_eq_some_iff.mp hb).1
                  obtain⟨q',hq',rfl⟩:=g6.all b m' d (by omega) hb hd
                  exact h3 _ (List.mem_map.mpr ⟨q',hq',rfl⟩)
            · have e0:qs=[]:=List.eq_nil_of_length_eq_zero (by omega)
              subst e0
              refine⟨_,_,_,S,rfl,s6,k3',g3.skip (sc_none.mpr fun m hm=>?_)⟩
              cases eo:at2 m i j with
              | none=>rfl
              | some c=>
                obtain⟨b,hb⟩:=List.getElem?_of_mem hm
                have hbl:=(List.getElem?_eq_some_iff.mp hb).1
                obtain⟨q',hq',_⟩:=g6.all b m c (by omega) hb eo
                cases hq'
      · rintro σ H3 ⟨v3,v4,v5,S,rfl,s3,k3,g3⟩
        exact⟨_,_,_,_,S,rfl,s3,k3,g3.row n20 (by omega) fun a b c h=>(sc_lt O h).2⟩
    · rintro σ H2 ⟨v2,v3,v4,v5,S,rfl,s2,k2,g2⟩
      have hl:=g2.len
      exact⟨_,rfl,k S tp H2 s2 k2 ⟨fun s hs=>(g2.is s hs).1,fun a b c _ _ h=>g2.all a b c (.inl (by have:=(sc_lt O h).1;omega)) h⟩ (fun s hs=>(g2.is s hs).2) (by omega)⟩
def sp_turned:Sp:=fun vs H Q _=>∃a S,vs=[.ref a]∧(StL S a H∧S.length≤400)∧∀b H',Same H H'→StL (S.map Stp.turn) b H'→Q (.ref b) H'
theorem ok_steps_turned(T:Txt K mg t):FnOk Pr w K mg base CX0 3 t.steps_turned t.d_steps_turned ["steps"] sp_turned:=by
  refine T.F_steps_turned.ok sc_steps_turned (fun vs H Q E h=>?_) (fun cdv A outer s H vs Q E hr h=>?_)
  · obtain⟨a,S,rfl,_⟩:=h
    rfl
  · obtain⟨a,S,rfl,⟨⟨vs,hv,ev⟩,sl⟩,k⟩:=h
    have zl:10000 < sizeLine:=by decide
    refine⟨_,(pss_one (ps_ret (pe_comp (xs:=["first","second","pair"]) rfl (show CompOk ["steps"] (defScope s_steps_turned) _ from⟨rfl,by decide +kernel,by decide +kernel,by decide +kernel,by decide +kernel,by decide +kernel⟩) (pi_list (pv 0)) (fun _ _ _ _ _=>(show PG _ _ (gTup K 3 _)from(pg_tup rfl (pgs_cons (pg_name (i:=1) (by show List.Nodup (["steps","first","second","pair"]:List Str);decide +kernel) rfl (Or.inl rfl)) (pgs_cons (pg_name (i:=2) (by show List.Nodup (["steps","first","second","pair"]:List Str);decide +kernel) rfl (Or.inl rfl)) (pgs_cons (pg_name (i:=3) (by show List.Nodup (["steps","first","second","pair"]:List Str);decide +kernel) rfl (Or.inl rfl)) pgs_nil)))))) (fun _ _ _ _ _=>(pe_tup (pa_cons (pv 2) (pa_cons (pv 1) (pa_cons (pv 3) pa_nil)))))))),?_⟩
    refine⟨_,rfl,a,rfl,⟨_,SqL.of hv⟩,comp_go (n:=S.length) (fun i ys H2=>Same H H2∧Ents (fun i u H=>∃s,S[i]? = some s∧StV s.turn u H) ys i H2) (by omega) ⟨Same.refl _,Ents.nil⟩ (fun i ys H2 h=>h.2.1) ?_ ?_ ?_⟩
    · rintro i ys H2 hi ⟨s2,e2⟩
      obtain⟨u,eu,sp,es,q,p,rfl,hq,hp⟩:=ev.2 i hi
      refine⟨⟨_,_,SqL.of (s2 _ _ hv),eu⟩,fun y H3 hy=>?_⟩
      obtain⟨rfl,hy⟩:=hy
      have:=hy _ (SqL.of (s2 _ _ hv))
      rw[eu]at this;cases this
      refine⟨q,_,rfl,SqT.of (s2 _ _ hq),rfl,_,_,rfl,_,_,rfl,_,_,rfl,rfl,⟨[some _,some _,some _],rfl,rfl⟩,?_⟩
      refine⟨_,rfl,_,rfl,_,rfl,(by show 3≤sizeLine;omega),fun b nb=>?_⟩
      have t3:=same_upd (o:=.tup [.int sp.j,.int sp.i,.ref p]) nb
      exact⟨s2.trans t3,(e2.mono fun _ _ _ ⟨r,a1,a2⟩=>⟨r,a1,a2.same t3.t⟩).snoc ⟨sp,es,b,p,rfl,upd_same,t3 _ _ (s2 _ _ hp)⟩⟩
    · rintro ys H2 ⟨s2,e2⟩
      exact⟨_,SqL.of (s2 _ _ hv),Nat.le_of_eq ev.1⟩
    · rintro ys H2 b ⟨s2,e2⟩ nb
      have t3:=same_upd (o:=.lst ys) nb
      exact k b _ (s2.trans t3) ⟨ys,upd_same,by
        rw[List.length_map]
        exact e2.mono fun i u _ ⟨r,a1,a2⟩=>⟨r.turn,by rw[List.getElem?_map,a1];rfl,a2.same t3.t⟩⟩
def wV(p:List Nat):List V:=p.map fun j:Nat=>V.int j
def WalkV(v:V)(H:Hp)(c:Int)(w p:List Nat):Prop:=∃q r,v=.ref q∧H q=some (.tup [.int c,vT w,.ref r])∧H r=some (.tup (wV p))
theorem WalkV.same{v:V}{H H':Hp}{c:Int}{w p:List Nat}(s:SameT H H')(h:WalkV v H c w p):WalkV v H' c w p:=by
  obtain⟨q,r,rfl,h1,h2⟩:=h
  exact⟨q,r,rfl,s _ _ h1,s _ _ h2⟩
abbrev PvT:=Nat→Int→V→Hp→Prop
structure DI(n:Nat)(Pv:PvT)(cm:Nat→Option Int)(kvs:List (Key × V))(H:Hp):Prop where
  nd:(kvs.map (·.1)).Nodup
  ks:∀p∈kvs,∃j:Nat,j < n∧p.1=.inl (j:Int)
  no:∀j:Nat,cm j=none→valV kvs (.inl (j:Int))=none
  yes:∀(j:Nat) c,cm j=some c→∃v,valV kvs (.inl (j:Int))=some v∧Pv j c v H
section
variable{n:Nat}{Pv Pv':PvT}{cm cm':Nat→Option Int}{kvs:List (Key × V)}{H H':Hp}
theorem DI.mono(h:DI n Pv cm kvs H)(q:∀j c v,Pv j c v H→Pv' j c v H'):DI n Pv' cm kvs H':=⟨h.nd,h.ks,h.no,fun j c e=>by
  obtain⟨v,h1,h2⟩:=h.yes j c e
  exact⟨v,h1,q _ _ _ h2⟩⟩
theorem DI.congr(h:DI n Pv cm kvs H)(q:∀j,cm' j=cm j):DI n Pv cm' kvs H:=⟨h.nd,h.ks,fun j e=>h.no j (by rw[← q];exact e),fun j c e=>h.yes j c (by rw[← q];exact e)⟩
theorem DI.nil:DI n Pv (fun _=>none) [] H:=⟨List.nodup_nil,(fun _ h=>by cases h),fun _ _=>rfl,(fun _ _ e=>by cases e)⟩
theorem DI.len(h:DI n Pv cm kvs H):kvs.length≤n:=by
  have:=nodup_sub _ ((List.range n).map fun j:Nat=>(Sum.inl (j:Int):Key)) h.nd fun x hx=>by
    obtain⟨p,hp,rfl⟩:=List.mem_map.mp hx
    obtain⟨j,hj,e⟩:=h.ks p hp
    exact List.mem_map.mpr ⟨j,List.mem_range.mpr hj,e.symm⟩
  simpa using this
theorem inl_inj{i j:Nat}(h:(Sum.inl (i:Int):Key)=.inl (j:Int)):i=j:=by
  injection h with h;omega
theorem DI.put(h:DI n Pv cm kvs H){j:Nat}(hj:j < n){c:Int}{v:V}(q:Pv j c v H):DI n Pv (fun i=>if i=j then some c else cm i) (putK kvs (.inl (j:Int)) v) H:=by
  refine⟨?_,?_,fun i e=>?_,fun i d e=>?_⟩
  · unfold putK
    split
    · rw[List.map_map,show((fun x:Key × V=>x.1) ∘ fun kv:Key × V=>if kv.1=.inl (j:Int)then(kv.1,v)else kv)=fun x=>x.1 from by funext x;simp only[Function.comp];split <;>rfl]
      exact h.nd
    · rename_i hn
      rw[List.map_append,List.nodup_append]
      refine⟨h.nd,by simp,fun a ha b hb=>?_⟩
      have e:b=.inl (j:Int):=by simpa using hb
      subst e
      rintro rfl
      obtain⟨p,hp,e⟩:=List.mem_map.mp ha
      exact hn (List.any_eq_true.mpr ⟨p,hp,by simpa using e⟩)
  · intro p hp
    unfold putK at hp
    split at hp
    · obtain⟨q',hq',rfl⟩:=List.mem_map.mp hp
      obtain⟨i,hi,e⟩:=h.ks q' hq'
      refine⟨i,hi,?_⟩
      split <;>exact e
    · rcases List.mem_append.mp hp with hp | hp
      · exact h.ks p hp
      · rw[List.mem_singleton.mp hp];exact⟨j,hj,rfl⟩
  · rw[valV_put]
    have e:(if i=j then some c else cm i)=none:=e
    split at e
    · cases e
    · rename_i hn
      rw[if_neg fun z=>hn (inl_inj z)];exact h.no i e
  · rw[valV_put]
    have e:(if i=j then some c else cm i)=some d:=e
    split at e
    · rename_i hn
      cases e
      subst hn
      exact⟨v,if_pos rfl,q⟩
    · rename_i hn
      rw[if_neg fun z=>hn (inl_inj z)];exact h.yes i d e
theorem DI.key(h:DI n Pv cm kvs H){p:Key × V}(hp:p∈kvs):∃j c,j < n∧p.1=.inl ((j:Nat):Int)∧cm j=some c:=by
  obtain⟨j,hj,e⟩:=h.ks p hp
  cases ec:cm j with
  | some c=>exact⟨j,c,hj,e,ec⟩
  | none=>
    have:=h.no j ec
    unfold valV at this
    rw[Option.map_eq_none_iff,List.find?_eq_none]at this
    exact absurd e (by simpa using this p hp)
theorem DI.has(h:DI n Pv cm kvs H){j:Nat}{c:Int}(e:cm j=some c):∃p∈kvs,p.1=.inl (j:Int):=by
  obtain⟨v,hv,_⟩:=h.yes j c e
  unfold valV at hv
  cases ef:kvs.find? (fun kv=>decide (kv.1=.inl (j:Int)))with
  | none=>rw[ef]at hv;cases hv
  | some p=>exact⟨p,List.mem_of_find?_eq_some ef,by simpa using List.find?_some ef⟩
end
def Pw(og:Nat→Option Int)(W:Nat→Nat→Nat→Int→Prop)(k:Nat):PvT:=fun j c v H=>∃w p,WalkV v H c w p∧OkW og W k j c w p
theorem Pw.same{og:Nat→Option Int}{W:Nat→Nat→Nat→Int→Prop}{k j:Nat}{c:Int}{v:V}{H H':Hp}(s:SameT H H')(h:Pw og W k j c v H):Pw og W k j c v H':=by
  obtain⟨w,p,h1,h2⟩:=h
  exact⟨w,p,h1.same s,h2⟩
theorem SameT_dK{H:Hp}{a:Addr}{xs ys:List (Key × V)}(h:H a=some (.dK xs)):SameT H (L2.upd H a (.dK ys)):=fun p vs hp=>by
  rw[upd_ne (fun e=>by rw[e,h]at hp;cases hp)];exact hp
def sp_standing:Sp:=fun vs H Q _=>∃rv r,vs=[rv]∧(CR r rv H∧r.length≤20)∧∀a kvs H',H a=none→Same H H'→H' a=some (.dK kvs)→(∀W,DI r.length (Pw (org r) W 0) (org r) kvs H')→Q (.ref a) H'
theorem ok_standing(T:Txt K mg t):FnOk Pr w K mg base CX0 3 t.standing t.d_standing ["row"] sp_standing:=by
  refine T.F_standing.ok sc_standing (fun vs H Q E h=>?_) (fun cdv A outer s H vs Q E hr h=>?_)
  · obtain⟨rv,r,rfl,_⟩:=h
    rfl
  · obtain⟨rv,r,rfl,⟨hR,hl⟩,k⟩:=h
    have zl:10000 < sizeLine:=by decide
    obtain⟨rp,rfl,hrp⟩:=hR
    refine⟨_,(pss_cons (ps_set (i:=1) sc_standing.nd rfl (Or.inl rfl) pe_dnewK) (pss_cons (ps_for PassesOwn.never rfl (pi_enum rfl T.z_enumerate (pa_cons (pv 0) pa_nil)) (pg_tup rfl (pgs_cons (pg_name (i:=2) sc_standing.nd rfl (Or.inl rfl)) (pgs_cons (pg_name (i:=3) sc_standing.nd rfl (Or.inl rfl)) pgs_nil))) (pss_one (ps_if (pt_cmpR op_notN (pv 3) pe_non (nomark _)) (pss_one (ps_dput (hu_of hr) (pv 1) (pv 2) (pe_tup (pa_cons (pv 3) (pa_cons pe_str (pa_cons (pe_tup (pa_cons (pv 2) pa_nil)) pa_nil)))) rfl)) pss_nil))) (pss_one (ps_ret (pv 1))))),?_⟩
    intro tp ntp
    have s1:=same_upd (o:=.dK []) ntp
    have k1:upd H tp (.dK []) tp=some (.dK []):=upd_same
    revert s1 k1
    generalize upd H tp (.dK [])=H1
    intro s1 k1
    refine⟨_,rfl,.tup rp,_,_,rfl,rfl,SqT.of (s1 _ _ hrp),for_it (n:=r.length) (fun i σ H2=>∃v2 v3 kvs,σ=[some (.ref rp),some (.ref tp),v2,v3]∧Same H H2∧H2 tp=some (.dK kvs)∧∀W,DI r.length (Pw (org r) W 0) (fun j=>if j < i then org r j else none) kvs H2) ⟨_,_,_,rfl,s1,k1,fun W=>DI.nil.congr fun j=>if_neg (Nat.not_lt_zero j)⟩ ?_ ?_⟩
    · rintro i σ H2 hi ⟨v2,v3,kvs,rfl,s2,k2,d2⟩
      have ea:(r.map oV)[i]? = some (oV (org r i)):=by
        unfold org
        rw[List.getElem?_map,List.getElem?_eq_getElem hi];rfl
      refine⟨⟨_,_,SqT.of (s2 _ _ hrp),ea⟩,fun y H3 hy=>?_⟩
      obtain⟨pp,x,rfl,np,rfl,hx⟩:=hy
      have q:=hx _ (SqT.of (s2 _ _ hrp))
      rw[ea]at q;cases q
      have t3:=same_upd (o:=.tup [.int (i:Int),oV (org r i)]) np
      refine⟨pp,_,rfl,SqT.of upd_same,rfl,_,_,rfl,_,_,rfl,rfl,?_⟩
      have s3:=s2.trans t3
      have k3:=t3 _ _ k2
      have d3:∀W,DI r.length (Pw (org r) W 0) (fun j=>if j < i then org r j else none) kvs (upd H2 pp (.tup [.int (i:Int),oV (org r i)])):=fun W=>(d2 W).mono fun _ _ _ z=>z.same t3.t
      clear t3
      revert s3 k3 d3
      generalize upd H2 pp (.tup [.int (i:Int),oV (org r i)])=H3
      intro s3 k3 d3
      cases eo:org r i with
      | none=>
        refine⟨_,rfl,rfl,_,rfl,iteF ?_⟩
        refine⟨_,_,kvs,rfl,s3,k3,fun W=>(d3 W).congr fun j=>?_⟩
        by_cases hj:j=i
        · subst hj;rw[if_pos (Nat.lt_succ_self _),if_neg (Nat.lt_irrefl _),eo]
        · by_cases h2:j < i
          · rw[if_pos h2,if_pos (by omega)]
          · rw[if_neg h2,if_neg (by omega)]
      | some c=>
        refine⟨_,rfl,rfl,_,rfl,iteT ?_⟩
        refine⟨_,rfl,_,rfl,(by show 1≤sizeLine;omega),fun b nb=>⟨(by show 3≤sizeLine;omega),fun q nq=>?_⟩⟩
        have t4:=same_upd (o:=.tup [.int (i:Int)]) nb
        have kb:upd H3 b (.tup [.int (i:Int)]) b=some (.tup (wV [i])):=upd_same
        revert nq t4 kb
        generalize upd H3 b (.tup [.int (i:Int)])=H4
        intro nq t4 kb
        have t5:=same_upd (o:=.tup [oV (some c),.str (Str.ofString ""),.ref b]) nq
        have wk:WalkV (.ref q) (upd H4 q (.tup [oV (some c),.str (Str.ofString ""),.ref b])) c [] [i]:=⟨q,b,rfl,by rw[vT,← em_is];exact upd_same,t5 _ _ kb⟩
        have t45:=t4.trans t5
        revert wk t45
        generalize upd H4 q (.tup [oV (some c),.str (Str.ofString ""),.ref b])=H5
        intro wk t45
        have k5:=t45 _ _ k3
        have dl:=(d3 fun _ _ _ _=>True).len
        refine⟨_,rfl,_,rfl,tp,_,rfl,.inl ⟨kvs,.inl (i:Int),k5,rfl,by omega,rfl⟩,?_⟩
        refine⟨_,_,_,rfl,(s3.trans t45).put ntp,upd_same,fun W=>?_⟩
        have d5:DI r.length (Pw (org r) W 0) (fun j=>if j < i then org r j else none) kvs H5:=(d3 W).mono fun _ _ _ z=>z.same t45.t
        refine((d5.put hi (c:=c) (v:=.ref q) ⟨[],[i],wk,i,c,0,eo,.one i,by omega,Nat.le_refl _⟩).mono fun _ _ _ z=>z.same (SameT_dK k5)).congr fun j=>?_
        by_cases hj:j=i
        · subst hj;rw[if_pos (Nat.lt_succ_self _),if_pos rfl,eo]
        · rw[if_neg hj]
          by_cases h2:j < i
          · rw[if_pos h2,if_pos (by omega)]
          · rw[if_neg h2,if_neg (by omega)]
    · rintro σ H2 ⟨v2,v3,kvs,rfl,s2,k2,d2⟩
      refine⟨⟨_,SqT.of (s2 _ _ hrp),(List.length_map ..).symm⟩,_,rfl,k tp kvs H2 ntp s2 k2 fun W=>(d2 W).congr fun j=>?_⟩
      by_cases h2:j < r.length
      · rw[if_pos h2]
      · rw[if_neg h2];unfold org;rw[List.getElem?_eq_none (by omega)];rfl
def sp_onestep:Sp:=fun vs H Q _=>∃a b kvs S n k og W cw,vs=[.ref a,.ref b]∧(H a=some (.dK kvs)∧StL S b H∧DI n (Pw og W k) cw kvs H∧S.length≤400∧n≤20∧k≤40∧∀s∈S,W s.i s.j s.x s.c∧s.j < n)∧
  ∀a' kvs' H',H a'=none→Same H H'→H' a'=some (.dK kvs')→DI n (Pw og W (k+1)) (S.foldl (rlx cw) cw) kvs' H'→Q (.ref a') H'
theorem ok_one_step_on(T:Txt K mg t):FnOk Pr w K mg base CX0 3 t.one_step_on t.d_one_step_on ["walks","steps"] sp_onestep:=by
  refine T.F_one_step_on.ok sc_one_step_on (fun vs H Q E h=>?_) (fun cdv A outer s H vs Q E hr h=>?_)
  · obtain⟨a,b,kvs,S,n,k,og,W,cw,rfl,_⟩:=h
    rfl
  · obtain⟨a,b,kvs,S,n,kk,og,W,cw,rfl,⟨ha,hS,D,sl,n20,k40,sw⟩,k⟩:=h
    have zl:10000 < sizeLine:=by decide
    refine⟨_,(pss_cons (ps_set (i:=2) sc_one_step_on.nd rfl (Or.inl rfl) (pe_callTy call_dcopy (by rfl) T.z_dict L2.boot_dict (pa_cons (pv 0) pa_nil))) (pss_cons (ps_for PassesOwn.never rfl (pi_list (pv 1)) (pg_tup rfl (pgs_cons (pg_name (i:=3) sc_one_step_on.nd rfl (Or.inl rfl)) (pgs_cons (pg_name (i:=4) sc_one_step_on.nd rfl (Or.inl rfl)) (pgs_cons (pg_name (i:=5) sc_one_step_on.nd rfl (Or.inl rfl)) pgs_nil)))) (pss_one (ps_if (pt_cmp (pc_din (hu_of hr) (pv 3) (pv 0)) (by with_unfolding_all rfl)) (pss_cons (ps_set (i:=6) sc_one_step_on.nd rfl (Or.inl rfl) (pe_dget (hu_of hr) (pv 0) (pv 3) (fun _ _=>rfl))) (pss_cons (ps_set (i:=7) sc_one_step_on.nd rfl (Or.inl rfl) (pe_op op_add (pe_ix ix_tup (pv 6) pe_int (fun _ _=>rfl)) (pe_ix ix_tup (pv 5) pe_int (fun _ _=>rfl)))) (pss_one (ps_if (PW.pt (pw_or (pt_cmp (pc_dnotin (hu_of hr) (pv 4) (pv 2)) (by with_unfolding_all rfl)) (pw_or1 (pt_cmpR op_lt (pv 7) (pe_ix ix_tup (pe_dget (hu_of hr) (pv 2) (pv 4) (fun _ _=>rfl)) pe_int (fun _ _=>rfl)) (nomark _))))) (pss_one (ps_dput (hu_of hr) (pv 2) (pv 4) (pe_tup (pa_cons (pv 7) (pa_cons (pe_op op_add_str (pe_ix ix_tup (pv 6) pe_int (fun _ _=>rfl)) (pe_ix ix_tup (pv 5) pe_int (fun _ _=>rfl))) (pa_cons (pe_op op_catA (pe_ix ix_tup (pv 6) pe_int (fun _ _=>rfl)) (pe_tup (pa_cons (pv 4) pa_nil))) pa_nil)))) rfl)) pss_nil)))) pss_nil))) (pss_one (ps_ret (pv 2))))),?_⟩
    refine⟨_,rfl,a,kvs,rfl,.of ha,fun tp ntp=>?_⟩
    have s1:=same_upd (o:=.dK kvs) ntp
    have k1:upd H tp (.dK kvs) tp=some (.dK kvs):=upd_same
    revert s1 k1
    generalize upd H tp (.dK kvs)=H1
    intro s1 k1
    have na:a≠tp:=fun e=>by rw[e,ntp]at ha;cases ha
    obtain⟨vs,hv,ev⟩:=id hS
    have nb:b≠tp:=fun e=>by rw[e,ntp]at hv;cases hv
    have d1:DI n (Pw og W (kk+1)) cw kvs H1:=D.mono fun _ _ _ ⟨w,p,z1,z2⟩=>⟨w,p,z1.same s1.t,z2.up (Nat.le_succ _)⟩
    refine⟨_,rfl,b,rfl,⟨_,SqL.of (s1 _ _ hv)⟩,for_list (K:=K) (a:=b) (xs:=vs) (fun i σ H2=>∃v3 v4 v5 v6 v7 kv2,σ=[some (.ref a),some (.ref b),some (.ref tp),v3,v4,v5,v6,v7]∧Same H H2∧H2 tp=some (.dK kv2)∧DI n (Pw og W (kk+1)) ((S.take i).foldl (rlx cw) cw) kv2 H2) ⟨_,_,_,_,_,kvs,rfl,s1,k1,d1⟩ (fun i σ H2 _ ⟨_,_,_,_,_,_,_,s2,_⟩=>SqL.of (s2 _ _ hv)) ?_ ?_⟩
    · rintro i x σ H2 hx ⟨v3,v4,v5,v6,v7,kv2,rfl,s2,k2,d2⟩
      obtain⟨hi,sp,es,q,p,rfl,hq,hp⟩:=ev.at hx
      have et:(S.take (i+1)).foldl (rlx cw) cw=rlx cw ((S.take i).foldl (rlx cw) cw) sp:=by
        rw[List.take_succ,es,List.foldl_append];rfl
      obtain⟨sw1,sw2⟩:=sw sp (List.mem_of_getElem? es)
      have hq2:=s2 _ _ hq
      have hp2:=s2 _ _ hp
      have ha2:=s2 _ _ ha
      refine⟨q,_,rfl,SqT.of hq2,rfl,_,_,rfl,_,_,rfl,_,_,rfl,rfl,?_⟩
      rw[et]
      generalize (S.take i).foldl (rlx cw) cw=cm at d2
      refine⟨_,rfl,_,rfl,a,_,rfl,DGet.k (k:=.inl (sp.i:Int)) ha2,_,rfl,?_⟩
      cases ec:cw sp.i with
      | none=>
        rw[D.no _ ec]
        refine iteF ?_
        refine⟨_,_,_,_,_,kv2,rfl,s2,k2,d2.congr fun j=>?_⟩
        unfold rlx;rw[ec]
        split <;>rfl
      | some c=>
        obtain⟨wv,hwv,ww,wp,hwk,hok⟩:=D.yes _ c ec
        rw[hwv]
        refine iteT ?_
        obtain⟨wq,wr,rfl,hwq,hwr⟩:=hwk.same s2.t
        refine⟨_,rfl,_,rfl,a,.ref wq,rfl,by rw[← hwv];exact DGet.k (k:=.inl (sp.i:Int)) ha2,?_⟩
        refine⟨_,rfl,_,_,_,_,rfl,rfl,SqT.of hwq,rfl,_,rfl,_,_,_,_,rfl,rfl,SqT.of hp2,rfl,_,_,rfl,rfl,?_⟩
        show gName 7 (.int (c+sp.c)) [some (.ref a),some (.ref b),some (.ref tp),some (.int sp.i),some (.int sp.j),some (.ref p),some (.ref wq),v7] H2 _
        refine(fun(key:rlx1 (some c) sp.c (cm sp.j)=some (c+sp.c)→?F)=>?main) ?rest
        case main=>
          refine⟨_,rfl,_,rfl,tp,_,rfl,DGet.k (k:=.inl (sp.j:Int)) k2,_,rfl,?_⟩
          cases em:cm sp.j with
          | none=>
            rw[d2.no _ em]
            refine iteT ?_
            exact key (by rw[em];rfl)
          | some d=>
            obtain⟨uv,huv,w2,p2,⟨uq,ur,rfl,huq,hur⟩,_⟩:=d2.yes _ d em
            rw[huv]
            refine iteF ?_
            refine⟨_,rfl,_,rfl,_,rfl,tp,.ref uq,rfl,by rw[← huv];exact DGet.k (k:=.inl (sp.j:Int)) k2,_,_,_,_,rfl,rfl,SqT.of huq,rfl,_,_,rfl,rfl,_,rfl,?_⟩
            by_cases hlt:c+sp.c < d
            · rw[decide_eq_true hlt]
              exact key (by rw[em];exact if_pos hlt)
            · rw[decide_eq_false hlt]
              refine iteF ?_
              refine⟨_,_,_,_,_,kv2,rfl,s2,k2,d2.congr fun j=>?_⟩
              unfold rlx
              split
              · rename_i e
                rw[e,ec,em]
                exact if_neg hlt
              · rfl
        case rest=>
          intro hrl
          have pl:=hok
          obtain⟨_,_,_,_,wy,_,wl⟩:=pl
          have hpl:=wy.len
          refine iteT ?_
          refine⟨_,rfl,_,rfl,_,_,_,_,rfl,rfl,SqT.of hwq,rfl,_,rfl,_,_,_,_,rfl,rfl,SqT.of hp2,rfl,tx ww,tx [sp.x],rfl,rfl,(by rw[tx_len,tx_len];show _+1≤_;omega),_,rfl,_,_,_,_,rfl,rfl,SqT.of hwq,rfl,_,rfl,(by show 1≤sizeLine;omega),fun b3 nb3=>?_⟩
          have t3:=same_upd (o:=.tup [.int (sp.j:Int)]) nb3
          have kb:upd H2 b3 (.tup [.int (sp.j:Int)]) b3=some (.tup [.int (sp.j:Int)]):=upd_same
          revert t3 kb
          generalize upd H2 b3 (.tup [.int (sp.j:Int)])=H3
          intro t3 kb
          refine⟨_,_,_,_,rfl,rfl,t3 _ _ hwr,kb,(by unfold wV;rw[List.length_map];show _+1≤_;omega),fun cp H4 t4 hcp=>⟨(by show 3≤sizeLine;omega),fun np nnp=>?_⟩⟩
          have t5:=same_upd (o:=.tup [.int (c+sp.c),.str (tx ww++tx [sp.x]),.ref cp]) nnp
          have wk:WalkV (.ref np) (upd H4 np (.tup [.int (c+sp.c),.str (tx ww++tx [sp.x]),.ref cp])) (c+sp.c) (ww++[sp.x]) (wp++[sp.j]):=⟨np,cp,rfl,by rw[vT,← tx_app];exact upd_same,t5 _ _ (by unfold wV;rw[List.map_append];exact hcp)⟩
          have t25:=(t3.trans t4).trans t5
          revert wk t25
          generalize upd H4 np (.tup [.int (c+sp.c),.str (tx ww++tx [sp.x]),.ref cp])=H5
          intro wk t25
          have k5:=t25 _ _ k2
          have dl:=d2.len
          refine⟨_,rfl,_,rfl,tp,_,rfl,.inl ⟨kv2,.inl (sp.j:Int),k5,rfl,by omega,rfl⟩,?_⟩
          refine⟨_,_,_,_,_,_,rfl,(s2.trans t25).put ntp,upd_same,?_⟩
          have d5:DI n (Pw og W (kk+1)) cm kv2 H5:=d2.mono fun _ _ _ z=>z.same t25.t
          refine((d5.put sw2 (c:=c+sp.c) (v:=.ref np) ⟨_,_,wk,hok.on sw1⟩).mono fun _ _ _ z=>z.same (SameT_dK k5)).congr fun j=>?_
          unfold rlx
          by_cases e:j=sp.j
          · rw[if_pos e,if_pos e,e,ec,hrl]
          · rw[if_neg e,if_neg e]
    · rintro σ H2 ⟨v3,v4,v5,v6,v7,kv2,rfl,s2,k2,d2⟩
      refine⟨_,rfl,k tp kv2 H2 ntp s2 k2 ?_⟩
      rw[ev.1,List.take_length]at d2
      exact d2
theorem isb_zero(og:Nat→Option Int)(f:Nat→Nat→Option Int)(j:Nat):IsB og f 0 j (og j):=by
  cases e:og j with
  | none=>intro c hc;rw[bst_zero.mp hc]at e;cases e
  | some c=>exact⟨bst_zero.mpr e,fun c' hc'=>by rw[bst_zero.mp hc']at e;cases e;exact Int.le_refl _⟩
theorem isb_next{og:Nat→Option Int}{f:Nat→Nat→Option Int}{S:List Stp}{k:Nat}{cw:Nat→Option Int}(so:StepsOk f (fun _=>True) S)(h:∀j,IsB og f k j (cw j))(j:Nat):IsB og f (k+1) j (S.foldl (rlx cw) cw j):=
  rlx_all so (fun _ _ _ _ _ _ _=>trivial) (fun j a e=>by have:=h j;rw[e]at this;exact this.1) (fun j _=>h j) j trivial
def sp_cwalks:Sp:=fun vs H Q _=>∃a b kvs S n og f W m,vs=[.ref a,.ref b,.int m]∧(H a=some (.dK kvs)∧StL S b H∧DI n (Pw og W 0) og kvs H∧S.length≤400∧n≤20∧m≤20∧-100≤m∧StepsOk f (fun _=>True) S∧∀s∈S,W s.i s.j s.x s.c∧s.j < n)∧
  ∀a' kvs' cm H',(a'=a∨H a'=none)→Same H H'→H' a'=some (.dK kvs')→DI n (Pw og W m.toNat) cm kvs' H'→(∀j,IsB og f m.toNat j (cm j))→Q (.ref a') H'
theorem ok_cheapest_walks(T:Txt K mg t):FnOk Pr w K mg base CX0 4 t.cheapest_walks t.d_cheapest_walks ["walks","steps","most"] sp_cwalks:=by
  refine T.F_cheapest_walks.ok sc_cheapest_walks (fun vs H Q E h=>?_) (fun cdv A outer s H vs Q E hr h=>?_)
  · obtain⟨a,b,kvs,S,n,og,f,W,m,rfl,_⟩:=h
    rfl
  · obtain⟨a,b,kvs,S,n,og,f,W,m,rfl,⟨ha,hS,D,sl,n20,m20,m0,so,sw⟩,k⟩:=h
    have zl:10000 < sizeLine:=by decide
    refine⟨_,(pss_cons (ps_set (i:=3) sc_cheapest_walks.nd rfl (Or.inl rfl) (pv 0)) (pss_cons (ps_for PassesOwn.never rfl (pi_range1 rfl T.z_range (pa_cons (pv 2) pa_nil)) (pg_name (i:=4) sc_cheapest_walks.nd rfl (Or.inl rfl)) (pss_one (ps_set (i:=3) sc_cheapest_walks.nd rfl (Or.inl rfl) (pe_call (ok_one_step_on T) hr.m rfl T.m_one_step_on T.F_one_step_on.kp T.b_one_step_on .nil pass0 (pa_cons (pv 3) (pa_cons (pv 1) pa_nil)))))) (pss_one (ps_ret (pv 3))))),?_⟩
    refine⟨_,rfl,_,rfl,_,rfl,(by omega),(by omega),for_range (lo:=0) (n:=m.toNat) (fun i σ H2=>∃a' v4 kvs' cm,σ=[some (.ref a),some (.ref b),some (.int m),some (.ref a'),v4]∧(a'=a∨H a'=none)∧Same H H2∧H2 a'=some (.dK kvs')∧DI n (Pw og W i) cm kvs' H2∧∀j,IsB og f i j (cm j)) ⟨a,_,kvs,og,rfl,.inl rfl,Same.refl _,ha,D,isb_zero og f⟩ ?_ ?_⟩
    · rintro i σ H2 hi ⟨a',v4,kvs',cm,rfl,_,s2,k2,d2,b2⟩
      refine⟨_,rfl,_,rfl,a',b,kvs',S,n,i,og,W,cm,rfl,⟨k2,hS.same s2,d2,sl,n20,by omega,sw⟩,fun a3 kv3 H3 n3 s3 k3 d3=>?_⟩
      exact⟨a3,_,kv3,_,rfl,.inr (s2.free n3),s2.trans s3,k3,d3,isb_next so b2⟩
    · rintro σ H2 ⟨a',v4,kvs',cm,rfl,na,s2,k2,d2,b2⟩
      exact⟨_,rfl,k a' kvs' cm H2 na s2 k2 d2 b2⟩
def sp_wordway:Sp:=fun vs H Q _=>∃v c ww p,vs=[v]∧WalkV v H c ww p∧∀q r H',Same H H'→H' q=some (.tup [vT ww,.ref r])→H' r=some (.tup (wV p))→Q (.ref q) H'
theorem ok_word_and_way(T:Txt K mg t):FnOk Pr w K mg base CX0 1 t.word_and_way t.d_word_and_way ["walk"] sp_wordway:=by
  refine T.F_word_and_way.ok sc_word_and_way (fun vs H Q E h=>?_) (fun cdv A outer s H vs Q E hr h=>?_)
  · obtain⟨v,c,ww,p,rfl,_⟩:=h
    rfl
  · obtain⟨v,c,ww,p,rfl,⟨q,r,rfl,hq,hr'⟩,k⟩:=h
    refine⟨_,(pss_one (ps_ret (pe_tup (pa_cons (pe_ix ix_tup (pv 0) pe_int (fun _ _=>rfl)) (pa_cons (pe_ix ix_tup (pv 0) pe_int (fun _ _=>rfl)) pa_nil))))),?_⟩
    refine⟨_,rfl,_,_,_,_,rfl,rfl,SqT.of hq,rfl,_,rfl,_,_,_,_,rfl,rfl,SqT.of hq,rfl,(by show 2≤sizeLine;decide),fun b nb=>?_⟩
    have s1:=same_upd (o:=.tup [vT ww,.ref r]) nb
    exact k b r _ s1 upd_same (s1 _ _ hr')
theorem rev_is(l:List Nat):revS (tx l)=tx l.reverse:=by
  show(⟨_⟩:Str)=⟨_⟩
  simp[tx]
def sp_back:Sp:=fun vs H Q _=>∃v c ww p,vs=[v]∧(WalkV v H c ww p∧ww.length≤100∧p.length≤100)∧∀q r H',Same H H'→H' q=some (.tup [vT ww.reverse,.ref r])→H' r=some (.tup (wV p.reverse))→Q (.ref q) H'
theorem ok_turned_back(T:Txt K mg t):FnOk Pr w K mg base CX0 1 t.turned_back t.d_turned_back ["walk"] sp_back:=by
  refine T.F_turned_back.ok sc_turned_back (fun vs H Q E h=>?_) (fun cdv A outer s H vs Q E hr h=>?_)
  · obtain⟨v,c,ww,p,rfl,_⟩:=h
    rfl
  · obtain⟨v,c,ww,p,rfl,⟨⟨q,r,rfl,hq,hr'⟩,wl,pl⟩,k⟩:=h
    have zl:10000 < sizeLine:=by decide
    refine⟨_,(pss_one (ps_ret (pe_tup (pa_cons (pe_rvs (pe_ix ix_tup (pv 0) pe_int (fun _ _=>rfl)) (pe_un un_neg pe_int)) (pa_cons (pe_rvT (pe_ix ix_tup (pv 0) pe_int (fun _ _=>rfl)) (pe_un un_neg pe_int)) pa_nil))))),?_⟩
    refine⟨_,rfl,_,_,_,_,rfl,rfl,SqT.of hq,rfl,_,rfl,tx ww,rfl,rfl,(by rw[tx_len];omega),_,rfl,_,_,_,_,rfl,rfl,SqT.of hq,rfl,_,rfl,r,_,rfl,rfl,SqT.of hr',fun b nb=>?_⟩
    have s1:=same_upd (o:=.tup (wV p).reverse) nb
    have kb:upd H b (.tup (wV p).reverse) b=some (.tup (wV p.reverse)):=by
      have e:wV p.reverse=(wV p).reverse:=by unfold wV;rw[List.map_reverse]
      rw[e];exact upd_same
    revert s1 kb
    generalize upd H b (.tup (wV p).reverse)=H1
    intro s1 kb
    refine⟨(by show 2≤sizeLine;omega),fun q2 nq2=>?_⟩
    rw[rev_is]
    have s2:=same_upd (o:=.tup [.str (tx ww.reverse),.ref b]) nq2
    exact k q2 b _ (s1.trans s2) upd_same (s2 _ _ kb)
def uo(x:Nat):Nat→Option Int:=fun i=>if i=x then some 0 else none
def sp_ring:Sp:=fun vs H Q _=>∃b S n f W x m,vs=[.ref b,.int ((x:Nat):Int),.int ((m:Nat):Int)]∧(StL S b H∧S.length≤400∧n≤20∧m≤20∧x < n∧StepsOk f (fun _=>True) S∧∀s∈S,W s.i s.j s.x s.c∧s.j < n)∧
  (∀H',Same H H'→(∀c,Bst (uo x) f m x c→0≤c)→Q .non H')∧∀v c ww p H',Same H H'→WalkV v H' c ww p→OkW (uo x) W m x c ww p→c < 0→Q v H'
theorem ok_ring_below(T:Txt K mg t):FnOk Pr w K mg base CX0 4 t.ring_below t.d_ring_below ["steps","room","size"] sp_ring:=by
  refine T.F_ring_below.ok sc_ring_below (fun vs H Q E h=>?_) (fun cdv A outer s H vs Q E hr h=>?_)
  · obtain⟨b,S,n,f,W,x,m,rfl,_⟩:=h
    rfl
  · obtain⟨b,S,n,f,W,x,m,rfl,⟨hS,sl,n20,m20,xn,so,sw⟩,k0,k1⟩:=h
    have zl:10000 < sizeLine:=by decide
    refine⟨_,(pss_cons (ps_set (i:=3) sc_ring_below.nd rfl (Or.inl rfl) (pe_disp (pps_cons (pv 1) (pe_tup (pa_cons pe_int (pa_cons pe_str (pa_cons (pe_tup (pa_cons (pv 1) pa_nil)) pa_nil)))) pps_nil) rfl rfl (fun h=>by cases h) (by decide))) (pss_cons (ps_for PassesOwn.never rfl (pi_range1 rfl T.z_range (pa_cons (pv 2) pa_nil)) (pg_name (i:=4) sc_ring_below.nd rfl (Or.inl rfl)) (pss_cons (ps_set (i:=3) sc_ring_below.nd rfl (Or.inl rfl) (pe_call (ok_one_step_on T) hr.m rfl T.m_one_step_on T.F_one_step_on.kp T.b_one_step_on .nil pass0 (pa_cons (pv 3) (pa_cons (pv 0) pa_nil)))) (pss_one (ps_if (pt_cmpR op_lt (pe_ix ix_tup (pe_dget (hu_of hr) (pv 3) (pv 1) (fun _ _=>rfl)) pe_int (fun _ _=>rfl)) pe_int (nomark _)) (pss_one (ps_ret (pe_dget (hu_of hr) (pv 3) (pv 1) (fun _ _=>rfl)))) pss_nil)))) (pss_one (ps_ret pe_non)))),?_⟩
    intro tp ntp
    have s1:=same_upd (o:=.dK []) ntp
    have k1':upd H tp (.dK []) tp=some (.dK []):=upd_same
    revert s1 k1'
    generalize upd H tp (.dK [])=H1
    intro s1 k1'
    refine⟨_,rfl,_,rfl,(by show 1≤sizeLine;omega),fun b1 nb1=>⟨(by show 3≤sizeLine;omega),fun q nq=>?_⟩⟩
    have t2:=same_upd (o:=.tup [.int (x:Int)]) nb1
    have kb:upd H1 b1 (.tup [.int (x:Int)]) b1=some (.tup (wV [x])):=upd_same
    revert nq t2 kb
    generalize upd H1 b1 (.tup [.int (x:Int)])=H2
    intro nq t2 kb
    have t3:=same_upd (o:=.tup [.int 0,.str (Str.ofString ""),.ref b1]) nq
    have wk:WalkV (.ref q) (upd H2 q (.tup [.int 0,.str (Str.ofString ""),.ref b1])) 0 [] [x]:=⟨q,b1,rfl,by rw[vT,← em_is];exact upd_same,t3 _ _ kb⟩
    have t13:=t2.trans t3
    revert wk t13
    generalize upd H2 q (.tup [.int 0,.str (Str.ofString ""),.ref b1])=H3
    intro wk t13
    have k3:=t13 _ _ k1'
    refine⟨k3,[(.inl (x:Int),.ref q)],rfl,(by show 1≤15;decide),?_⟩
    have k4:upd H3 tp (.dK (mergeK [] [(.inl (x:Int),.ref q)])) tp=some (.dK (putK [] (.inl (x:Int)) (.ref q))):=upd_same
    have s4:Same H (upd H3 tp (.dK (mergeK [] [(.inl (x:Int),.ref q)]))):=(s1.trans t13).put ntp
    have d3:DI n (Pw (uo x) W 0) (uo x) (putK [] (.inl (x:Int)) (.ref q)) H3:=(DI.put DI.nil xn (c:=0) (v:=.ref q) ⟨[],[x],wk,x,0,0,if_pos rfl,.one x,by omega,Nat.le_refl _⟩).congr fun j=>rfl
    have d4:DI n (Pw (uo x) W 0) (uo x) (putK [] (.inl (x:Int)) (.ref q)) (upd H3 tp (.dK (mergeK [] [(.inl (x:Int),.ref q)]))):=d3.mono fun _ _ _ z=>z.same (SameT_dK k3)
    clear t13 t2 t3 k3 d3 wk kb nq nb1
    revert k4 s4 d4
    generalize upd H3 tp (.dK (mergeK [] [(.inl (x:Int),.ref q)]))=H4
    generalize putK ([]:List (Key × V)) (.inl (x:Int)) (.ref q)=kv4
    intro k4 s4 d4
    show gName 3 (.ref tp) [some (.ref b),some (.int (x:Int)),some (.int (m:Int)),none,none] H4 _
    refine⟨_,rfl,_,rfl,(by omega),(by omega),for_range (lo:=0) (n:=(m:Int).toNat) (fun i σ H5=>∃a' v4 kvs' cm c,σ=[some (.ref b),some (.int (x:Int)),some (.int (m:Int)),some (.ref a'),v4]∧Same H H5∧H5 a'=some (.dK kvs')∧DI n (Pw (uo x) W i) cm kvs' H5∧(∀j,IsB (uo x) f i j (cm j))∧cm x=some c∧0≤c) ⟨tp,_,kv4,uo x,0,rfl,s4,k4,d4,isb_zero (uo x) f,if_pos rfl,Int.le_refl _⟩ ?_ ?_⟩
    · rintro i σ H5 hi ⟨a',v4,kvs',cm,c,rfl,s5,k5,d5,b5,ec,hc⟩
      refine⟨_,rfl,_,rfl,a',b,kvs',S,n,i,uo x,W,cm,rfl,⟨k5,hS.same s5,d5,sl,n20,by omega,sw⟩,fun a6 kv6 H6 _ t6 k6 d6=>?_⟩
      have b6:=isb_next so b5
      have s6:=s5.trans t6
      revert d6 b6
      generalize S.foldl (rlx cm) cm=cm6
      intro d6 b6
      have b6x:=b6 x
      cases e6:cm6 x with
      | none=>
        rw[e6]at b6x
        have:=b5 x
        rw[ec]at this
        exact absurd (this.1.mono (Nat.le_succ _)) (b6x c)
      | some c6=>
        obtain⟨v,hv,ww,p,hwk,hok⟩:=d6.yes x c6 e6
        obtain⟨wq,wr,rfl,hwq,hwr⟩:=id hwk
        have dg:DGet H6 a6 (.int (x:Int)) (some (.ref wq)):=by rw[← hv];exact DGet.k (k:=.inl (x:Int)) k6
        refine⟨_,rfl,_,rfl,a6,_,rfl,dg,_,_,_,_,rfl,rfl,SqT.of hwq,rfl,_,_,rfl,rfl,_,rfl,?_⟩
        refine iteP (fun h0=>?_) (fun h0=>?_)
        · exact⟨_,rfl,_,rfl,a6,_,rfl,dg,k1 _ c6 ww p H6 s6 hwk (hok.up (by omega)) h0⟩
        · exact⟨a6,_,kv6,cm6,c6,rfl,s6,k6,d6,b6,e6,by omega⟩
    · rintro σ H5 ⟨a',v4,kvs',cm,c,rfl,s5,k5,d5,b5,ec,hc⟩
      refine k0 H5 s5 fun c' hc'=>?_
      have:=b5 x
      rw[ec,show(m:Int).toNat=m by omega]at this
      exact Int.le_trans hc (this.2 c' hc')
structure RgOk(f:Nat→Nat→Option Int)(W:Nat→Nat→Nat→Int→Prop)(m:Nat)(us:List Nat)(rs:List Addr)(H:Hp):Prop where
  is:∀q∈rs,∃x c ww p,x∈us∧WalkV (.ref q) H c ww p∧OkW (uo x) W m x c ww p∧c < 0
  none_:rs=[]→∀x∈us,∀c,Bst (uo x) f m x c→0≤c
def sp_rings:Sp:=fun vs H Q _=>∃b ua us S n f W m,vs=[.ref b,.ref ua,.int ((m:Nat):Int)]∧(StL S b H∧H ua=some (.lst (wV us))∧S.length≤400∧n≤20∧m≤20∧us.length≤20∧(∀x∈us,x < n)∧StepsOk f (fun _=>True) S∧∀s∈S,W s.i s.j s.x s.c∧s.j < n)∧
  ∀a rs H',Same H H'→H' a=some (.lst (rs.map V.ref))→RgOk f W m us rs H'→Q (.ref a) H'
def Rg(f:Nat→Nat→Option Int)(W:Nat→Nat→Nat→Int→Prop)(m x:Nat)(u:V)(H:Hp):Prop:=(u=.non∧∀c,Bst (uo x) f m x c→0≤c)∨∃q c ww p,u=.ref q∧WalkV u H c ww p∧OkW (uo x) W m x c ww p∧c < 0
theorem Rg.same{f:Nat→Nat→Option Int}{W:Nat→Nat→Nat→Int→Prop}{m x:Nat}{u:V}{H H':Hp}(s:SameT H H')(h:Rg f W m x u H):Rg f W m x u H':=by
  rcases h with h | ⟨q,c,ww,p,rfl,h1,h2,h3⟩
  · exact .inl h
  · exact .inr ⟨q,c,ww,p,rfl,h1.same s,h2,h3⟩
theorem ok_rings_below(T:Txt K mg t):FnOk Pr w K mg base CX0 5 t.rings_below t.d_rings_below ["steps","useful","size"] sp_rings:=by
  refine T.F_rings_below.ok sc_rings_below (fun vs H Q E h=>?_) (fun cdv A outer s H vs Q E hr h=>?_)
  · obtain⟨b,ua,us,S,n,f,W,m,rfl,_⟩:=h
    rfl
  · obtain⟨b,ua,us,S,n,f,W,m,rfl,⟨hS,hu,sl,n20,m20,ul,un,so,sw⟩,k⟩:=h
    have zl:10000 < sizeLine:=by decide
    refine⟨_,(pss_cons (ps_setC (i₀:=3) (xs:=["room"]) sc_rings_below.nd rfl (Or.inl rfl) rfl (show CompOk ["steps","useful","size","rings"] (defScope s_rings_below) _ from⟨rfl,by decide +kernel,by decide +kernel,by decide +kernel,by decide +kernel,by decide +kernel⟩) (pi_list (pv 1)) (fun _ _ _ _ _=>(pg_name (i:=4) (by show List.Nodup (["steps","useful","size","rings","room"]:List Str);decide +kernel) rfl (Or.inl rfl))) (fun _ _ _ _ _=>(pe_call (ok_ring_below (w:=w) (base:=base) T) hr.m rfl T.m_ring_below T.F_ring_below.kp T.b_ring_below .nil pass0 (pa_cons (pv 0) (pa_cons (pv 4) (pa_cons (pv 2) pa_nil)))))) (pss_one (ps_ret (pe_compif (xs:=["ring"]) rfl (show CompOk ["steps","useful","size","rings"] (defScope s_rings_below) _ from⟨rfl,by decide +kernel,by decide +kernel,by decide +kernel,by decide +kernel,by decide +kernel⟩) (pi_list (pv 3)) (fun _ _ _ _ _=>(pg_name (i:=4) (by show List.Nodup (["steps","useful","size","rings","ring"]:List Str);decide +kernel) rfl (Or.inl rfl))) (fun _ _ _ _ _=>(pt_cmpR op_notN (pv 4) pe_non (nomark _))) (fun _ _ _ _ _=>(pv 4)))))),?_⟩
    refine⟨_,rfl,ua,rfl,⟨_,SqL.of hu⟩,comp_go (n:=us.length) (fun i ys H2=>Same H H2∧Ents (fun i u H=>∃x,us[i]? = some x∧Rg f W m x u H) ys i H2) (by omega) ⟨Same.refl _,Ents.nil⟩ (fun i ys H2 h=>h.2.1) ?_ ?_ ?_⟩
    · rintro i ys H2 hi ⟨s2,e2⟩
      have hu2:=s2 _ _ hu
      obtain⟨x,ex⟩:∃x,us[i]? = some x:=⟨_,List.getElem?_eq_getElem hi⟩
      have ewx:(wV us)[i]? = some (.int (x:Int)):=by unfold wV;rw[List.getElem?_map,ex];rfl
      refine⟨⟨_,_,SqL.of hu2,ewx⟩,fun y H3 hy=>?_⟩
      obtain⟨rfl,hy⟩:=hy
      have:=hy _ (SqL.of hu2)
      rw[ewx]at this;cases this
      refine⟨⟨[some _],rfl,rfl⟩,_,rfl,_,rfl,_,rfl,b,S,n,f,W,x,m,rfl,⟨hS.same s2,sl,n20,m20,un x (List.mem_of_getElem? ex),so,sw⟩,fun H4 t4 h0=>?_,fun v c ww p H4 t4 hw ho hc=>?_⟩
      · exact⟨s2.trans t4,(e2.mono fun _ _ _ ⟨r,a1,a2⟩=>⟨r,a1,a2.same t4.t⟩).snoc ⟨x,ex,.inl ⟨rfl,h0⟩⟩⟩
      · refine⟨s2.trans t4,(e2.mono fun _ _ _ ⟨r,a1,a2⟩=>⟨r,a1,a2.same t4.t⟩).snoc ⟨x,ex,?_⟩⟩
        obtain⟨q,r,rfl,h1,h2⟩:=id hw
        exact .inr ⟨q,c,ww,p,rfl,hw,ho,hc⟩
    · rintro ys H2 ⟨s2,e2⟩
      exact⟨_,SqL.of (s2 _ _ hu),by unfold wV;rw[List.length_map];exact Nat.le_refl _⟩
    · rintro ys H2 rp ⟨s2,e2⟩ nrp
      have t3:=same_upd (o:=.lst ys) nrp
      have k3:upd H2 rp (.lst ys) rp=some (.lst ys):=upd_same
      have e3:Ents (fun i u H=>∃x,us[i]? = some x∧Rg f W m x u H) ys us.length (upd H2 rp (.lst ys)):=e2.mono fun _ _ _ ⟨r,a1,a2⟩=>⟨r,a1,a2.same t3.t⟩
      have s3:=s2.trans t3
      clear t3 nrp e2
      revert k3 e3 s3
      generalize upd H2 rp (.lst ys)=H3
      intro k3 e3 s3
      show gName 3 (.ref rp) [some (.ref b),some (.ref ua),some (.int (m:Int)),none] H3 _
      refine⟨_,rfl,rp,rfl,⟨_,SqL.of k3⟩,comp_goI (n:=us.length) (fun i zs H4=>∃rs:List Addr,zs=rs.map V.ref∧H4=H3∧rs.length≤i∧RgOk f W m (us.take i) rs H3) (by omega) ⟨[],rfl,rfl,Nat.le_refl _,⟨(fun _ h=>by cases h),fun _ x hx=>by cases hx⟩⟩ (fun i zs H4 ⟨rs,e,_,h,_⟩=>by rw[e,List.length_map];exact h) ?_ ?_ ?_⟩
      · rintro i zs H4 hi ⟨rs,rfl,rfl,rl,g⟩
        obtain⟨u,eu,x,ex,hu'⟩:=e3.2 i hi
        refine⟨⟨_,_,SqL.of k3,eu⟩,fun y H5 hy=>?_⟩
        obtain⟨rfl,hy⟩:=hy
        have:=hy _ (SqL.of k3)
        rw[eu]at this;cases this
        have tk:us.take (i+1)=us.take i++[x]:=by rw[List.take_succ,ex];rfl
        refine⟨⟨[some _],rfl,rfl⟩,_,rfl,rfl,_,rfl,?_⟩
        rcases hu' with ⟨rfl,h0⟩ | ⟨q,c,ww,p,rfl,h1,h2,h3⟩
        · refine iteF ?_
          refine⟨rs,rfl,rfl,by omega,⟨fun q hq=>?_,fun e x' hx'=>?_⟩⟩
          · obtain⟨x',c,ww,p,hx',h⟩:=g.is q hq
            exact⟨x',c,ww,p,by rw[tk];exact List.mem_append_left _ hx',h⟩
          · rw[tk]at hx'
            rcases List.mem_append.mp hx' with hx' | hx'
            · exact g.none_ e x' hx'
            · rw[List.mem_singleton.mp hx'];exact h0
        · refine iteT ?_
          refine⟨_,rfl,rs++[q],by rw[List.map_append];rfl,rfl,by rw[List.length_append];exact Nat.succ_le_succ rl,⟨fun q' hq'=>?_,fun e=>absurd e (by simp)⟩⟩
          rcases List.mem_append.mp hq' with hq' | hq'
          · obtain⟨x',c,ww,p,hx',h⟩:=g.is q' hq'
            exact⟨x',c,ww,p,by rw[tk];exact List.mem_append_left _ hx',h⟩
          · rw[List.mem_singleton.mp hq']
            exact⟨x,c,ww,p,by rw[tk];exact List.mem_append_right _ (List.mem_singleton.mpr rfl),h1,h2,h3⟩
      · rintro zs H4 ⟨rs,rfl,rfl,rl,g⟩
        exact⟨_,SqL.of k3,Nat.le_of_eq e3.1⟩
      · rintro zs H4 ap ⟨rs,rfl,rfl,rl,g⟩ nap
        have t5:=same_upd (o:=.lst (rs.map V.ref)) nap
        rw[List.take_length]at g
        exact k ap rs _ (s3.trans t5) upd_same ⟨fun q hq=>by
          obtain⟨x',c,ww,p,hx',h,h'⟩:=g.is q hq
          exact⟨x',c,ww,p,hx',h.same t5.t,h'⟩,g.none_⟩
theorem wV_ints(us:List Nat):wV us=(us.map fun j:Nat=>(j:Int)).map V.int:=by unfold wV;rw[List.map_map];rfl
theorem any_ints(x:Nat):∀us:List Nat,(((us.map fun j:Nat=>(j:Int)).map PyData.int).any fun y=>PySem.Spec.same y (.int (x:Int)))=decide (x∈us)
  | []=>rfl
  | u::us=>by
    rw[List.map_cons,List.map_cons,List.any_cons,any_ints x us]
    by_cases h:u=x
    · subst h;simp[PySem.Spec.same]
    · have h':¬x=u:=fun e=>h e.symm
      have h2:¬((u:Nat):Int)=(x:Int):=fun e=>h (by omega)
      simp[PySem.Spec.same,h',h2]
theorem in_ints(neg:Bool){us:List Nat}{ua:Addr}{x:Nat}{H:Hp}{Q:VK}(h:H ua=some (.lst (wV us)))(q:Q (.bl (if neg then !decide (x∈us)else decide (x∈us))) H):rInD K neg (.int (x:Int)) (.ref ua) H Q:=by
  refine⟨.int x,(us.map fun j:Nat=>(j:Int)).map PyData.int,.int _,Is.lst (SqL.of (by rw[wV_ints]at h;exact h)) (isAll_ints _),?_,shaped_ints _,fun e he=>?_,?_⟩
  · simp[shaped,PyData.canLay0,PyData.depth]
  · obtain⟨i,_,rfl⟩:=List.mem_map.mp he
    simp[noMix]
  · rw[any_ints];exact q
theorem in_is{us:List Nat}{ua:Addr}{x:Nat}{H:Hp}{Q:VK}(h:H ua=some (.lst (wV us)))(q:Q (.bl (decide (x∈us))) H):rInD K false (.int (x:Int)) (.ref ua) H Q:=in_ints false h q
def Ls(cm:Nat→Option Int)(en:List (Option Int))(us:List Nat)(x:Nat)(c:Int):Prop:=x∈us∧∃d e,cm x=some d∧org en x=some e∧c=d+e∧∀y∈us,∀d' e',cm y=some d'→org en y=some e'→c≤d'+e'
def sp_least:Sp:=fun vs H Q _=>∃mv fa ua l n st ts en us kvs og W k0 cm,vs=[mv,.ref fa,.ref ua]∧(CM l st ts en mv H∧CMok l n st ts en∧Rd H fa (.dK kvs)∧DI n (Pw og W k0) cm kvs H∧H ua=some (.lst (wV us))∧us.length≤20∧(∀x∈us,x < n∧∃c,cm x=some c)∧∃x∈us,∃e,org en x=some e)∧
  ∀q r x c d ww p H',Same H H'→Ls cm en us x c→cm x=some d→OkW og W k0 x d ww p→H' q=some (.tup [.int c,vT ww,.ref r])→H' r=some (.tup (wV p))→Q (.ref q) H'
structure Ed(cm:Nat→Option Int)(en:List (Option Int))(us:List Nat)(qs:List (Addr × Int × Nat))(H:Hp):Prop where
  at_:∀q∈qs,H q.1=some (.tup [.int q.2.1,.int (q.2.2:Int)])
  is:∀q∈qs,q.2.2∈us∧∃d e,cm q.2.2=some d∧org en q.2.2=some e∧q.2.1=d+e
  all:∀y∈us,∀d e,cm y=some d→org en y=some e→∃q∈qs,q.2.1=d+e
theorem Rd.same{H H':Hp}{a:Addr}{u:HO}(s:Same H H')(h:Rd H a u):Rd H' a u:=by
  rcases h with h | ⟨o,h⟩
  · exact .inl (s _ _ h)
  · exact .inr ⟨o,s _ _ h⟩
theorem dget{H:Hp}{a:Addr}{kvs:List (Key × V)}{j:Nat}{v:V}(h:Rd H a (.dK kvs))(e:valV kvs (.inl (j:Int))=some v):DGet H a (.int (j:Int)) (some v):=.inl ⟨kvs,.inl (j:Int),h,rfl,e.symm⟩
theorem ok_least_walk(T:Txt K mg t):FnOk Pr w K mg base CX0 3 t.least_walk t.d_least_walk ["machine","forth","useful"] sp_least:=by
  refine T.F_least_walk.ok sc_least_walk (fun vs H Q E h=>?_) (fun cdv A outer s H vs Q E hr h=>?_)
  · obtain⟨mv,fa,ua,l,n,st,ts,en,us,kvs,og,W,k0,cm,rfl,_⟩:=h
    rfl
  · obtain⟨mv,fa,ua,l,n,st,ts,en,us,kvs,og,W,k0,cm,rfl,⟨⟨mp,sv,tv,ev,rfl,hp,hs,ht,⟨ep,rfl,hep⟩⟩,O,hf,D,hu,ul,un,hex⟩,k⟩:=h
    have zl:10000 < sizeLine:=by decide
    have el:=O.el
    refine⟨_,(pss_cons (ps_setCI (i₀:=3) (xs:=["room"]) sc_least_walk.nd rfl (Or.inl rfl) rfl (show CompOk ["machine","forth","useful","ended","best","walk"] (defScope s_least_walk) _ from⟨rfl,by decide +kernel,by decide +kernel,by decide +kernel,by decide +kernel,by decide +kernel⟩) (pi_list (pv 2)) (fun _ _ _ _ _=>(pg_name (i:=6) (by show List.Nodup (["machine","forth","useful","ended","best","walk","room"]:List Str);decide +kernel) rfl (Or.inl rfl))) (fun _ _ _ _ _=>(pt_cmpR op_notN (pe_ix (show IxR _ (rIxT K)from ix_tup) (pe_ix (show IxR _ (rIxT K)from ix_tup) (pv 0) pe_int (fun _ _=>rfl)) (pv 6) (fun _ _=>rfl)) pe_non (nomark _))) (fun _ _ _ _ _=>(pe_tup (pa_cons (pe_op op_add (pe_ix (show IxR _ (rIxT K)from ix_tup) (pe_dget (hu_of hr) (pv 1) (pv 6) (fun _ _=>rfl)) pe_int (fun _ _=>rfl)) (pe_ix (show IxR _ (rIxT K)from ix_tup) (pe_ix (show IxR _ (rIxT K)from ix_tup) (pv 0) pe_int (fun _ _=>rfl)) (pv 6) (fun _ _=>rfl))) (pa_cons (pv 6) pa_nil))))) (pss_cons (ps_set (i:=4) sc_least_walk.nd rfl (Or.inl rfl) (pe_callB (call_minP rfl hr.in1.units) (by rfl) T.z_min boot_min (pa_cons (pv 3) pa_nil))) (pss_cons (ps_set (i:=5) sc_least_walk.nd rfl (Or.inl rfl) (pe_dget (hu_of hr) (pv 1) (pe_ix ix_tup (pv 4) pe_int (fun _ _=>rfl)) (fun _ _=>rfl))) (pss_one (ps_ret (pe_tup (pa_cons (pe_ix ix_tup (pv 4) pe_int (fun _ _=>rfl)) (pa_cons (pe_ix ix_tup (pv 5) pe_int (fun _ _=>rfl)) (pa_cons (pe_ix ix_tup (pv 5) pe_int (fun _ _=>rfl)) pa_nil))))))))),?_⟩
    refine⟨_,rfl,ua,rfl,⟨_,SqL.of hu⟩,comp_goI (n:=us.length) (fun i ys H2=>∃qs:List (Addr × Int × Nat),ys=qs.map (fun q=>V.ref q.1)∧Same H H2∧qs.length≤i∧Ed cm en (us.take i) qs H2) (by omega) ⟨[],rfl,Same.refl _,Nat.le_refl _,⟨(fun _ h=>by cases h),(fun _ h=>by cases h),(fun _ h=>by cases h)⟩⟩ (fun i ys H2 ⟨qs,e,_,h,_⟩=>by rw[e,List.length_map];exact h) ?_ ?_ ?_⟩
    · rintro i ys H2 hi ⟨qs,rfl,s2,ql,g⟩
      have hu2:=s2 _ _ hu
      obtain⟨x,ex⟩:∃x,us[i]? = some x:=⟨_,List.getElem?_eq_getElem hi⟩
      have ewx:(wV us)[i]? = some (.int (x:Int)):=by unfold wV;rw[List.getElem?_map,ex];rfl
      have tk:us.take (i+1)=us.take i++[x]:=by rw[List.take_succ,ex];rfl
      obtain⟨xn,c,ec⟩:=un x (List.mem_of_getElem? ex)
      have ae:=at_oV (r:=en) (j:=x) (by omega)
      refine⟨⟨_,_,SqL.of hu2,ewx⟩,fun y H3 hy=>?_⟩
      obtain⟨rfl,hy⟩:=hy
      have:=hy _ (SqL.of hu2)
      rw[ewx]at this;cases this
      refine⟨⟨[some _],rfl,rfl⟩,_,rfl,_,_,_,_,rfl,rfl,SqT.of (s2 _ _ hp),rfl,_,rfl,_,_,_,_,rfl,rfl,SqT.of (s2 _ _ hep),ae,rfl,_,rfl,?_⟩
      cases eo:org en x with
      | none=>
        refine iteF ?_
        refine⟨qs,rfl,s2,by omega,⟨g.at_,fun q hq=>?_,fun y hy d e h1 h2=>?_⟩⟩
        · obtain⟨a1,a2⟩:=g.is q hq
          exact⟨by rw[tk];exact List.mem_append_left _ a1,a2⟩
        · rw[tk]at hy
          rcases List.mem_append.mp hy with hy | hy
          · exact g.all y hy d e h1 h2
          · rw[List.mem_singleton.mp hy,eo]at h2;cases h2
      | some e=>
        rw[eo]at ae
        refine iteT ?_
        obtain⟨v,hv,ww,p,⟨wq,wr,rfl,hwq,hwr⟩,_⟩:=D.yes x c ec
        refine⟨_,rfl,_,rfl,fa,_,rfl,dget (Rd.same s2 hf) hv,_,_,_,_,rfl,rfl,SqT.of (s2 _ _ hwq),rfl,_,rfl,_,_,_,_,rfl,rfl,SqT.of (s2 _ _ hp),rfl,_,rfl,_,_,_,_,rfl,rfl,SqT.of (s2 _ _ hep),ae,_,_,rfl,rfl,_,rfl,(by show 2≤sizeLine;omega),fun b nb=>?_⟩
        have t3:=same_upd (o:=.tup [.int (c+e),.int (x:Int)]) nb
        refine⟨qs++[(b,c+e,x)],by rw[List.map_append];rfl,s2.trans t3,by rw[List.length_append];exact Nat.succ_le_succ ql,⟨fun q hq=>?_,fun q hq=>?_,fun y hy d e' h1 h2=>?_⟩⟩
        · rcases List.mem_append.mp hq with hq | hq
          · exact t3 _ _ (g.at_ q hq)
          · rw[List.mem_singleton.mp hq];exact upd_same
        · rcases List.mem_append.mp hq with hq | hq
          · obtain⟨a1,a2⟩:=g.is q hq
            exact⟨by rw[tk];exact List.mem_append_left _ a1,a2⟩
          · rw[List.mem_singleton.mp hq]
            exact⟨by rw[tk];exact List.mem_append_right _ (List.mem_singleton.mpr rfl),c,e,ec,eo,rfl⟩
        · rw[tk]at hy
          rcases List.mem_append.mp hy with hy | hy
          · obtain⟨q,hq,h⟩:=g.all y hy d e' h1 h2
            exact⟨q,List.mem_append_left _ hq,h⟩
          · rw[List.mem_singleton.mp hy]at h1 h2
            rw[ec]at h1;cases h1
            rw[eo]at h2;cases h2
            exact⟨_,List.mem_append_right _ (List.mem_singleton.mpr rfl),rfl⟩
    · rintro ys H2 ⟨qs,rfl,s2,ql,g⟩
      exact⟨_,SqL.of (s2 _ _ hu),by unfold wV;rw[List.length_map];exact Nat.le_refl _⟩
    · rintro ys H2 ap ⟨qs,rfl,s2,ql,g⟩ nap
      rw[List.take_length]at g
      have t3:=same_upd (o:=.lst (qs.map fun q=>V.ref q.1)) nap
      have k3:upd H2 ap (.lst (qs.map fun q=>V.ref q.1)) ap=some (.lst (qs.map fun q=>V.ref q.1)):=upd_same
      have g3:Ed cm en us qs (upd H2 ap (.lst (qs.map fun q=>V.ref q.1))):=⟨fun q hq=>t3 _ _ (g.at_ q hq),g.is,g.all⟩
      have s3:=s2.trans t3
      clear t3 nap g
      revert k3 g3 s3
      generalize upd H2 ap (.lst (qs.map fun q=>V.ref q.1))=H3
      intro k3 g3 s3
      show gName 3 (.ref ap) [some (.ref mp),some (.ref fa),some (.ref ua),none,none,none] H3 _
      refine⟨_,rfl,ap,qs.map (·.1),qs.map (·.2.1),qs.map (fun q=>V.int (q.2.2:Int)),rfl,(by rw[List.map_map];exact SqL.of k3),⟨by simp,by simp,.inl fun x hx=>?_,fun i' a' c' x' h1 h2 h3=>?_⟩,?_,fun m' a' c' h1 h2 h3=>?_⟩
      · obtain⟨q,_,rfl⟩:=List.mem_map.mp hx
        exact⟨_,rfl⟩
      · rw[List.getElem?_map]at h1 h2 h3
        cases eq:qs[i']? with
        | none=>rw[eq]at h1;cases h1
        | some q=>
          rw[eq]at h1 h2 h3
          cases h1;cases h2;cases h3
          exact g3.at_ q (List.mem_of_getElem? eq)
      · intro e
        rw[List.map_eq_nil_iff]at e
        subst e
        obtain⟨x,hx,e,he⟩:=hex
        obtain⟨_,c,hc⟩:=un x hx
        obtain⟨q,hq,_⟩:=g3.all x hx c e hc he
        cases hq
      · rw[List.getElem?_map]at h1 h2
        cases eq:qs[m']? with
        | none=>rw[eq]at h1;cases h1
        | some q=>
          rw[eq]at h1 h2
          cases h1;cases h2
          have hqm:=List.mem_of_getElem? eq
          have hq:=g3.at_ q hqm
          obtain⟨hxu,d,e,hd,he,hce⟩:=g3.is q hqm
          show gName 4 (.ref q.1) [some (.ref mp),some (.ref fa),some (.ref ua),some (.ref ap),none,none] H3 _
          obtain⟨v,hv,ww,p,⟨wq,wr,rfl,hwq,hwr⟩,hpv⟩:=D.yes q.2.2 d hd
          have hwq3:=s3 _ _ hwq
          refine⟨_,rfl,_,rfl,_,_,_,_,rfl,rfl,SqT.of hq,rfl,fa,_,rfl,dget (Rd.same s3 hf) hv,?_⟩
          show gName 5 (.ref wq) [some (.ref mp),some (.ref fa),some (.ref ua),some (.ref ap),some (.ref q.1),none] H3 _
          refine⟨_,rfl,_,_,_,_,rfl,rfl,SqT.of hq,rfl,_,rfl,_,_,_,_,rfl,rfl,SqT.of hwq3,rfl,_,rfl,_,_,_,_,rfl,rfl,SqT.of hwq3,rfl,(by show 3≤sizeLine;omega),fun b nb=>?_⟩
          have t4:=same_upd (o:=.tup [.int q.2.1,vT ww,.ref wr]) nb
          refine k b wr q.2.2 q.2.1 d ww p _ (s3.trans t4) ⟨hxu,d,e,hd,he,hce,fun y hy d' e' h1 h2=>?_⟩ hd hpv upd_same (t4 _ _ (s3 _ _ hwr))
          obtain⟨q',hq',e3⟩:=g3.all y hy d' e' h1 h2
          rw[← e3]
          exact h3 _ (List.mem_map.mpr ⟨q',hq',rfl⟩)
def sp_prices:Sp:=fun vs H Q _=>∃fa ua n us kvs og W k0 cm,vs=[.int ((n:Nat):Int),.ref fa,.ref ua]∧(n≤20∧Rd H fa (.dK kvs)∧DI n (Pw og W k0) cm kvs H∧H ua=some (.lst (wV us))∧(∀x∈us,x < n∧∃c,cm x=some c))∧
  ∀a H',Same H H'→H' a=some (.lst ((List.range n).map fun j=>oV (if j∈us then cm j else none)))→Q (.ref a) H'
theorem ok_prices_of(T:Txt K mg t):FnOk Pr w K mg base CX0 3 t.prices_of t.d_prices_of ["size","forth","useful"] sp_prices:=by
  refine T.F_prices_of.ok sc_prices_of (fun vs H Q E h=>?_) (fun cdv A outer s H vs Q E hr h=>?_)
  · obtain⟨fa,ua,n,us,kvs,og,W,k0,cm,rfl,_⟩:=h
    rfl
  · obtain⟨fa,ua,n,us,kvs,og,W,k0,cm,rfl,⟨n20,hf,D,hu,un⟩,k⟩:=h
    refine⟨_,(pss_one (ps_ret (pe_comp (xs:=["room"]) rfl (show CompOk ["size","forth","useful"] (defScope s_prices_of) _ from⟨rfl,by decide +kernel,by decide +kernel,by decide +kernel,by decide +kernel,by decide +kernel⟩) (pi_range1 rfl T.z_range (pa_cons (pv 0) pa_nil)) (fun _ _ _ _ _=>(pg_name (i:=3) (by show List.Nodup (["size","forth","useful","room"]:List Str);decide +kernel) rfl (Or.inl rfl))) (fun _ _ _ _ _=>(pe_ifExp (pt_cmpR (show OpR _ (compareOp .In) (rInD K false)from op_inD hr.units1) (pv 3) (pv 2) (by with_unfolding_all rfl)) (pe_ix (show IxR _ (rIxT K)from ix_tup) (pe_dget (hu_of hr) (pv 1) (pv 3) (fun _ _=>rfl)) pe_int (fun _ _=>rfl)) pe_non))))),?_⟩
    refine⟨_,rfl,_,rfl,(by omega),(by omega),comp_go (n:=n) (fun i ys H2=>H2=H∧ys=(List.range i).map fun j=>oV (if j∈us then cm j else none)) (by omega) ⟨rfl,rfl⟩ (fun i ys H2 h=>by rw[h.2];simp) ?_ ?_ ?_⟩
    · rintro i ys H2 hi ⟨rfl,rfl⟩
      refine⟨(show i < (n:Int).toNat by omega),fun y H3 hy=>?_⟩
      obtain⟨rfl,rfl⟩:=hy
      have i0:(0:Int)+(i:Int)=((i:Nat):Int):=by omega
      refine⟨⟨[some _],rfl,rfl⟩,?_⟩
      rw[i0]
      refine⟨_,rfl,_,rfl,in_is hu ⟨_,rfl,?_⟩⟩
      by_cases hx:i∈us
      · obtain⟨_,c,ec⟩:=un i hx
        obtain⟨v,hv,ww,p,⟨wq,wr,rfl,hwq,hwr⟩,_⟩:=D.yes i c ec
        rw[decide_eq_true hx]
        refine iteT ?_
        refine⟨_,rfl,_,rfl,fa,_,rfl,dget hf hv,_,_,_,_,rfl,rfl,SqT.of hwq,rfl,rfl,?_⟩
        rw[List.range_succ,List.map_append,List.map_singleton,if_pos hx,ec];rfl
      · rw[decide_eq_false hx]
        refine iteF ?_
        refine⟨rfl,?_⟩
        rw[List.range_succ,List.map_append,List.map_singleton,if_neg hx];rfl
    · rintro ys H2 ⟨rfl,rfl⟩
      show(n:Int).toNat≤n
      omega
    · rintro ys H2 ap ⟨rfl,rfl⟩ nap
      exact k ap _ (same_upd nap) upd_same
structure Ch(n:Nat)(st:List (Option Int))(ts:List (List (List (Option Int))))(en:List (Option Int))(cm bm:Nat→Option Int)(us:List Nat):Prop where
  cb:∀j,IsB (org st) (sc ts) (n - 1) j (cm j)
  bb:∀j,IsB (org en) (fun a b=>sc ts b a) (n - 1) j (bm j)
  mem:∀x,x∈us↔(∃c,cm x=some c)∧∃d,bm x=some d
  lt:∀x∈us,x < n
theorem Pth_lt{f:Nat→Nat→Option Int}{n i j:Nat}{p:List Nat}{c:Int}(h:Pth f i j p c)(q:∀a b c,f a b=some c→a < n∧b < n)(hi:i < n):∀y∈p,y < n:=by
  induction h with
  | one i=>intro y hy;rw[List.mem_singleton.mp hy];exact hi
  | step e _ ih=>
    intro y hy
    rcases List.mem_cons.mp hy with rfl | hy
    · exact hi
    · exact ih (q _ _ _ e).2 y hy
theorem bst_n{f:Nat→Nat→Option Int}{og:Nat→Option Int}{n i j:Nat}{p:List Nat}{c o:Int}(q:∀a b c,f a b=some c→a < n∧b < n)(ho:og i=some o)(hi:i < n)(h:Pth f i j p c):∃c,Bst og f (n - 1) j c:=by
  obtain⟨p',c',g1,g2,g3⟩:=Pth.nod p.length (Nat.le_refl _) h
  have:=nodup_sub p' (List.range n) g2 fun y hy=>List.mem_range.mpr (Pth_lt g1 q hi y hy)
  rw[List.length_range]at this
  exact⟨o+c',i,o,p',c',ho,g1,by omega,rfl⟩
theorem org_lt{r:List (Option Int)}{i:Nat}{o:Int}(h:org r i=some o):i < r.length:=by
  unfold org at h
  cases e:r[i]? with
  | none=>rw[e]at h;cases h
  | some x=>exact(List.getElem?_eq_some_iff.mp e).1
theorem isb_some{og:Nat→Option Int}{f:Nat→Nat→Option Int}{k j:Nat}{x:Option Int}(h:IsB og f k j x){c:Int}(b:Bst og f k j c):∃d,x=some d:=by
  cases x with
  | none=>exact absurd b (h c)
  | some d=>exact⟨d,rfl⟩
section
variable{l:List Nat}{n:Nat}{st en:List (Option Int)}{ts:List (List (List (Option Int)))}{cm bm:Nat→Option Int}{us:List Nat}
theorem Ch.use(C:Ch n st ts en cm bm us)(O:CMok l n st ts en):Use (org st) (org en) (sc ts) us:=by
  refine⟨fun y hy=>?_,fun y hy=>?_,fun i o y j p q d e ho hp hq he=>?_⟩
  · obtain⟨⟨c,hc⟩,_⟩:=(C.mem y).mp hy
    have:=C.cb y
    rw[hc]at this
    obtain⟨i,o,p,d,h1,h2,_⟩:=this.1
    exact⟨i,o,p,d,h1,h2⟩
  · obtain⟨_,c,hc⟩:=(C.mem y).mp hy
    have:=C.bb y
    rw[hc]at this
    obtain⟨i,o,p,d,h1,h2,_⟩:=this.1
    exact⟨i,_,d,⟨o,h1⟩,h2.rev⟩
  · refine(C.mem y).mpr ⟨?_,?_⟩
    · obtain⟨c,hc⟩:=bst_n (og:=org st) (fun a b c h=>sc_lt O h) ho (by have:=org_lt ho;rw[O.sl]at this;exact this) hp
      exact isb_some (C.cb y) hc
    · obtain⟨z,hz⟩:=he
      obtain⟨c,hc⟩:=bst_n (f:=fun a b=>sc ts b a) (og:=org en) (fun a b c h=>(sc_lt O h).symm) hz (by have:=org_lt hz;rw[O.el]at this;exact this) hq.rev
      exact isb_some (C.bb y) hc
theorem Ch.ends(C:Ch n st ts en cm bm us)(O:CMok l n st ts en)(h:us≠[]):∃x∈us,∃e,org en x=some e:=by
  obtain⟨y,hy⟩:=List.exists_mem_of_ne_nil us h
  have U:=C.use O
  obtain⟨i,o,p,d,ho,hp⟩:=U.to y hy
  obtain⟨j,q,e,hj,hq⟩:=U.on y hy
  exact⟨j,U.all i o j j _ _ _ _ ho (hp.app hq) (.one j) hj,hj⟩
end
theorem SameT_frz{H:Hp}{a:Addr}{xs:List (Key × V)}{o:HO}(h:H a=some (.dK xs)):SameT H (L2.upd H a o):=fun p vs hp=>by
  rw[upd_ne (fun e=>by rw[e,h]at hp;cases hp)];exact hp
theorem SameT_tbl{H:Hp}{a:Addr}{xs:Array Value}{o:HO}(h:H a=some (.tbl xs)):SameT H (L2.upd H a o):=fun p vs hp=>by
  rw[upd_ne (fun e=>by rw[e,h]at hp;cases hp)];exact hp
def WW(q:Addr)(ww p:List Nat)(H:Hp):Prop:=∃r,H q=some (.tup [vT ww,.ref r])∧H r=some (.tup (wV p))
theorem WW.same{q:Addr}{ww p:List Nat}{H H':Hp}(s:SameT H H')(h:WW q ww p H):WW q ww p H':=by
  obtain⟨r,h1,h2⟩:=h
  exact⟨r,s _ _ h1,s _ _ h2⟩
theorem SameX.put{a b:Addr}{H H':Hp}{o:HO}(s:SameX a H H')(n:H b=none):SameX a H (L2.upd H' b o):=fun c u h e=>by
  rw[upd_ne (fun z=>by rw[z,n]at e;cases e)];exact s c u h e
theorem SameX.tbl{P:Addr}{H H':Hp}{ps:Array Value}(s:SameX P H H')(h:H P=some (.tbl ps)):SameT H H':=fun p vs hp=>s p _ (fun e=>by rw[e,h]at hp;cases hp) hp
def sNone:V:=.str (Str.ofString "none")
def sFalls:V:=.str (Str.ofString "falls")
def sLeast:V:=.str (Str.ofString "least")
theorem steps_turn{f:Nat→Nat→Option Int}{S:List Stp}(h:StepsOk f (fun _=>True) S):StepsOk (fun a b=>f b a) (fun _=>True) (S.map Stp.turn):=by
  refine⟨fun s hs=>?_,fun i j c _ _ e=>?_⟩
  · obtain⟨s',hs',rfl⟩:=List.mem_map.mp hs
    exact h.is s' hs'
  · obtain⟨s,hs,rfl,rfl,rfl⟩:=h.all j i c trivial trivial e
    exact⟨s.turn,List.mem_map.mpr ⟨s,hs,rfl⟩,rfl,rfl,rfl⟩
theorem rd_upd{H:Hp}{a b:Addr}{u:Obj}{xs ys:List (Key × V)}(ha:H a=some (.dK xs))(hb:H b=some (.dK ys)):Rd (L2.upd H a (.frz u (.dK xs))) b (.dK ys):=by
  by_cases e:b=a
  · subst e
    rw[ha]at hb;cases hb
    exact .inr ⟨u,upd_same⟩
  · exact .inl (by rw[upd_ne e];exact hb)
def sp_cheapest(t:Adr):Sp:=fun vs H Q _=>∃mv l n st ts en,vs=[mv]∧(CM l st ts en mv H∧CMok l n st ts en∧H t.P_cheapest=some (.tbl #[]))∧
  (∀q H' cm bm,SameX t.P_cheapest H H'→Ch n st ts en cm bm []→H' q=some (.tup [sNone])→Q (.ref q) H')∧
  (∀q H' cm bm us a b c x w1 p1 w2 p2 w3 p3 c1 c2 c3,SameX t.P_cheapest H H'→Ch n st ts en cm bm us→x∈us→H' q=some (.tup [sFalls,.ref a,.ref b,.ref c])→WW a w1 p1 H'→WW b w2 p2 H'→WW c w3 p3 H'→
    OkW (org st) (WL l ts) (n - 1) x c1 w1 p1→OkW (uo x) (WL l ts) n x c2 w2 p2→c2 < 0→OkW (org en) (fun a b y d=>WL l ts b a y d) (n - 1) x c3 w3.reverse p3.reverse→Q (.ref q) H')∧
  ∀q H' cm bm us r pa x c d ww p,SameX t.P_cheapest H H'→Ch n st ts en cm bm us→us≠[]→(∀x∈us,∀c,Bst (uo x) (sc ts) n x c→0≤c)→H' q=some (.tup [sLeast,.int c,vT ww,.ref r,.ref pa])→H' r=some (.tup (wV p))→
    H' pa=some (.lst ((List.range n).map fun j=>oV (if j∈us then cm j else none)))→Ls cm en us x c→cm x=some d→OkW (org st) (WL l ts) (n - 1) x d ww p→Q (.ref q) H'
theorem ok_cheapest(T:Txt K mg t)(hTb:Tb mg base t.c_cheapest t.P_cheapest):FnOk Pr w K mg base CX0 8 t.cheapest t.d_cheapest ["machine"] (sp_cheapest t):=by
  refine T.F_cheapest.okC sc_cheapest T.tb_cheapest T.ns_cheapest (fun vs H Q E h=>?_) (fun A outer s H vs Q E hr h=>?_)
  · obtain⟨mv,l,n,st,ts,en,rfl,_⟩:=h
    rfl
  · obtain⟨mv,l,n,st,ts,en,rfl,⟨hM,O,hP⟩,kN,kF,kL⟩:=h
    have n20:=O.n20
    have zl:10000 < sizeLine:=by decide
    refine⟨_,(pss_cons (ps_set (i:=1) sc_cheapest.nd rfl (Or.inl rfl) (pe_call (ok_rooms T) hr.m rfl T.m_rooms T.F_rooms.kp T.b_rooms .nil pass0 (pa_cons (pv 0) pa_nil))) (pss_cons (ps_set (i:=2) sc_cheapest.nd rfl (Or.inl rfl) (pe_call (ok_cheapest_steps T) hr.m rfl T.m_cheapest_steps T.F_cheapest_steps.kp T.b_cheapest_steps .nil pass0 (pa_cons (pv 0) pa_nil))) (pss_cons (ps_set (i:=3) sc_cheapest.nd rfl (Or.inl rfl) (pe_call (ok_cheapest_walks T) hr.m rfl T.m_cheapest_walks T.F_cheapest_walks.kp T.b_cheapest_walks .nil pass0 (pa_cons (pe_call (ok_standing T) hr.m rfl T.m_standing T.F_standing.kp T.b_standing .nil pass0 (pa_cons (pe_ix ix_tup (pv 0) pe_int (fun _ _=>rfl)) pa_nil)) (pa_cons (pv 2) (pa_cons (pe_op op_sub (pv 1) pe_int) pa_nil))))) (pss_cons (ps_set (i:=4) sc_cheapest.nd rfl (Or.inr rfl) (pe_call (ok_cheapest_walks T) hr.m rfl T.m_cheapest_walks T.F_cheapest_walks.kp T.b_cheapest_walks .nil pass0 (pa_cons (pe_call (ok_standing T) hr.m rfl T.m_standing T.F_standing.kp T.b_standing .nil pass0 (pa_cons (pe_ix ix_tup (pv 0) pe_int (fun _ _=>rfl)) pa_nil)) (pa_cons (pe_call (ok_steps_turned T) hr.m rfl T.m_steps_turned T.F_steps_turned.kp T.b_steps_turned .nil pass0 (pa_cons (pv 2) pa_nil)) (pa_cons (pe_op op_sub (pv 1) pe_int) pa_nil))))) (pss_cons (ps_hideA 8 "#1" (by decide) (ps_setCI (i₀:=5) (xs:=["room"]) (by show List.Nodup (["machine","size","steps","forth","back","useful","rings","ring","#1"]:List Str);decide +kernel) rfl (Or.inl rfl) rfl (show CompOk ["machine","size","steps","forth","back","useful","rings","ring","#1"] (defScope s_cheapest) _ from⟨rfl,by decide +kernel,by decide +kernel,by decide +kernel,by decide +kernel,by decide +kernel⟩) (pi_dict (pv 3)) (fun _ _ _ _ _=>(pg_name (i:=9) (by show List.Nodup (["machine","size","steps","forth","back","useful","rings","ring","#1","room"]:List Str);decide +kernel) rfl (Or.inl rfl))) (fun _ _ _ _ _=>(pt_cmp (pc_din (hu_of hr) (pv 9) (pv 4)) (by with_unfolding_all rfl))) (fun _ _ _ _ _=>(pv 9)))) (pss_cons (ps_if (pt_cmpR op_eq (pe_callB call_len (by rfl) T.z_len PySem.boot_len (pa_cons (pv 5) pa_nil)) pe_int (nomark _)) (pss_one (ps_ret (pe_tup (pa_cons pe_str pa_nil)))) pss_nil) (pss_cons (ps_set (i:=6) sc_cheapest.nd rfl (Or.inl rfl) (pe_call (ok_rings_below T) hr.m rfl T.m_rings_below T.F_rings_below.kp T.b_rings_below .nil pass0 (pa_cons (pv 2) (pa_cons (pv 5) (pa_cons (pv 1) pa_nil))))) (pss_cons (ps_if (pt_cmpR op_gt (pe_callB call_len (by rfl) T.z_len PySem.boot_len (pa_cons (pv 6) pa_nil)) pe_int (nomark _)) (pss_cons (ps_set (i:=7) sc_cheapest.nd rfl (Or.inl rfl) (pe_minK (k:=0) (pn:="walk") rfl hr.m hTb rfl (by rfl) T.z_min (pa_cons (pv 6) pa_nil) rfl rfl (show FnScope _ _ _ from sc_mk) (fun _ _ _ _ _ _=>(pe_callB (show CallR _ (.builtin "len") (fun xs H Q=>∃x n,xs=[x]∧LenV K x H n∧Q (V.int (n:Nat)) H)from call_len) (by rfl) T.z_len PySem.boot_len (pa_cons (pe_ix (show IxR _ (rIxT K)from ix_tup) (pv 0) pe_int (fun _ _=>rfl)) pa_nil))) (fun _ _ _ _=>rfl))) (pss_cons (ps_set (i:=8) sc_cheapest.nd rfl (Or.inl rfl) (pe_ix ix_tup (pe_ix ix_tup (pv 7) pe_int (fun _ _=>rfl)) pe_int (fun _ _=>rfl))) (pss_one (ps_ret (pe_tup (pa_cons pe_str (pa_cons (pe_call (ok_word_and_way T) hr.m rfl T.m_word_and_way T.F_word_and_way.kp T.b_word_and_way .nil pass0 (pa_cons (pe_dget (hu_of hr) (pv 3) (pv 8) (fun _ _=>rfl)) pa_nil)) (pa_cons (pe_call (ok_word_and_way T) hr.m rfl T.m_word_and_way T.F_word_and_way.kp T.b_word_and_way .nil pass0 (pa_cons (pv 7) pa_nil)) (pa_cons (pe_call (ok_turned_back T) hr.m rfl T.m_turned_back T.F_turned_back.kp T.b_turned_back .nil pass0 (pa_cons (pe_dget (hu_of hr) (pv 4) (pv 8) (fun _ _=>rfl)) pa_nil)) pa_nil))))))))) pss_nil) (pss_one (ps_ret (pe_op op_catA (pe_op op_catA (pe_tup (pa_cons pe_str pa_nil)) (pe_call (ok_least_walk T) hr.m rfl T.m_least_walk T.F_least_walk.kp T.b_least_walk .nil pass0 (pa_cons (pv 0) (pa_cons (pv 3) (pa_cons (pv 5) pa_nil))))) (pe_tup (pa_cons (pe_call (ok_prices_of T) hr.m rfl T.m_prices_of T.F_prices_of.kp T.b_prices_of .nil pass0 (pa_cons (pv 1) (pa_cons (pv 3) (pa_cons (pv 5) pa_nil)))) pa_nil))))))))))))),?_⟩
    refine⟨_,rfl,mv,l,n,st,ts,en,rfl,⟨hM,O⟩,?_⟩
    refine⟨_,rfl,mv,l,n,st,ts,en,rfl,⟨hM,O⟩,fun S sa H1 s1 hS1 so sw sl=>?_⟩
    show gName 2 (.ref sa) [some mv,some (.int (n:Int)),none,none,none,none,none,none,none] H1 _
    have hM1:=hM.same s1.t
    have hP1:=s1 _ _ hP
    obtain⟨mp,sv,tv,ev,rfl,hp,hs,ht,he⟩:=id hM1
    refine⟨_,rfl,_,_,_,_,rfl,rfl,SqT.of hp,rfl,sv,st,rfl,⟨hs,by rw[O.sl];exact n20⟩,fun fa0 kf0 H2 nf0 t2 hf0 D0=>?_⟩
    rw[O.sl]at D0
    refine⟨_,rfl,_,rfl,_,_,rfl,rfl,fa0,sa,kf0,S,n,org st,sc ts,WL l ts,_,rfl,⟨hf0,hS1.same t2,D0 _,sl,n20,by omega,by omega,so,sw⟩,fun fa kf cm H3 nf1 t3 hf Df cb=>?_⟩
    show gName 3 (.ref fa) [some (.ref mp),some (.int (n:Int)),some (.ref sa),none,none,none,none,none,none] H3 _
    have nfa:H fa=none:=by
      rcases nf1 with e | e
      · rw[e];exact s1.free nf0
      · exact(s1.trans t2).free e
    have t23:=t2.trans t3
    have hM3:=hM1.same t23.t
    obtain⟨mp',sv,tv,ev,e0,hp,hs,ht,he⟩:=id hM3
    cases e0
    have hS3:=hS1.same t23
    have hP3:=t23 _ _ hP1
    have s3:=s1.trans t23
    clear t2 t3 t23 hP1 hM1 hS1 hf0 D0 nf0 nf1
    refine⟨_,rfl,_,_,_,_,rfl,rfl,SqT.of hp,rfl,ev,en,rfl,⟨he,by rw[O.el];exact n20⟩,fun ba0 kb0 H4 _ t4 hb0 D0=>?_⟩
    rw[O.el]at D0
    refine⟨_,rfl,sa,S,rfl,⟨hS3.same t4,sl⟩,fun ta H5 t5 hT5=>?_⟩
    refine⟨_,rfl,_,_,rfl,rfl,ba0,ta,kb0,S.map Stp.turn,n,org en,(fun a b=>sc ts b a),(fun a b y d=>WL l ts b a y d),_,rfl,⟨t5 _ _ hb0,hT5,(D0 _).mono fun _ _ _ z=>z.same t5.t,by rw[List.length_map];exact sl,n20,by omega,by omega,steps_turn so,fun s hs=>?_⟩,fun ba kb bm H6 _ t6 hb Db bb=>?_⟩
    · obtain⟨s',hs',rfl⟩:=List.mem_map.mp hs
      exact⟨(sw s' hs').1,(sc_lt O (so.is s' hs')).1⟩
    show gName 4 (.ref ba) [some (.ref mp),some (.int (n:Int)),some (.ref sa),some (.ref fa),none,none,none,none,none] H6 _
    have t36:=(t4.trans t5).trans t6
    have hM6:=hM3.same t36.t
    have hS6:=hS3.same t36
    have hP6:=t36 _ _ hP3
    have hf6:=t36 _ _ hf
    have Df6:DI n (Pw (org st) (WL l ts) ((n:Int) - 1).toNat) cm kf H6:=Df.mono fun _ _ _ z=>z.same t36.t
    have s6:=s3.trans t36
    have en1:((n:Int) - 1).toNat=n - 1:=by omega
    rw[en1]at Df6 cb Db bb
    clear t4 t5 t6 t36 hM3 hS3 hP3 hf hb0 hT5 D0 Df hp hs ht he s3
    refine⟨rfl,?_⟩
    refine⟨_,rfl,fa,kf,rfl,hf6,fun ob=>?_⟩
    have u7:SameT H6 (upd H6 fa (.frz ob (.dK kf))):=SameT_frz hf6
    have hf7:upd H6 fa (.frz ob (.dK kf)) fa=some (.frz ob (.dK kf)):=upd_same
    have hb7:Rd (upd H6 fa (.frz ob (.dK kf))) ba (.dK kb):=rd_upd hf6 hb
    have hS7:StL S sa (upd H6 fa (.frz ob (.dK kf))):=by
      obtain⟨vs,h,e⟩:=hS6
      exact⟨vs,by rw[upd_ne (fun z=>by rw[z,hf6]at h;cases h)];exact h,e.mono fun _ _ _ ⟨r,a1,a2⟩=>⟨r,a1,a2.same u7⟩⟩
    have hP7:upd H6 fa (.frz ob (.dK kf)) t.P_cheapest=some (.tbl #[]):=by rw[upd_ne (fun z=>by rw[z,hf6]at hP6;cases hP6)];exact hP6
    have Df7:DI n (Pw (org st) (WL l ts) (n - 1)) cm kf (upd H6 fa (.frz ob (.dK kf))):=Df6.mono fun _ _ _ z=>z.same u7
    have Db7:DI n (Pw (org en) (fun a b y d=>WL l ts b a y d) (n - 1)) bm kb (upd H6 fa (.frz ob (.dK kf))):=Db.mono fun _ _ _ z=>z.same u7
    have hM7:=hM6.same u7
    have s7:SameX t.P_cheapest H (upd H6 fa (.frz ob (.dK kf))):=(SameX.of s6).put nfa
    clear u7 hf6 hb hS6 hP6 Df6 Db hM6 s6
    revert hf7 hb7 hS7 hP7 Df7 Db7 hM7 s7
    generalize upd H6 fa (.frz ob (.dK kf))=H7
    intro hf7 hb7 hS7 hP7 Df7 Db7 hM7 s7
    have kl:=Df7.len
    refine comp_goI (n:=kf.length) (fun i ys H8=>∃us:List Nat,ys=wV us∧H8=H7∧us.length≤i∧∀x,x∈us↔(∃p∈kf.take i,p.1=.inl (x:Int))∧∃d,bm x=some d) (by omega) ⟨[],rfl,rfl,Nat.le_refl _,fun x=>by simp⟩ (fun i ys H8 ⟨us,e,_,h,_⟩=>by rw[e];unfold wV;rw[List.length_map];exact h) ?_ ?_ ?_
    · rintro i ys H8 hi ⟨us,rfl,rfl,ul,um⟩
      refine⟨⟨hi,hf7⟩,fun y H9 hy=>?_⟩
      obtain⟨rfl,pr,hpr,rfl⟩:=hy
      obtain⟨x,c,xn,ex,ecx⟩:=Df7.key (List.mem_of_getElem? hpr)
      have tk:kf.take (i+1)=kf.take i++[pr]:=by rw[List.take_succ,hpr];rfl
      rw[ex]
      refine⟨⟨[some _],rfl,rfl⟩,_,rfl,_,rfl,ba,_,rfl,.inl ⟨kb,.inl (x:Int),hb7,rfl,rfl⟩,_,rfl,?_⟩
      cases eb:bm x with
      | none=>
        rw[Db7.no x eb]
        refine iteF ?_
        refine⟨us,rfl,rfl,by omega,fun y=>?_⟩
        rw[um,tk]
        constructor
        · rintro⟨⟨p,hp,e⟩,q⟩
          exact⟨⟨p,List.mem_append_left _ hp,e⟩,q⟩
        · rintro⟨⟨p,hp,e⟩,q⟩
          rcases List.mem_append.mp hp with hp | hp
          · exact⟨⟨p,hp,e⟩,q⟩
          · rw[List.mem_singleton.mp hp,ex]at e
            rw[← inl_inj e,eb]at q
            obtain⟨_,q⟩:=q
            cases q
      | some d=>
        obtain⟨v,hv,_⟩:=Db7.yes x d eb
        rw[hv]
        refine iteT ?_
        refine⟨_,rfl,us++[x],by unfold wV;rw[List.map_append];rfl,rfl,by rw[List.length_append];exact Nat.succ_le_succ ul,fun y=>?_⟩
        rw[List.mem_append,um,tk,List.mem_singleton]
        constructor
        · rintro(⟨⟨p,hp,e⟩,q⟩ | rfl)
          · exact⟨⟨p,List.mem_append_left _ hp,e⟩,q⟩
          · exact⟨⟨pr,List.mem_append_right _ (List.mem_singleton.mpr rfl),ex⟩,d,eb⟩
        · rintro⟨⟨p,hp,e⟩,q⟩
          rcases List.mem_append.mp hp with hp | hp
          · exact .inl ⟨⟨p,hp,e⟩,q⟩
          · rw[List.mem_singleton.mp hp,ex]at e
            exact .inr (inl_inj e).symm
    · rintro ys H8 ⟨us,rfl,rfl,ul,um⟩
      exact⟨Nat.le_refl _,hf7⟩
    · rintro ys H8 ua ⟨us,rfl,rfl,ul,um⟩ nua
      rw[List.take_length]at um
      have C:Ch n st ts en cm bm us:=by
        have mm:∀x,x∈us↔(∃c,cm x=some c)∧∃d,bm x=some d:=fun x=>by
          rw[um]
          constructor
          · rintro⟨⟨p,hp,e⟩,q⟩
            obtain⟨y,c,_,e1,e2⟩:=Df7.key hp
            rw[e1]at e
            exact⟨⟨c,by rw[← inl_inj e];exact e2⟩,q⟩
          · rintro⟨⟨c,hc⟩,q⟩
            exact⟨Df7.has hc,q⟩
        refine⟨cb,bb,mm,fun x hx=>?_⟩
        obtain⟨⟨c,hc⟩,_⟩:=(mm x).mp hx
        obtain⟨p,hp,e⟩:=Df7.has hc
        obtain⟨y,hy,e'⟩:=Df7.ks p hp
        rw[e]at e'
        rw[inl_inj e'];exact hy
      have t9:=same_upd (o:=.lst (wV us)) nua
      have hu9:upd H8 ua (.lst (wV us)) ua=some (.lst (wV us)):=upd_same
      have hf9:=t9 _ _ hf7
      have hb9:=Rd.same t9 hb7
      have hS9:=hS7.same t9
      have hP9:=t9 _ _ hP7
      have Df9:DI n (Pw (org st) (WL l ts) (n - 1)) cm kf (upd H8 ua (.lst (wV us))):=Df7.mono fun _ _ _ z=>z.same t9.t
      have Db9:DI n (Pw (org en) (fun a b y d=>WL l ts b a y d) (n - 1)) bm kb (upd H8 ua (.lst (wV us))):=Db7.mono fun _ _ _ z=>z.same t9.t
      have hM9:=hM7.same t9.t
      have s9:SameX t.P_cheapest H (upd H8 ua (.lst (wV us))):=s7.trans (.of t9)
      clear t9 hf7 hb7 hS7 hP7 Df7 Db7 hM7 s7 nua
      revert hu9 hf9 hb9 hS9 hP9 Df9 Db9 hM9 s9
      generalize upd H8 ua (.lst (wV us))=H9
      intro hu9 hf9 hb9 hS9 hP9 Df9 Db9 hM9 s9
      have ul20:us.length≤20:=by omega
      clear ul um
      show gName 5 (.ref ua) [some (.ref mp),some (.int (n:Int)),some (.ref sa),some (.ref fa),some (.ref ba),none,none,none,none] H9 _
      have ll:LenV K (.ref ua) H9 us.length:=.inl ⟨_,SqL.of hu9,by unfold wV;rw[List.length_map]⟩
      refine⟨_,rfl,_,_,rfl,ll,?_⟩
      refine⟨rfl,_,rfl,?_⟩
      refine iteI (fun h=>?_) (fun h=>?_)
      · have e0:us=[]:=List.eq_nil_of_length_eq_zero (by injection h with h)
        subst e0
        exact⟨(by show 1≤sizeLine;omega),fun q nq=>kN q _ cm bm (s9.trans (.of (same_upd nq))) C upd_same⟩
      have une:us≠[]:=fun e=>h (by rw[e];rfl)
      clear h
      refine⟨_,rfl,_,rfl,_,rfl,sa,ua,us,S,n,sc ts,WL l ts,n,rfl,⟨hS9,hu9,sl,n20,n20,ul20,C.lt,so,sw⟩,fun ra rs Ha ta' hra R=>?_⟩
      have hu:=ta' _ _ hu9
      have hf:=ta' _ _ hf9
      have hb:=Rd.same ta' hb9
      have hP':=ta' _ _ hP9
      have Df:DI n (Pw (org st) (WL l ts) (n - 1)) cm kf Ha:=Df9.mono fun _ _ _ z=>z.same ta'.t
      have Db:DI n (Pw (org en) (fun a b y d=>WL l ts b a y d) (n - 1)) bm kb Ha:=Db9.mono fun _ _ _ z=>z.same ta'.t
      have hM':=hM9.same ta'.t
      have sT:SameX t.P_cheapest H Ha:=s9.trans (.of ta')
      clear hu9 hf9 hb9 hS9 hP9 Df9 Db9 hM9 s9 ta'
      show gName 6 (.ref ra) [some (.ref mp),some (.int (n:Int)),some (.ref sa),some (.ref fa),some (.ref ba),some (.ref ua),none,none,none] Ha _
      have ll:LenV K (.ref ra) Ha rs.length:=.inl ⟨_,SqL.of hra,(List.length_map ..).symm⟩
      refine⟨_,rfl,_,_,rfl,ll,_,_,rfl,rfl,_,rfl,?_⟩
      refine iteP (fun h0=>?_) (fun h0=>?_)
      · have ne:rs≠[]:=fun e=>by rw[e]at h0;exact absurd h0 (by decide)
        refine⟨_,rfl,ra,rs,#[],rfl,SqL.of hra,ne,hP',trivial,rfl,fun qs=>⟨⟨?_,fun a ha=>?_⟩,fun q hq=>?_⟩⟩
        · refine SqL.of ?_
          rw[upd_ne (fun z=>by rw[z,hP']at hra;cases hra)];exact hra
        · have uT:SameT Ha (upd Ha t.P_cheapest (.tbl (#[]++qs))):=SameT_tbl hP'
          obtain⟨x,c,ww,p,hx,⟨wq,wr,e,h1,h2⟩,⟨i,o,d,_,wy,_,wl⟩,_⟩:=R.is a ha
          cases e
          have lw:LenV K (vT ww) (upd Ha t.P_cheapest (.tbl (#[]++qs))) (tx ww).length:=⟨by rw[tx_len];omega,rfl⟩
          exact⟨_,rfl,_,_,_,_,rfl,rfl,SqT.of (uT _ _ h1),rfl,_,_,rfl,lw,⟨_,rfl⟩,rfl⟩
        · have uT:SameT Ha (upd Ha t.P_cheapest (.tbl (#[]++qs))):=SameT_tbl hP'
          obtain⟨x,c,ww,p,hx,hwk,hok,hc⟩:=R.is q hq
          have hwk:=hwk.same uT
          have hf':upd Ha t.P_cheapest (.tbl (#[]++qs)) fa=some (.frz ob (.dK kf)):=by rw[upd_ne (fun z=>by rw[z,hP']at hf;cases hf)];exact hf
          have hb':Rd (upd Ha t.P_cheapest (.tbl (#[]++qs))) ba (.dK kb):=by
            rcases hb with hb | ⟨oo,hb⟩
            · exact .inl (by rw[upd_ne (fun z=>by rw[z,hP']at hb;cases hb)];exact hb)
            · exact .inr ⟨oo,by rw[upd_ne (fun z=>by rw[z,hP']at hb;cases hb)];exact hb⟩
          have Df':DI n (Pw (org st) (WL l ts) (n - 1)) cm kf (upd Ha t.P_cheapest (.tbl (#[]++qs))):=Df.mono fun _ _ _ z=>z.same uT
          have Db':DI n (Pw (org en) (fun a b y d=>WL l ts b a y d) (n - 1)) bm kb (upd Ha t.P_cheapest (.tbl (#[]++qs))):=Db.mono fun _ _ _ z=>z.same uT
          have sT':SameX t.P_cheapest H (upd Ha t.P_cheapest (.tbl (#[]++qs))):=sT.trans SameX.upd
          clear uT hf hb Df Db sT hP' hM' hu hra R hq ne h0 ll
          revert hwk hf' hb' Df' Db' sT'
          generalize upd Ha t.P_cheapest (.tbl (#[]++qs))=Hb
          intro hwk hf' hb' Df' Db' sT'
          show gName 7 (.ref q) [some (.ref mp),some (.int (n:Int)),some (.ref sa),some (.ref fa),some (.ref ba),some (.ref ua),some (.ref ra),none,none] Hb _
          obtain⟨wq,wr,e,hwq,hwr⟩:=id hwk
          cases e
          obtain⟨i0,o0,d0,ho0,wy,_,wl⟩:=id hok
          have ei:i0=x:=by
            unfold uo at ho0
            split at ho0
            · assumption
            · cases ho0
          subst ei
          have a0:atI (wV p) 0=some (.int (i0:Int)):=atI_nat (j:=0) (by unfold wV;rw[List.getElem?_map,wy.first];rfl)
          refine⟨_,rfl,_,_,_,_,rfl,rfl,SqT.of hwq,rfl,_,_,_,_,rfl,rfl,SqT.of hwr,a0,?_⟩
          show gName 8 (.int (i0:Int)) [some (.ref mp),some (.int (n:Int)),some (.ref sa),some (.ref fa),some (.ref ba),some (.ref ua),some (.ref ra),some (.ref q),none] Hb _
          obtain⟨⟨c1,hc1⟩,c3,hc3⟩:=(C.mem i0).mp hx
          obtain⟨v1,hv1,w1,p1,hw1,ok1⟩:=Df'.yes i0 c1 hc1
          obtain⟨v3,hv3,w3,p3,hw3,ok3⟩:=Db'.yes i0 c3 hc3
          refine⟨_,rfl,_,rfl,fa,v1,rfl,dget (.inr ⟨_,hf'⟩) hv1,v1,c1,w1,p1,rfl,hw1,fun q1 r1 Hc t1 hq1 hr1=>?_⟩
          refine⟨_,rfl,_,c,ww,p,rfl,hwk.same t1.t,fun q2 r2 Hd t2 hq2 hr2=>?_⟩
          have t12:=t1.trans t2
          have wl3:w3.length≤100∧p3.length≤100:=by
            obtain⟨_,_,_,_,wy3,_,wl3⟩:=ok3
            have:=wy3.len
            omega
          refine⟨_,rfl,_,rfl,ba,v3,rfl,dget (Rd.same t12 hb') hv3,v3,c3,w3,p3,rfl,⟨hw3.same t12.t,wl3.1,wl3.2⟩,fun q3 r3 He t3 hq3 hr3=>?_⟩
          refine⟨(by show 4≤sizeLine;omega),fun qq nqq=>?_⟩
          have t4:=same_upd (o:=.tup [sFalls,.ref q1,.ref q2,.ref q3]) nqq
          refine kF qq _ cm bm us q1 q2 q3 i0 w1 p1 ww p w3.reverse p3.reverse c1 c c3 (sT'.trans (.of ((t12.trans t3).trans t4))) C hx upd_same ⟨r1,((t2.trans t3).trans t4) _ _ hq1,((t2.trans t3).trans t4) _ _ hr1⟩ ⟨r2,(t3.trans t4) _ _ hq2,(t3.trans t4) _ _ hr2⟩ ⟨r3,t4 _ _ hq3,t4 _ _ hr3⟩ ok1 hok hc ?_
          rw[List.reverse_reverse,List.reverse_reverse]
          exact ok3
      · have rn:rs=[]:=List.eq_nil_of_length_eq_zero (by omega)
        refine⟨(by show 1≤sizeLine;omega),fun la nla=>?_⟩
        have t1:=same_upd (o:=.tup [sLeast]) nla
        have kl1:upd Ha la (.tup [sLeast]) la=some (.tup [sLeast]):=upd_same
        show _
        revert t1 kl1
        have eqq:upd Ha la (.tup [.str (Str.ofString "least")])=upd Ha la (.tup [sLeast]):=rfl
        rw[eqq]
        generalize upd Ha la (.tup [sLeast])=Hb
        intro t1 kl1
        have Df1:DI n (Pw (org st) (WL l ts) (n - 1)) cm kf Hb:=Df.mono fun _ _ _ z=>z.same t1.t
        refine⟨_,rfl,_,rfl,_,rfl,.ref mp,fa,ua,l,n,st,ts,en,us,kf,org st,WL l ts,n - 1,cm,rfl,⟨hM'.same t1.t,O,.inr ⟨_,t1 _ _ hf⟩,Df1,t1 _ _ hu,ul20,fun x hx=>⟨C.lt x hx,((C.mem x).mp hx).1⟩,C.ends O une⟩,fun lq lr x c d ww p Hc t2 hls hd hok hlq hlr=>?_⟩
        refine⟨_,_,_,_,rfl,rfl,t2 _ _ kl1,hlq,(by show 4≤sizeLine;omega),fun cq Hd t3 hcq=>?_⟩
        have t13:=(t1.trans t2).trans t3
        have Df3:DI n (Pw (org st) (WL l ts) (n - 1)) cm kf Hd:=Df.mono fun _ _ _ z=>z.same t13.t
        refine⟨_,rfl,_,rfl,_,rfl,fa,ua,n,us,kf,org st,WL l ts,n - 1,cm,rfl,⟨n20,.inr ⟨_,t13 _ _ hf⟩,Df3,t13 _ _ hu,fun x hx=>⟨C.lt x hx,((C.mem x).mp hx).1⟩⟩,fun pa He t4 hpa=>?_⟩
        refine⟨(by show 1≤sizeLine;omega),fun oa noa=>?_⟩
        have t5:=same_upd (o:=.tup [.ref pa]) noa
        refine⟨_,_,_,_,rfl,rfl,(t4.trans t5) _ _ hcq,upd_same,(by show 5≤sizeLine;omega),fun qq Hf t6 hqq=>?_⟩
        exact kL qq Hf cm bm us lr pa x c d ww p (sT.trans (.of ((t13.trans t4).trans (t5.trans t6)))) C une (R.none_ rn) hqq ((t3.trans (t4.trans (t5.trans t6))) _ _ hlr) ((t5.trans t6) _ _ hpa) hls hd hok
theorem Dr.put{a b:Addr}{H:Hp}{o:HO}(d:Dr H a)(n:b≠a):Dr (L2.upd H b o) a:=by
  obtain⟨x,h | ⟨y,h⟩⟩:=d
  · exact⟨x,.inl (by rw[upd_ne (Ne.symm n)];exact h)⟩
  · exact⟨x,.inr ⟨y,by rw[upd_ne (Ne.symm n)];exact h⟩⟩
theorem Dr.ne{a b:Addr}{H:Hp}(d:Dr H a)(n:H b=none):b≠a:=fun e=>by
  obtain⟨xs,h⟩:=d.lst
  rw[e,h]at n;cases n
def sp_lrooms:Sp:=fun vs H Q _=>∃(a:Addr) (f m:Int),vs=[.ref a,.int f,.int m]∧(Dr H a∧0 < f∧f≤21∧0 < m∧m≤21)∧∀(r:Int) H',SameX a H H'→Dr H' a→0≤r→(r < f∨r < m)→Q (.int r) H'
theorem ok_law_rooms(T:Txt K mg t):FnOk Pr w K mg base CX0 2 t.law_rooms t.d_law_rooms ["_law_state_here","_law_few","_law_most"] sp_lrooms:=by
  refine T.F_law_rooms.ok sc_law_rooms (fun vs H Q E h=>?_) (fun cdv A outer s H vs Q E hr h=>?_)
  · obtain⟨a,f,m,rfl,_⟩:=h
    rfl
  · obtain⟨a,f,m,rfl,⟨hD,f0,f1,m0,m1⟩,k⟩:=h
    refine⟨_,(pss_cons (ps_if (pt_cmpR op_eq (pe_call (ok_law_next T) hr.m rfl T.m_law_next T.F_law_next.kp T.b_law_next .nil pass0 (pa_cons (pv 0) (pa_cons pe_int pa_nil))) pe_int (nomark _)) (pss_one (ps_ret (pe_call (ok_law_next T) hr.m rfl T.m_law_next T.F_law_next.kp T.b_law_next .nil pass0 (pa_cons (pv 0) (pa_cons (pv 2) pa_nil))))) pss_nil) (pss_one (ps_ret (pe_call (ok_law_next T) hr.m rfl T.m_law_next T.F_law_next.kp T.b_law_next .nil pass0 (pa_cons (pv 0) (pa_cons (pv 1) pa_nil)))))),?_⟩
    refine⟨_,rfl,_,_,rfl,⟨hD,by decide,by decide⟩,fun r H1 s1 D1 r0 r3=>?_⟩
    refine⟨rfl,_,rfl,?_⟩
    refine iteI (fun _=>?_) (fun _=>?_)
    · refine⟨_,rfl,_,rfl,_,_,rfl,⟨D1,by omega,by omega⟩,fun r H2 s2 D2 r0 r3=>?_⟩
      exact k r H2 (s1.trans s2) D2 r0 (by omega)
    · refine⟨_,rfl,_,rfl,_,_,rfl,⟨D1,by omega,by omega⟩,fun r H2 s2 D2 r0 r3=>?_⟩
      exact k r H2 (s1.trans s2) D2 r0 (by omega)
def sp_lcosts:Sp:=fun vs H Q _=>∃(a:Addr) (f:Int) (n:Nat),vs=[.ref a,.int f,.int (n:Int)]∧(Dr H a∧n≤20)∧∀r v H',SameX a H H'→Dr H' a→r.length=n→CR r v H'→Q v H'
theorem ok_law_costs(T:Txt K mg t):FnOk Pr w K mg base CX0 2 t.law_costs t.d_law_costs ["_law_state_here","_law_far_here","_law_many"] sp_lcosts:=by
  refine T.F_law_costs.ok sc_law_costs (fun vs H Q E h=>?_) (fun cdv A outer s H vs Q E hr h=>?_)
  · obtain⟨a,f,n,rfl,_⟩:=h
    rfl
  · obtain⟨a,f,n,rfl,⟨hD,n20⟩,k⟩:=h
    have zl:10000 < sizeLine:=by decide
    refine⟨_,(pss_cons (ps_set (i:=3) sc_law_costs.nd rfl (Or.inl rfl) (pe_lst pa_nil)) (pss_cons (ps_for PassesOwn.never rfl (pi_range1 rfl T.z_range (pa_cons (pv 2) pa_nil)) (pg_name (i:=4) sc_law_costs.nd rfl (Or.inl rfl)) (pss_cons (ps_set (i:=5) sc_law_costs.nd rfl (Or.inl rfl) pe_non) (pss_cons (ps_if (pt_cmpR op_gt (pe_call (ok_law_next T) hr.m rfl T.m_law_next T.F_law_next.kp T.b_law_next .nil pass0 (pa_cons (pv 0) (pa_cons pe_int pa_nil))) pe_int (nomark _)) (pss_one (ps_set (i:=5) sc_law_costs.nd rfl (Or.inl rfl) (pe_op op_mul (pv 1) (pe_op op_sub (pe_call (ok_law_next T) hr.m rfl T.m_law_next T.F_law_next.kp T.b_law_next .nil pass0 (pa_cons (pv 0) (pa_cons pe_int pa_nil))) pe_int)))) pss_nil) (pss_one (ps_expr (pe_bm PySem.F.plainAttrs_list PySem.F.slot_list_append PySem.F.type_list_append mt_append (pv 3) (pa_cons (pv 5) pa_nil))))))) (pss_one (ps_ret (pe_callTy call_tuple_of (by rfl) T.z_tuple boot_tuple (pa_cons (pv 3) pa_nil)))))),?_⟩
    refine⟨Nat.zero_le _,fun rp nrp=>?_⟩
    have na:=hD.ne nrp
    refine⟨_,rfl,_,rfl,(by omega),(by omega),for_range (lo:=0) (n:=(n:Int).toNat) (fun i σ H2=>∃v4 v5 r,σ=[some (.ref a),some (.int f),some (.int (n:Int)),some (.ref rp),v4,v5]∧SameX a H H2∧Dr H2 a∧H2 rp=some (.lst (r.map oV))∧r.length=i) ⟨_,_,[],rfl,(SameX.refl _ _).put nrp,hD.put na,upd_same,rfl⟩ ?_ ?_⟩
    · rintro i σ H2 hi ⟨v4,v5,r,rfl,s2,d2,k2,rl⟩
      refine⟨_,rfl,_,_,rfl,⟨d2,by decide,by decide⟩,fun z H3 s3 d3 z0 z1=>?_⟩
      have k3:=s3 _ _ na k2
      have s23:=s2.trans s3
      refine⟨_,_,rfl,rfl,_,rfl,?_⟩
      refine iteP (fun _=>?_) (fun _=>?_)
      · refine⟨_,rfl,_,rfl,_,_,rfl,⟨d3,by decide,by decide⟩,fun y H4 s4 d4 y0 y1=>?_⟩
        have k4:=s4 _ _ na k3
        refine⟨_,_,rfl,rfl,_,_,rfl,rfl,.inr ⟨by omega,by omega⟩,?_⟩
        refine⟨_,rfl,.inl ⟨rfl,_,SqL.of k4⟩,_,rfl,rp,_,_,rfl,rfl,k4,(by rw[List.length_map];omega),?_⟩
        exact⟨_,_,r++[some (f * (y - 4))],rfl,(s23.trans s4).put nrp,d4.put na,by rw[List.map_append];exact upd_same,by simp[rl]⟩
      · refine⟨_,rfl,.inl ⟨rfl,_,SqL.of k3⟩,_,rfl,rp,_,_,rfl,rfl,k3,(by rw[List.length_map];omega),?_⟩
        exact⟨_,_,r++[none],rfl,s23.put nrp,d3.put na,by rw[List.map_append];exact upd_same,by simp[rl]⟩
    · rintro σ H2 ⟨v4,v5,r,rfl,s2,d2,k2,rl⟩
      refine⟨_,rfl,rp,_,rfl,.inl ⟨SqL.of k2,fun q nq=>?_⟩⟩
      have t3:=same_upd (o:=.tup (r.map oV)) nq
      exact k r _ _ (s2.trans (.of t3)) (d2.same t3) (by omega) ⟨q,rfl,upd_same⟩
def sp_lfar:Sp:=fun vs H Q _=>∃a,vs=[.ref a]∧Dr H a∧∀(f:Int) H',SameX a H H'→Dr H' a→Q (.int f) H'
theorem ok_law_far(T:Txt K mg t):FnOk Pr w K mg base CX0 2 t.law_far t.d_law_far ["_law_state_here"] sp_lfar:=by
  refine T.F_law_far.ok sc_law_far (fun vs H Q E h=>?_) (fun cdv A outer s H vs Q E hr h=>?_)
  · obtain⟨a,rfl,_⟩:=h
    rfl
  · obtain⟨a,rfl,hD,k⟩:=h
    refine⟨_,(pss_one (ps_ret (pe_ix ix_list (pe_lst (pa_cons pe_int (pa_cons pe_int (pa_cons (pe_op op_add (pe_op op_pow pe_int pe_int) pe_int) (pa_cons (pe_op op_add (pe_op op_pow pe_int pe_int) pe_int) pa_nil))))) (pe_call (ok_law_next T) hr.m rfl T.m_law_next T.F_law_next.kp T.b_law_next .nil pass0 (pa_cons (pv 0) (pa_cons pe_int pa_nil))) (fun _ _=>rfl)))),?_⟩
    refine⟨_,_,rfl,rfl,⟨by decide,by decide,by decide⟩,_,_,rfl,rfl,_,_,rfl,rfl,⟨by decide,by decide,by decide⟩,_,_,rfl,rfl,(by show 4≤sizeLine;decide),fun lp nlp=>?_⟩
    have na:=hD.ne nlp
    have t1:=same_upd (o:=.lst [.int 1,.int 1,.int (10 ^ (9:Int).toNat+7),.int (10 ^ (27:Int).toNat+1)]) nlp
    refine⟨_,rfl,_,_,rfl,⟨hD.same t1,by decide,by decide⟩,fun z H2 s2 d2 z0 z1=>?_⟩
    have k2:=s2 _ _ na (upd_same (H:=H) (a:=lp) (o:=.lst [.int 1,.int 1,.int (10 ^ (9:Int).toNat+7),.int (10 ^ (27:Int).toNat+1)]))
    obtain⟨f,hf⟩:∃f:Int,atI [V.int 1,.int 1,.int (10 ^ (9:Int).toNat+7),.int (10 ^ (27:Int).toNat+1)] z=some (.int f):=by
      have:z=0∨z=1∨z=2∨z=3:=by omega
      rcases this with rfl | rfl | rfl | rfl <;>exact⟨_,rfl⟩
    exact⟨lp,_,z,_,rfl,rfl,SqL.of k2,hf,k f H2 ((SameX.of t1).trans s2) d2⟩
theorem ixN_of{n j:Nat}(h:j < n):ixN n (j:Int)=some j:=by
  unfold ixN
  rw[if_pos (by omega),if_pos (by omega)]
  simp
theorem rep_one(v:V)(k:Nat):(List.replicate k [v]).flatten=List.replicate k v:=by
  induction k with
  | zero=>rfl
  | succ k ih=>rw[List.replicate_succ,List.flatten_cons,ih];rfl
def sp_lmachine:Sp:=fun vs H Q _=>∃(a:Addr) (l:List Nat) (n:Nat) (m:Int),vs=[.ref a,vT l,.int (n:Int),.int m]∧(Dr H a∧LOk l∧n≤20∧0 < m∧m≤20)∧∀st ts en v H',SameX a H H'→Dr H' a→CMok l n st ts en→CM l st ts en v H'→Q v H'
theorem ok_law_any_machine(T:Txt K mg t):FnOk Pr w K mg base CX0 4 t.law_any_machine t.d_law_any_machine ["_law_state_here","_law_letters_here","_law_many","_law_thin"] sp_lmachine:=by
  refine T.F_law_any_machine.ok sc_law_any_machine (fun vs H Q E h=>?_) (fun cdv A outer s H vs Q E hr h=>?_)
  · obtain⟨a,l,n,m,rfl,_⟩:=h
    rfl
  · obtain⟨a,l,n,m,rfl,⟨hD,L,n20,m0,m1⟩,k⟩:=h
    have zl:10000 < sizeLine:=by decide
    have l3:=L.h3
    refine⟨_,(pss_cons (ps_set (i:=4) sc_law_any_machine.nd rfl (Or.inl rfl) (pe_call (ok_law_far T) hr.m rfl T.m_law_far T.F_law_far.kp T.b_law_far .nil pass0 (pa_cons (pv 0) pa_nil))) (pss_cons (ps_set (i:=5) sc_law_any_machine.nd rfl (Or.inl rfl) (pe_lst pa_nil)) (pss_cons (ps_for PassesOwn.never rfl (pi_str (pv 1)) (pg_name (i:=6) sc_law_any_machine.nd rfl (Or.inl rfl)) (pss_cons (ps_set (i:=7) sc_law_any_machine.nd rfl (Or.inl rfl) (pe_lst pa_nil)) (pss_cons (ps_for PassesOwn.never rfl (pi_range1 rfl T.z_range (pa_cons (pv 2) pa_nil)) (pg_name (i:=8) sc_law_any_machine.nd rfl (Or.inl rfl)) (pss_cons (ps_set (i:=9) sc_law_any_machine.nd rfl (Or.inl rfl) (pe_op op_rep (pe_lst (pa_cons pe_non pa_nil)) (pv 2))) (pss_cons (ps_for PassesOwn.never rfl (pi_range1 rfl T.z_range (pa_cons (pv 2) pa_nil)) (pg_name (i:=10) sc_law_any_machine.nd rfl (Or.inl rfl)) (pss_one (ps_if (pt_cmpR op_eq (pe_call (ok_law_next T) hr.m rfl T.m_law_next T.F_law_next.kp T.b_law_next .nil pass0 (pa_cons (pv 0) (pa_cons (pv 3) pa_nil))) pe_int (nomark _)) (pss_one (ps_asg (pe_op op_mul (pv 4) (pe_op op_sub (pe_call (ok_law_next T) hr.m rfl T.m_law_next T.F_law_next.kp T.b_law_next .nil pass0 (pa_cons (pv 0) (pa_cons pe_int pa_nil))) pe_int)) (pg_sub (pv 9) (pv 10) set_list))) pss_nil))) (pss_one (ps_expr (pe_bm PySem.F.plainAttrs_list PySem.F.slot_list_append PySem.F.type_list_append mt_append (pv 7) (pa_cons (pe_callTy call_tuple_of (by rfl) T.z_tuple boot_tuple (pa_cons (pv 9) pa_nil)) pa_nil))))))) (pss_one (ps_expr (pe_bm PySem.F.plainAttrs_list PySem.F.slot_list_append PySem.F.type_list_append mt_append (pv 5) (pa_cons (pe_callTy call_tuple_of (by rfl) T.z_tuple boot_tuple (pa_cons (pv 7) pa_nil)) pa_nil))))))) (pss_one (ps_ret (pe_tup (pa_cons (pv 1) (pa_cons (pe_call (ok_law_costs T) hr.m rfl T.m_law_costs T.F_law_costs.kp T.b_law_costs .nil pass0 (pa_cons (pv 0) (pa_cons (pv 4) (pa_cons (pv 2) pa_nil)))) (pa_cons (pe_callTy call_tuple_of (by rfl) T.z_tuple boot_tuple (pa_cons (pv 5) pa_nil)) (pa_cons (pe_call (ok_law_costs T) hr.m rfl T.m_law_costs T.F_law_costs.kp T.b_law_costs .nil pass0 (pa_cons (pv 0) (pa_cons (pv 4) (pa_cons (pv 2) pa_nil)))) pa_nil)))))))))),?_⟩
    refine⟨_,rfl,a,rfl,hD,fun f H1 s1 d1=>?_⟩
    have s3:=s1
    have d3:=d1
    show gName 4 (.int f) [some (.ref a),some (vT l),some (.int (n:Int)),some (.int m),none,none,none,none,none,none,none] H1 _
    refine⟨Nat.zero_le _,fun tp ntp=>?_⟩
    have tna:=d3.ne ntp
    show gName 5 (.ref tp) [some (.ref a),some (vT l),some (.int (n:Int)),some (.int m),some (.int f),none,none,none,none,none,none] (upd H1 tp (.lst [])) _
    refine⟨_,rfl,_,rfl,L.asc,for_it (n:=l.length) (fun i σ H4=>∃v7 v8 v9 v10 v11 ys ts,σ=[some (.ref a),some (vT l),some (.int (n:Int)),some (.int m),some (.int f),some (.ref tp),v7,v8,v9,v10,v11]∧SameX a H1 H4∧Dr H4 a∧H4 tp=some (.lst ys)∧
      Ents (fun i u H=>∃r,ts[i]? = some r∧CT r u H) ys ts.length H4∧ts.length=i∧∀m∈ts,m.length=n∧∀r∈m,r.length=n) ⟨_,_,_,_,_,[],[],rfl,(SameX.refl _ _).put ntp,d3.put tna,upd_same,Ents.nil,rfl,fun _ h=>by cases h⟩ ?_ ?_⟩
    · rintro i σ H4 hi ⟨v7,v8,v9,v10,v11,ys,ts,rfl,s4,d4,k4,e4,t4,g4⟩
      refine⟨(by show i < l.toArray.size;simpa using hi),fun y G4 hy=>?_⟩
      obtain⟨rfl,c,hc,rfl⟩:=hy
      refine⟨Nat.zero_le _,fun bp nbp=>?_⟩
      have bna:=d4.ne nbp
      show gName 7 (.ref bp) [some (.ref a),some (vT l),some (.int (n:Int)),some (.int m),some (.int f),some (.ref tp),some (.str ⟨#[c]⟩),v8,v9,v10,v11] (upd G4 bp (.lst [])) _
      refine⟨_,rfl,_,rfl,(by omega),(by omega),for_range (lo:=0) (n:=(n:Int).toNat) (fun j σ H5=>∃v9 v10 v11 zs tb,σ=[some (.ref a),some (vT l),some (.int (n:Int)),some (.int m),some (.int f),some (.ref tp),some (.str ⟨#[c]⟩),some (.ref bp),v9,v10,v11]∧SameX a G4 H5∧Dr H5 a∧H5 bp=some (.lst zs)∧
        Ents (fun i u H=>∃r,tb[i]? = some r∧CR r u H) zs tb.length H5∧tb.length=j∧∀r∈tb,r.length=n) ⟨_,_,_,[],[],rfl,(SameX.refl _ _).put nbp,d4.put bna,upd_same,Ents.nil,rfl,fun _ h=>by cases h⟩ ?_ ?_⟩
      · rintro j σ H5 hj ⟨v9,v10,v11,zs,tb,rfl,s5,d5,k5,e5,b5,g5⟩
        refine⟨(by show 1≤sizeLine;omega),fun np nnp=>?_⟩
        have t6:=same_upd (o:=.lst [.non]) nnp
        have kn:upd H5 np (.lst [.non]) np=some (.lst [.non]):=upd_same
        have d6:=d5.same t6
        have s6:SameX a H5 (upd H5 np (.lst [.non])):=.of t6
        have k6:=t6 _ _ k5
        clear t6
        revert kn d6 s6 k6
        generalize upd H5 np (.lst [.non])=H6
        intro kn d6 s6 k6
        refine⟨_,rfl,np,_,_,rfl,rfl,kn,(by omega),(by omega),(by show 1 * _≤_;omega),fun rp nrp=>?_⟩
        have rna:=d6.ne nrp
        have er:(List.replicate (n:Int).toNat [V.non]).flatten=(List.replicate n (none:Option Int)).map oV:=by rw[rep_one,List.map_replicate,show(n:Int).toNat=n by omega];rfl
        rw[er]
        show gName 9 (.ref rp) [some (.ref a),some (vT l),some (.int (n:Int)),some (.int m),some (.int f),some (.ref tp),some (.str ⟨#[c]⟩),some (.ref bp),some (.int (0+(j:Int))),v10,v11] (upd H6 rp (.lst ((List.replicate n (none:Option Int)).map oV))) _
        refine⟨_,rfl,_,rfl,(by omega),(by omega),for_range (lo:=0) (n:=(n:Int).toNat) (fun k' σ H7=>∃v11 r,σ=[some (.ref a),some (vT l),some (.int (n:Int)),some (.int m),some (.int f),some (.ref tp),some (.str ⟨#[c]⟩),some (.ref bp),some (.int (0+(j:Int))),some (.ref rp),v11]∧SameX a H6 H7∧Dr H7 a∧H7 rp=some (.lst (r.map oV))∧r.length=n) ⟨_,List.replicate n none,rfl,(SameX.refl _ _).put nrp,d6.put rna,upd_same,by simp⟩ ?_ ?_⟩
        · rintro k' σ H7 hk' ⟨v11,r,rfl,s7,d7,k7,r7⟩
          have h0:(0:Int)+(j:Int)=((j:Nat):Int):=by omega
          have h1:(0:Int)+(k':Int)=((k':Nat):Int):=by omega
          refine⟨_,rfl,_,rfl,_,_,rfl,⟨d7,by omega,by omega⟩,fun z H8 s8 d8 z0 z1=>?_⟩
          refine⟨rfl,_,rfl,?_⟩
          have k8:=s8 _ _ rna k7
          refine iteI (fun _=>?_) (fun _=>?_)
          · refine⟨_,rfl,_,rfl,_,_,rfl,⟨d8,by decide,by decide⟩,fun y Ha sa da y0 y1=>?_⟩
            have ka:=sa _ _ rna k8
            have s6a:SameX a H6 Ha:=(s7.trans s8).trans sa
            refine⟨_,_,rfl,rfl,_,_,rfl,rfl,.inr ⟨by omega,by omega⟩,?_⟩
            refine⟨_,rfl,_,rfl,rp,_,_,k',rfl,rfl,ka,(by rw[h1,List.length_map];exact ixN_of (by omega)),?_⟩
            refine⟨_,r.set k' (some (f * (y - 3))),rfl,s6a.put nrp,da.put rna,by rw[List.map_set];exact upd_same,by simp[r7]⟩
          · exact⟨_,r,rfl,s7.trans s8,d8,k8,r7⟩
        · rintro σ H7 ⟨v11,r,rfl,s7,d7,k7,r7⟩
          have s57:SameX a H5 H7:=s6.trans s7
          have k7b:=s57 _ _ bna k5
          refine⟨_,rfl,.inl ⟨rfl,_,SqL.of k7b⟩,_,rfl,rp,_,rfl,.inl ⟨SqL.of k7,fun q nq=>?_⟩⟩
          have t8:=same_upd (o:=.tup (r.map oV)) nq
          have hr8:CR r (.ref q) (upd H7 q (.tup (r.map oV))):=⟨q,rfl,upd_same⟩
          have k8:=t8 _ _ k7b
          have s8:=s57.trans (.of t8)
          have d8:=d7.same t8
          clear t8
          revert hr8 k8 s8 d8
          generalize upd H7 q (.tup (r.map oV))=H8
          intro hr8 k8 s8 d8
          refine⟨bp,zs,_,rfl,rfl,k8,(by rw[e5.1,b5];omega),?_⟩
          have nx:SameT H8 (upd H8 bp (.lst (zs++[.ref q]))):=SameT_lst k8
          refine⟨_,_,_,zs++[.ref q],tb++[r],rfl,(s5.trans s8).put nbp,d8.put bna,upd_same,ents_snoc e5 (fun _ _ z=>(z.same (s8.tt d5)).same nx) (hr8.same nx),by simp[b5],fun x hx=>?_⟩
          rcases List.mem_append.mp hx with hx | hx
          · exact g5 x hx
          · rw[List.mem_singleton.mp hx];exact r7
      · rintro σ H5 ⟨v9,v10,v11,zs,tb,rfl,s5,d5,k5,e5,b5,g5⟩
        have k5t:=s5 _ _ tna k4
        refine⟨_,rfl,.inl ⟨rfl,_,SqL.of k5t⟩,_,rfl,bp,_,rfl,.inl ⟨SqL.of k5,fun q nq=>?_⟩⟩
        have t8:=same_upd (o:=.tup zs) nq
        have hr8:CT tb (.ref q) (upd H5 q (.tup zs)):=⟨q,zs,rfl,upd_same,e5.mono fun _ _ _ ⟨r,q1,q2⟩=>⟨r,q1,q2.same t8.t⟩⟩
        have k8:=t8 _ _ k5t
        have s8:=s5.trans (.of t8)
        have d8:=d5.same t8
        clear t8
        revert hr8 k8 s8 d8
        generalize upd H5 q (.tup zs)=H8
        intro hr8 k8 s8 d8
        refine⟨tp,ys,_,rfl,rfl,k8,(by rw[e4.1,t4];omega),?_⟩
        have nx:SameT H8 (upd H8 tp (.lst (ys++[.ref q]))):=SameT_lst k8
        refine⟨_,_,_,_,_,ys++[.ref q],ts++[tb],rfl,(s4.trans s8).put ntp,d8.put tna,upd_same,ents_snoc e4 (fun _ _ z=>(CT.same (s8.tt d4) z).same nx) (hr8.same nx),by simp[t4],fun x hx=>?_⟩
        rcases List.mem_append.mp hx with hx | hx
        · exact g4 x hx
        · rw[List.mem_singleton.mp hx];exact⟨by omega,g5⟩
    · rintro σ H4 ⟨v7,v8,v9,v10,v11,ys,ts,rfl,s4,d4,k4,e4,t4,g4⟩
      refine⟨(by show l.toArray.size≤l.length;simp),?_⟩
      refine⟨_,rfl,_,rfl,_,rfl,_,rfl,a,f,n,rfl,⟨d4,n20⟩,fun st sv H5 s5 d5 sl hst=>?_⟩
      have k5:=s5 _ _ tna k4
      refine⟨_,rfl,tp,_,rfl,.inl ⟨SqL.of k5,fun q nq=>?_⟩⟩
      have t6:=same_upd (o:=.tup ys) nq
      have hts:LT CT ts (.ref q) (upd H5 q (.tup ys)):=⟨q,ys,rfl,upd_same,e4.mono fun _ _ _ ⟨r,q1,q2⟩=>⟨r,q1,CT.same ((s5.tt d4).trans t6.t) q2⟩⟩
      have hst6:=hst.same t6.t
      have d6:=d5.same t6
      have s6:SameX a H (upd H5 q (.tup ys)):=((s3.trans s4).trans s5).trans (.of t6)
      clear t6
      revert hts hst6 d6 s6
      generalize upd H5 q (.tup ys)=H6
      intro hts hst6 d6 s6
      refine⟨_,rfl,_,rfl,_,rfl,a,f,n,rfl,⟨d6,n20⟩,fun en ev H7 s7 d7 el hen=>?_⟩
      refine⟨(by show 4≤sizeLine;omega),fun q2 nq2=>?_⟩
      have t8:=same_upd (o:=.tup [vT l,sv,.ref q,ev]) nq2
      have t78:SameT H6 (upd H7 q2 (.tup [vT l,sv,.ref q,ev])):=(s7.tt d6).trans t8.t
      exact k st ts en _ _ ((s6.trans s7).trans (.of t8)) (d7.same t8) ⟨L,n20,sl,t4,g4,el⟩ ⟨q2,sv,_,ev,rfl,upd_same,hst6.same t78,hts.same (fun _ _=>CT.same t78) t78,hen.same t8.t⟩
def sumI:List Int→Int
  | []=>0
  | x::r=>x+sumI r
theorem sumI_snoc(l:List Int)(x:Int):sumI (l++[x])=sumI l+x:=by
  induction l with
  | nil=>simp[sumI]
  | cons y l ih=>simp only[List.cons_append,sumI,ih];omega
theorem Wy_ds{W:Nat→Nat→Nat→Int→Prop}{i j:Nat}{ww p:List Nat}{c:Int}(h:Wy W i j ww p c):∃ds:List Int,ds.length=ww.length∧c=sumI ds∧∀(k x y z:Nat) (d:Int),ww[k]? = some x→p[k]? = some y→p[k+1]? = some z→ds[k]? = some d→W y z x d:=by
  induction h with
  | one=>exact⟨[],rfl,rfl,fun k x y z d e=>by cases e⟩
  | snoc h e ih=>
    rename_i j k x w p c d
    obtain⟨ds,dl,rfl,hd⟩:=ih
    have pl:=h.len
    refine⟨ds++[d],by simp[dl],(sumI_snoc _ _).symm,fun q x' y z d' e1 e2 e3 e4=>?_⟩
    have hq:q < w.length+1:=by
      have:=(List.getElem?_eq_some_iff.mp e1).1
      simpa using this
    by_cases hl:q < w.length
    · rw[List.getElem?_append_left hl]at e1
      rw[List.getElem?_append_left (by omega)]at e2 e3
      rw[List.getElem?_append_left (by omega)]at e4
      exact hd q x' y z d' e1 e2 e3 e4
    · have eq:q=w.length:=by omega
      subst eq
      rw[List.getElem?_append_right (Nat.le_refl _)]at e1
      rw[List.getElem?_append_left (by omega)]at e2
      rw[List.getElem?_append_right (by omega)]at e3
      rw[List.getElem?_append_right (by omega)]at e4
      have e1:some x=some x':=by simpa using e1
      have e3:some k=some z:=by rw[← e3,show w.length+1 - p.length=0 by omega];rfl
      have e4:some d=some d':=by rw[← e4,show w.length - ds.length=0 by omega];rfl
      cases e1;cases e3;cases e4
      have la:=h.last
      rw[List.getLast?_eq_getElem?,show p.length - 1=w.length by omega,e2]at la
      cases la
      exact e
theorem WL_idx{l:List Nat}{ts:List (List (List (Option Int)))}(L:LOk l){i j x:Nat}{c:Int}(h:WL l ts i j x c):x∈l∧∃m,ts[l.idxOf x]? = some m∧at2 m i j=some c:=by
  obtain⟨a,m,h1,h2,h3⟩:=h
  have hx:=List.mem_of_getElem? h1
  refine⟨hx,m,?_,h3⟩
  have hi:=List.idxOf_lt_length_of_mem hx
  have hal:=(List.getElem?_eq_some_iff.mp h1).1
  have e:l.idxOf x=a:=by
    have e1:l[l.idxOf x]'hi=x:=List.getElem_idxOf hi
    have e2:l[a]'hal=x:=(List.getElem?_eq_some_iff.mp h1).2
    exact(List.getElem_inj L.nd).mp (e1.trans e2.symm)
  rw[e];exact h2
theorem iteN{b:Bool}{A B:Prop}(h:b=false)(q:B):if b=true then A else B:=by subst h;exact iteF q
theorem iteY{b:Bool}{A B:Prop}(h:b=true)(q:A):if b=true then A else B:=by subst h;exact iteT q
theorem neF{x y:V}(h:x=y):(!decide (x=y))=false:=by rw[decide_eq_true h];rfl
def sp_lwalk:Sp:=fun vs H Q _=>∃mv pq l n st ts en ww p i j c,vs=[mv,.ref pq]∧(CM l st ts en mv H∧CMok l n st ts en∧WW pq ww p H∧Wy (WL l ts) i j ww p c∧(∀x∈p,x < n)∧ww.length≤40)∧∀H',Same H H'→Q (.int c) H'
theorem ok_law_walk(T:Txt K mg t):FnOk Pr w K mg base CX0 3 t.law_walk t.d_law_walk ["_law_machine","_law_pair"] sp_lwalk:=by
  refine T.F_law_walk.ok sc_law_walk (fun vs H Q E h=>?_) (fun cdv A outer s H vs Q E hr h=>?_)
  · obtain⟨mv,pq,l,n,st,ts,en,ww,p,i,j,c,rfl,_⟩:=h
    rfl
  · obtain⟨mv,pq,l,n,st,ts,en,ww,p,i,j,c,rfl,⟨hM,O,⟨r,hq,hr'⟩,wy,pn,wl⟩,k⟩:=h
    have zl:10000 < sizeLine:=by decide
    have n20:=O.n20
    have pl:=wy.len
    obtain⟨ds,dl,rfl,hd⟩:=Wy_ds wy
    obtain⟨mp,sv,tv,ev,rfl,hp,⟨sp,rfl,hsp⟩,ht,he⟩:=id hM
    obtain⟨tq,tvs,rfl,htq,et⟩:=id ht
    have lp:(wV p).length=p.length:=by unfold wV;rw[List.length_map]
    refine⟨_,(pss_cons (ps_if (PW.pt (pw_or (pt_not (pt_val (pe_callB call_isi (by rfl) T.z_isinstance boot_isinstance (pa_cons (pv 1) (pa_cons (pe_bltn (v:=.ty "tuple") rfl T.z_tuple boot_tuple rfl) pa_nil))))) (pw_or (pt_cmpR op_ne (pe_callB call_len (by rfl) T.z_len PySem.boot_len (pa_cons (pv 1) pa_nil)) pe_int (nomark _)) (pw_or (pt_not (pt_val (pe_callB call_isi (by rfl) T.z_isinstance boot_isinstance (pa_cons (pe_ix ix_tup (pv 1) pe_int (fun _ _=>rfl)) (pa_cons (pe_bltn (v:=.ty "str") rfl T.z_str boot_str rfl) pa_nil))))) (pw_or1 (pt_not (pt_val (pe_callB call_isi (by rfl) T.z_isinstance boot_isinstance (pa_cons (pe_ix ix_tup (pv 1) pe_int (fun _ _=>rfl)) (pa_cons (pe_bltn (v:=.ty "tuple") rfl T.z_tuple boot_tuple rfl) pa_nil)))))))))) (pss_one (ps_ret pe_non)) pss_nil) (pss_cons (ps_asg (pv 1) (pg_tup rfl (pgs_cons (pg_name (i:=2) sc_law_walk.nd rfl (Or.inl rfl)) (pgs_cons (pg_name (i:=3) sc_law_walk.nd rfl (Or.inl rfl)) pgs_nil)))) (pss_cons (ps_if (PW.pt (pw_or (pt_cmpR op_ne (pe_callB call_len (by rfl) T.z_len PySem.boot_len (pa_cons (pv 3) pa_nil)) (pe_op op_add (pe_callB call_len (by rfl) T.z_len PySem.boot_len (pa_cons (pv 2) pa_nil)) pe_int) (nomark _)) (pw_or1 (pt_not (pt_val (pe_callB (call_all rfl) (by rfl) T.z_all boot_all (pa_cons (pe_comp (xs:=["_law_letter"]) rfl (show CompOk ["_law_machine","_law_pair","_law_word","_law_way","_law_k","_law_total","_law_cost"] (defScope s_law_walk) _ from⟨rfl,by decide +kernel,by decide +kernel,by decide +kernel,by decide +kernel,by decide +kernel⟩) (pi_str (pv 2)) (fun _ _ _ _ _=>(pg_name (i:=7) (by show List.Nodup (["_law_machine","_law_pair","_law_word","_law_way","_law_k","_law_total","_law_cost","_law_letter"]:List Str);decide +kernel) rfl (Or.inl rfl))) (fun _ _ _ _ _=>(pe_cmpR op_in_str (pv 7) (pe_ix (show IxR _ (rIxT K)from ix_tup) (pv 0) pe_int (fun _ _=>rfl)) (by with_unfolding_all rfl)))) pa_nil))))))) (pss_one (ps_ret pe_non)) pss_nil) (pss_cons (ps_for PassesOwn.never rfl (pi_tup (pv 3)) (pg_name (i:=4) sc_law_walk.nd rfl (Or.inl rfl)) (pss_one (ps_if (PW.pt (pw_or (pt_val (pe_callB call_isi (by rfl) T.z_isinstance boot_isinstance (pa_cons (pv 4) (pa_cons (pe_bltn (v:=.ty "bool") rfl T.z_bool boot_bool rfl) pa_nil)))) (pw_or (pt_not (pt_val (pe_callB call_isi (by rfl) T.z_isinstance boot_isinstance (pa_cons (pv 4) (pa_cons (pe_bltn (v:=.ty "int") rfl T.z_int boot_int rfl) pa_nil))))) (pw_or (pt_cmpR op_lt (pv 4) pe_int (nomark _)) (pw_or1 (pt_cmpR op_ge (pv 4) (pe_callB call_len (by rfl) T.z_len PySem.boot_len (pa_cons (pe_ix ix_tup (pv 0) pe_int (fun _ _=>rfl)) pa_nil)) (nomark _))))))) (pss_one (ps_ret pe_non)) pss_nil))) (pss_cons (ps_set (i:=5) sc_law_walk.nd rfl (Or.inl rfl) pe_int) (pss_cons (ps_for PassesOwn.never rfl (pi_range1 rfl T.z_range (pa_cons (pe_callB call_len (by rfl) T.z_len PySem.boot_len (pa_cons (pv 2) pa_nil)) pa_nil)) (pg_name (i:=4) sc_law_walk.nd rfl (Or.inl rfl)) (pss_cons (ps_set (i:=6) sc_law_walk.nd rfl (Or.inl rfl) (pe_ix ix_tup (pe_ix ix_tup (pe_ix ix_tup (pe_ix ix_tup (pv 0) pe_int (fun _ _=>rfl)) (pe_bm PySem.F.plainAttrs_str PySem.F.slot_str_index PySem.F.type_str_index mt_indexS (pe_ix ix_tup (pv 0) pe_int (fun _ _=>rfl)) (pa_cons (pe_ix ix_str (pv 2) (pv 4) (fun _ _=>rfl)) pa_nil)) (fun _ _=>rfl)) (pe_ix ix_tup (pv 3) (pv 4) (fun _ _=>rfl)) (fun _ _=>rfl)) (pe_ix ix_tup (pv 3) (pe_op op_add (pv 4) pe_int) (fun _ _=>rfl)) (fun _ _=>rfl))) (pss_cons (ps_if (pt_cmpR op_isN (pv 6) pe_non (nomark _)) (pss_one (ps_ret pe_non)) pss_nil) (pss_one (ps_aug (i:=5) sc_law_walk.nd rfl (Or.inl rfl) (pv 6) ip_add))))) (pss_one (ps_ret (pv 5))))))))),?_⟩
    have l2:LenV K (.ref pq) H 2:=.inr ⟨_,SqT.of hq,rfl⟩
    have lw:LenV K (.ref r) H p.length:=.inr ⟨_,SqT.of hr',lp.symm⟩
    have lww:LenV K (vT ww) H (tx ww).length:=⟨by rw[tx_len];omega,rfl⟩
    rw[tx_len]at lww
    refine⟨_,rfl,_,_,_,_,rfl,.tup hq,T.k_tt,_,rfl,iteN rfl ?_⟩
    refine⟨_,rfl,_,_,rfl,l2,rfl,_,rfl,iteN (neF rfl) ?_⟩
    refine⟨_,rfl,_,_,_,_,rfl,rfl,SqT.of hq,rfl,_,_,_,_,rfl,.str _,T.k_ss,_,rfl,iteN rfl ?_⟩
    refine⟨_,rfl,_,_,_,_,rfl,rfl,SqT.of hq,rfl,_,_,_,_,rfl,.tup hr',T.k_tt,_,rfl,iteN rfl ?_⟩
    refine⟨_,rfl,pq,_,rfl,SqT.of hq,rfl,_,_,rfl,_,_,rfl,rfl,?_⟩
    show _
    refine⟨_,rfl,_,_,rfl,lw,_,rfl,_,_,rfl,lww,_,_,rfl,rfl,rfl,_,rfl,iteN (neF (by rw[pl];rfl)) ?_⟩
    have hwx:∀(k x:Nat),ww[k]? = some x→∃(y z:Nat) (d:Int),p[k]? = some y∧p[k+1]? = some z∧ds[k]? = some d∧WL l ts y z x d:=fun k x e=>by
      have hk:=(List.getElem?_eq_some_iff.mp e).1
      refine⟨p[k]'(by omega),p[k+1]'(by omega),ds[k]'(by omega),by simp,by simp,by simp,?_⟩
      exact hd k x _ _ _ e (by simp) (by simp) (by simp)
    have wasc:(tx ww).cps.all (· < 128)=true:=by
      show ww.toArray.all (· < 128)=true
      simp only[List.all_toArray,List.all_eq_true,decide_eq_true_eq]
      intro x hx
      obtain⟨k,hk⟩:=List.getElem?_of_mem hx
      obtain⟨y,z,d,_,_,_,h⟩:=hwx k x hk
      exact O.lk.as x (WL_idx O.lk h).1
    refine⟨_,rfl,tx ww,rfl,wasc,comp_go (n:=ww.length) (fun i ys H2=>H2=H∧ys=(List.replicate i true).map V.bl) (by omega) ⟨rfl,rfl⟩ (fun i ys H2 h=>by rw[h.2];simp) ?_ ?_ ?_⟩
    · rintro i ys H2 hi ⟨rfl,rfl⟩
      refine⟨(by show i < ww.toArray.size;simpa using hi),fun y G4 hy=>?_⟩
      obtain⟨rfl,x,hx,rfl⟩:=hy
      have hx:ww[i]? = some x:=by simpa [tx] using hx
      obtain⟨y,z,d,_,_,_,h⟩:=hwx i x hx
      have hxl:=(WL_idx O.lk h).1
      refine⟨⟨[some _],rfl,rfl⟩,_,rfl,_,rfl,_,_,_,_,rfl,rfl,SqT.of hp,rfl,tx [x],tx l,rfl,rfl,rfl,?_⟩
      rw[occ_of O.lk hxl,List.replicate_succ',List.map_append];rfl
    · rintro ys H2 ⟨rfl,rfl⟩
      exact(by show ww.toArray.size≤ww.length;simp)
    · rintro ys H2 ap ⟨rfl,rfl⟩ nap
      have t1:=same_upd (o:=.lst ((List.replicate ww.length true).map V.bl)) nap
      have ka:upd H2 ap (.lst ((List.replicate ww.length true).map V.bl)) ap=some (.lst ((List.replicate ww.length true).map V.bl)):=upd_same
      revert t1 ka
      generalize upd H2 ap (.lst ((List.replicate ww.length true).map V.bl))=H1
      intro t1 ka
      refine⟨ap,_,rfl,SqL.of ka,_,rfl,iteN (by simp) ?_⟩
      have hp1:=t1 _ _ hp
      have hr1:=t1 _ _ hr'
      have hsp1:=t1 _ _ hsp
      have htq1:=t1 _ _ htq
      have ls:LenV K (.ref sp) H1 n:=.inr ⟨_,SqT.of hsp1,by rw[List.length_map,O.sl]⟩
      have lww1:LenV K (vT ww) H1 (tx ww).length:=⟨by rw[tx_len];omega,rfl⟩
      rw[tx_len]at lww1
      have pat:∀{q:Nat} {y:Nat},p[q]? = some y→(wV p)[q]? = some (.int (y:Int)):=fun{q y} e=>by unfold wV;rw[List.getElem?_map,e];rfl
      refine⟨_,rfl,r,rfl,⟨_,SqT.of hr1⟩,for_it (n:=p.length) (fun q σ H3=>H3=H1∧∃v4,σ=[some (.ref mp),some (.ref pq),some (vT ww),some (.ref r),v4,none,none]) ⟨rfl,_,rfl⟩ ?_ ?_⟩
      · rintro q σ H3 hq' ⟨rfl,v4,rfl⟩
        obtain⟨y,ey⟩:∃y,p[q]? = some y:=⟨_,List.getElem?_eq_getElem hq'⟩
        have yn:=pn y (List.mem_of_getElem? ey)
        refine⟨⟨_,_,SqT.of hr1,pat ey⟩,fun u G3 hu=>?_⟩
        obtain⟨rfl,hu⟩:=hu
        have:=hu _ (SqT.of hr1)
        rw[pat ey]at this;cases this
        refine⟨_,rfl,_,_,_,_,rfl,.int _,T.k_ib,_,rfl,iteN rfl ?_⟩
        refine⟨_,rfl,_,_,_,_,rfl,.int _,T.k_ii,_,rfl,iteN rfl ?_⟩
        refine⟨_,rfl,_,_,rfl,rfl,_,rfl,iteN (decide_eq_false (by omega)) ?_⟩
        refine⟨_,rfl,_,rfl,_,_,_,_,rfl,rfl,SqT.of hp1,rfl,_,_,rfl,ls,_,_,rfl,rfl,_,rfl,iteN (decide_eq_false (by omega)) ?_⟩
        exact⟨rfl,_,rfl⟩
      · rintro σ H3 ⟨rfl,v4,rfl⟩
        refine⟨⟨_,SqT.of hr1,by rw[lp];exact Nat.le_refl _⟩,?_⟩
        refine⟨_,rfl,_,_,rfl,lww1,_,rfl,(by omega),(by omega),for_range (lo:=0) (n:=(ww.length:Int).toNat) (fun q σ H4=>H4=H3∧∃v4 v6,σ=[some (.ref mp),some (.ref pq),some (vT ww),some (.ref r),v4,some (.int (sumI (ds.take q))),v6]) ⟨rfl,_,_,rfl⟩ ?_ ?_⟩
        · rintro q σ H4 hq' ⟨rfl,v4,v6,rfl⟩
          have q0:(0:Int)+(q:Int)=((q:Nat):Int):=by omega
          rw[q0]
          obtain⟨x,ex⟩:∃x,ww[q]? = some x:=⟨_,List.getElem?_eq_getElem (by omega)⟩
          obtain⟨y,z,d,ey,ez,ed,hW⟩:=hwx q x ex
          obtain⟨hxl,m,em,ea⟩:=WL_idx O.lk hW
          have hm:=O.tb m (List.mem_of_getElem? em)
          obtain⟨yn,zn⟩:=at2_lt ea hm
          have il:=(List.getElem?_eq_some_iff.mp em).1
          obtain⟨u,eu,m',em',hu⟩:=et.2 (l.idxOf x) il
          rw[em]at em';cases em'
          obtain⟨p2,vs2,q2,r2,rfl,h2,a2,er2,hq2⟩:=(CT.same t1.t hu).row (i:=y) (by rw[hm.1];exact yn)
          have rl:=hm.2 r2 (List.mem_of_getElem? er2)
          have a3:=at_oV (r:=r2) (j:=z) (by omega)
          rw[← at2_row er2,ea]at a3
          have ax:atI (tx ww).cps.toList ((q:Nat):Int)=some x:=atI_nat (by show ww.toArray.toList[q]? = some x;simpa using ex)
          have q1:((q:Nat):Int)+1=((q+1:Nat):Int):=by omega
          refine⟨_,rfl,_,_,_,_,rfl,rfl,SqT.of hp1,rfl,_,rfl,_,_,_,_,rfl,rfl,SqT.of hp1,rfl,?_⟩
          refine⟨rfl,_,rfl,_,rfl,tx ww,_,x,rfl,rfl,(by rw[tx_len];omega),ax,tx l,tx [x],l.idxOf x,[],rfl,rfl,occ_of O.lk hxl,tq,tvs,_,_,rfl,rfl,SqT.of htq1,atI_nat eu,?_⟩
          refine⟨_,rfl,_,rfl,_,_,_,_,rfl,rfl,SqT.of hr1,atI_nat (pat ey),_,_,_,_,rfl,rfl,SqT.of h2,a2,?_⟩
          refine⟨_,rfl,_,rfl,_,_,rfl,rfl,_,_,_,_,rfl,rfl,SqT.of hr1,(by rw[q1];exact atI_nat (pat ez)),_,_,_,_,rfl,rfl,SqT.of hq2,a3,?_⟩
          show gName 6 (.int d) [some (.ref mp),some (.ref pq),some (vT ww),some (.ref r),some (.int (q:Int)),some (.int (sumI (ds.take q))),v6] H4 _
          refine⟨_,rfl,rfl,_,rfl,iteN (decide_eq_false (fun e=>by cases e)) ?_⟩
          refine⟨_,rfl,_,rfl,_,_,rfl,rfl,rfl,some (.int (q:Int)),some (.int d),?_⟩
          rw[List.take_succ,ed,show(some d).toList=[d]from rfl,sumI_snoc]
          rfl
        · rintro σ H4 ⟨rfl,v4,v6,rfl⟩
          refine⟨_,rfl,?_⟩
          rw[show(ww.length:Int).toNat=ww.length by omega,← dl,List.take_length]
          exact k _ t1
theorem Wy_lt{W:Nat→Nat→Nat→Int→Prop}{n i j:Nat}{ww p:List Nat}{c:Int}(h:Wy W i j ww p c)(q:∀a b x d,W a b x d→a < n∧b < n)(hi:i < n):∀y∈p,y < n:=by
  induction h with
  | one=>intro y hy;rw[List.mem_singleton.mp hy];exact hi
  | snoc _ e ih=>
    intro y hy
    rcases List.mem_append.mp hy with hy | hy
    · exact ih y hy
    · rw[List.mem_singleton.mp hy];exact(q _ _ _ _ e).2
theorem WL_lt{l:List Nat}{n:Nat}{st en:List (Option Int)}{ts:List (List (List (Option Int)))}(O:CMok l n st ts en){a b x:Nat}{d:Int}(h:WL l ts a b x d):a < n∧b < n:=by
  obtain⟨i,m,_,h2,h3⟩:=h
  exact at2_lt h3 (O.tb m (List.mem_of_getElem? h2))
theorem wV_first{W:Nat→Nat→Nat→Int→Prop}{i j:Nat}{ww p:List Nat}{c:Int}(h:Wy W i j ww p c):atI (wV p) 0=some (.int (i:Int)):=atI_nat (j:=0) (by unfold wV;rw[List.getElem?_map,h.first];rfl)
theorem atI_last{xs:List V}{v:V}(h:xs.getLast? = some v):atI xs (-1)=some v:=by
  have hl:0 < xs.length:=by
    cases xs with
    | nil=>cases h
    | cons a r=>simp
  unfold atI ixN
  rw[if_neg (by omega),if_pos (by omega)]
  show xs[((-1:Int)+(xs.length:Int)).toNat]? = some v
  rw[List.getLast?_eq_getElem?]at h
  rw[show((-1:Int)+(xs.length:Int)).toNat=xs.length - 1 by omega]
  exact h
theorem wV_last{W:Nat→Nat→Nat→Int→Prop}{i j:Nat}{ww p:List Nat}{c:Int}(h:Wy W i j ww p c):atI (wV p) (-1)=some (.int (j:Int)):=atI_last (by unfold wV;rw[List.getLast?_map,h.last];rfl)
theorem none_in{ns:List Int}{ua:Addr}{H:Hp}{Q:VK}(h:H ua=some (.lst (ns.map V.int)))(q:Q (.bl false) H):rInD K false .non (.ref ua) H Q:=by
  refine⟨.none,ns.map PyData.int,.non,Is.lst (SqL.of h) (isAll_ints _),by simp[shaped,PyData.canLay0,PyData.depth],shaped_ints _,fun e he=>?_,?_⟩
  · obtain⟨i,_,rfl⟩:=List.mem_map.mp he
    simp[noMix]
  · have e:((ns.map PyData.int).any fun y=>PySem.Spec.same y .none)=false:=by
      rw[List.any_eq_false]
      intro y hy
      obtain⟨i,_,rfl⟩:=List.mem_map.mp hy
      simp[PySem.Spec.same]
    rw[e];exact q
structure Fa(l:List Nat)(n:Nat)(st:List (Option Int))(ts:List (List (List (Option Int))))(en:List (Option Int))(w1 p1 w2 p2 w3 p3:List Nat)(x i1 i3:Nat)(d1 d2 d3:Int):Prop where
  xn:x < n
  y1:Wy (WL l ts) i1 x w1 p1 d1
  y2:Wy (WL l ts) x x w2 p2 d2
  y3:Wy (WL l ts) x i3 w3 p3 d3
  l1:w1.length≤n - 1
  l2:w2.length≤n
  l3:w3.length≤n - 1
  o1:∃o,org st i1=some o
  o3:∃o,org en i3=some o
  ng:d2 < 0
def sp_lfalls:Sp:=fun vs H Q _=>∃mv q l n st ts en a b c w1 p1 w2 p2 w3 p3 x i1 i3 d1 d2 d3,vs=[mv,.ref q]∧(CM l st ts en mv H∧CMok l n st ts en∧H q=some (.tup [sFalls,.ref a,.ref b,.ref c])∧WW a w1 p1 H∧WW b w2 p2 H∧WW c w3 p3 H∧Fa l n st ts en w1 p1 w2 p2 w3 p3 x i1 i3 d1 d2 d3)∧∀H',Same H H'→Q (.bl true) H'
theorem ok_law_falls(T:Txt K mg t):FnOk Pr w K mg base CX0 4 t.law_falls t.d_law_falls ["_law_machine","_law_answer"] sp_lfalls:=by
  refine T.F_law_falls.ok sc_law_falls (fun vs H Q E h=>?_) (fun cdv A outer s H vs Q E hr h=>?_)
  · obtain⟨mv,q,l,n,st,ts,en,a,b,c,w1,p1,w2,p2,w3,p3,x,i1,i3,d1,d2,d3,rfl,_⟩:=h
    rfl
  · obtain⟨mv,q,l,n,st,ts,en,a,b,c,w1,p1,w2,p2,w3,p3,x,i1,i3,d1,d2,d3,rfl,⟨hM,O,hq,h1,h2,h3,F⟩,k⟩:=h
    have zl:10000 < sizeLine:=by decide
    have n20:=O.n20
    have f1:=F.l1
    have f2:=F.l2
    have f3:=F.l3
    have xn:=F.xn
    have g1:=F.y1.len
    have g2:=F.y2.len
    have g3:=F.y3.len
    obtain⟨o1,ho1⟩:=F.o1
    obtain⟨o3,ho3⟩:=F.o3
    have b1:i1 < n:=by have:=org_lt ho1;rw[O.sl]at this;exact this
    have b3:i3 < n:=by have:=org_lt ho3;rw[O.el]at this;exact this
    have v1:=Wy_lt F.y1 (fun _ _ _ _ h=>WL_lt O h) b1
    have v2:=Wy_lt F.y2 (fun _ _ _ _ h=>WL_lt O h) xn
    have v3:=Wy_lt F.y3 (fun _ _ _ _ h=>WL_lt O h) xn
    have lq:LenV K (.ref q) H 4:=.inr ⟨_,SqT.of hq,rfl⟩
    refine⟨_,(pss_cons (ps_if (PW.pt (pw_or (pt_not (pt_val (pe_callB call_isi (by rfl) T.z_isinstance boot_isinstance (pa_cons (pv 1) (pa_cons (pe_bltn (v:=.ty "tuple") rfl T.z_tuple boot_tuple rfl) pa_nil))))) (pw_or (pt_cmpR op_ne (pe_callB call_len (by rfl) T.z_len PySem.boot_len (pa_cons (pv 1) pa_nil)) pe_int (nomark _)) (pw_or1 (pt_cmpR op_ne (pe_ix ix_tup (pv 1) pe_int (fun _ _=>rfl)) pe_str (nomark _)))))) (pss_one (ps_ret pe_bl)) pss_nil) (pss_cons (ps_setC (i₀:=2) (xs:=["_law_pair"]) sc_law_falls.nd rfl (Or.inl rfl) rfl (show CompOk ["_law_machine","_law_answer","_law_costs_here","_law_one","_law_ring","_law_other","_law_many"] (defScope s_law_falls) _ from⟨rfl,by decide +kernel,by decide +kernel,by decide +kernel,by decide +kernel,by decide +kernel⟩) (pi_tup (pe_slice sl_tupA (pv 1) (po_some pe_int) po_none)) (fun _ _ _ _ _=>(pg_name (i:=7) (by show List.Nodup (["_law_machine","_law_answer","_law_costs_here","_law_one","_law_ring","_law_other","_law_many","_law_pair"]:List Str);decide +kernel) rfl (Or.inl rfl))) (fun _ _ _ _ _=>(pe_call (ok_law_walk (w:=w) (base:=base) T) hr.m rfl T.m_law_walk T.F_law_walk.kp T.b_law_walk .nil pass0 (pa_cons (pv 0) (pa_cons (pv 7) pa_nil))))) (pss_cons (ps_if (PW.pt (pw_or (pt_cmpR (op_inD hr.units1) pe_non (pv 2) (by with_unfolding_all rfl)) (pw_or (pt_cmpR op_ge (pe_ix ix_list (pv 2) pe_int (fun _ _=>rfl)) pe_int (nomark _)) (pw_or1 (pt_cmpR op_eq (pe_callB call_len (by rfl) T.z_len PySem.boot_len (pa_cons (pe_ix ix_tup (pe_ix ix_tup (pv 1) pe_int (fun _ _=>rfl)) pe_int (fun _ _=>rfl)) pa_nil)) pe_int (nomark _)))))) (pss_one (ps_ret pe_bl)) pss_nil) (pss_cons (ps_asg (pe_comp (xs:=["_law_pair"]) rfl (show CompOk ["_law_machine","_law_answer","_law_costs_here","_law_one","_law_ring","_law_other","_law_many"] (defScope s_law_falls) _ from⟨rfl,by decide +kernel,by decide +kernel,by decide +kernel,by decide +kernel,by decide +kernel⟩) (pi_tup (pe_slice sl_tupA (pv 1) (po_some pe_int) po_none)) (fun _ _ _ _ _=>(pg_name (i:=7) (by show List.Nodup (["_law_machine","_law_answer","_law_costs_here","_law_one","_law_ring","_law_other","_law_many","_law_pair"]:List Str);decide +kernel) rfl (Or.inl rfl))) (fun _ _ _ _ _=>(pe_ix (show IxR _ (rIxT K)from ix_tup) (pv 7) pe_int (fun _ _=>rfl)))) (pg_lst rfl (pgs_cons (pg_name (i:=3) sc_law_falls.nd rfl (Or.inl rfl)) (pgs_cons (pg_name (i:=4) sc_law_falls.nd rfl (Or.inl rfl)) (pgs_cons (pg_name (i:=5) sc_law_falls.nd rfl (Or.inl rfl)) pgs_nil))))) (pss_cons (ps_set (i:=6) sc_law_falls.nd rfl (Or.inl rfl) (pe_callB call_len (by rfl) T.z_len PySem.boot_len (pa_cons (pe_ix ix_tup (pv 0) pe_int (fun _ _=>rfl)) pa_nil))) (pss_cons (ps_if (PW.pt (pw_or (pt_cmpR op_gt (pe_callB call_len (by rfl) T.z_len PySem.boot_len (pa_cons (pv 3) pa_nil)) (pv 6) (nomark _)) (pw_or (pt_cmpR op_gt (pe_callB call_len (by rfl) T.z_len PySem.boot_len (pa_cons (pv 4) pa_nil)) (pe_op op_add (pv 6) pe_int) (nomark _)) (pw_or1 (pt_cmpR op_gt (pe_callB call_len (by rfl) T.z_len PySem.boot_len (pa_cons (pv 5) pa_nil)) (pv 6) (nomark _)))))) (pss_one (ps_ret pe_bl)) pss_nil) (pss_cons (ps_if (PW.pt (pw_or (pt_cmpR op_ne (pe_ix ix_tup (pv 3) (pe_un un_neg pe_int) (fun _ _=>rfl)) (pe_ix ix_tup (pv 4) pe_int (fun _ _=>rfl)) (nomark _)) (pw_or (pt_cmpR op_ne (pe_ix ix_tup (pv 4) (pe_un un_neg pe_int) (fun _ _=>rfl)) (pe_ix ix_tup (pv 4) pe_int (fun _ _=>rfl)) (nomark _)) (pw_or1 (pt_cmpR op_ne (pe_ix ix_tup (pv 5) pe_int (fun _ _=>rfl)) (pe_ix ix_tup (pv 4) pe_int (fun _ _=>rfl)) (nomark _)))))) (pss_one (ps_ret pe_bl)) pss_nil) (pss_one (ps_ret (pe_and (pe_cmpR op_notN (pe_ix ix_tup (pe_ix ix_tup (pv 0) pe_int (fun _ _=>rfl)) (pe_ix ix_tup (pv 3) pe_int (fun _ _=>rfl)) (fun _ _=>rfl)) pe_non (nomark _)) (pe_one (pe_cmpR op_notN (pe_ix ix_tup (pe_ix ix_tup (pv 0) pe_int (fun _ _=>rfl)) (pe_ix ix_tup (pv 5) (pe_un un_neg pe_int) (fun _ _=>rfl)) (fun _ _=>rfl)) pe_non (nomark _))))))))))))),?_⟩
    refine⟨_,rfl,_,_,_,_,rfl,.tup hq,T.k_tt,_,rfl,iteN rfl ?_⟩
    refine⟨_,rfl,_,_,rfl,lq,rfl,_,rfl,iteN (neF rfl) ?_⟩
    refine⟨_,rfl,_,_,_,_,rfl,rfl,SqT.of hq,rfl,rfl,_,rfl,iteN (neF rfl) ?_⟩
    refine⟨_,rfl,_,rfl,q,_,rfl,SqT.of hq,hq,fun sl H1 t1 hsl=>?_⟩
    have ec:cutV [sFalls,V.ref a,.ref b,.ref c] (some 1) none=[V.ref a,.ref b,.ref c]:=rfl
    rw[ec]at hsl
    have wl1:w1.length≤40∧w2.length≤40∧w3.length≤40:=by omega
    refine⟨sl,rfl,⟨_,SqT.of hsl⟩,comp_go (n:=3) (fun i ys H2=>Same H1 H2∧ys=([d1,d2,d3].take i).map V.int∧ys.length=i) (by omega) ⟨Same.refl _,rfl,rfl⟩ (fun i ys H2 h=>h.2.2) ?_ ?_ ?_⟩
    · rintro i ys H2 hi ⟨s2,rfl,_⟩
      have hM2:=hM.same (t1.trans s2).t
      have hsl2:=s2 _ _ hsl
      have e1:=h1.same (t1.trans s2).t
      have e2:=h2.same (t1.trans s2).t
      have e3:=h3.same (t1.trans s2).t
      rcases(by omega:i=0∨i=1∨i=2)with rfl | rfl | rfl
      · refine⟨⟨_,_,SqT.of hsl2,rfl⟩,fun y G3 hy=>?_⟩
        obtain⟨rfl,hy⟩:=hy
        have:=hy _ (SqT.of hsl2)
        cases this
        exact⟨⟨[some _],rfl,rfl⟩,_,rfl,_,rfl,mv,a,l,n,st,ts,en,w1,p1,i1,x,d1,rfl,⟨hM2,O,e1,F.y1,v1,wl1.1⟩,fun H3 t3=>⟨s2.trans t3,rfl,rfl⟩⟩
      · refine⟨⟨_,_,SqT.of hsl2,rfl⟩,fun y G3 hy=>?_⟩
        obtain⟨rfl,hy⟩:=hy
        have:=hy _ (SqT.of hsl2)
        cases this
        exact⟨⟨[some _],rfl,rfl⟩,_,rfl,_,rfl,mv,b,l,n,st,ts,en,w2,p2,x,x,d2,rfl,⟨hM2,O,e2,F.y2,v2,wl1.2.1⟩,fun H3 t3=>⟨s2.trans t3,rfl,rfl⟩⟩
      · refine⟨⟨_,_,SqT.of hsl2,rfl⟩,fun y G3 hy=>?_⟩
        obtain⟨rfl,hy⟩:=hy
        have:=hy _ (SqT.of hsl2)
        cases this
        exact⟨⟨[some _],rfl,rfl⟩,_,rfl,_,rfl,mv,c,l,n,st,ts,en,w3,p3,x,i3,d3,rfl,⟨hM2,O,e3,F.y3,v3,wl1.2.2⟩,fun H3 t3=>⟨s2.trans t3,rfl,rfl⟩⟩
    · rintro ys H2 ⟨s2,rfl,_⟩
      exact⟨_,SqT.of (s2 _ _ hsl),Nat.le_refl _⟩
    rintro ys H2 cl ⟨s2,rfl,_⟩ ncl
    have t3:=same_upd (o:=.lst (([d1,d2,d3].take 3).map V.int)) ncl
    have kc:upd H2 cl (.lst (([d1,d2,d3].take 3).map V.int)) cl=some (.lst ([d1,d2,d3].map V.int)):=upd_same
    have s3:=(t1.trans s2).trans t3
    clear t3 ncl s2 hsl ec
    revert kc s3
    generalize upd H2 cl (.lst (([d1,d2,d3].take 3).map V.int))=H3
    intro kc s3
    have hM3:=hM.same s3.t
    obtain⟨r1,ha,hr1⟩:=h1.same s3.t
    obtain⟨r2,hb,hr2⟩:=h2.same s3.t
    obtain⟨r3,hc,hr3⟩:=h3.same s3.t
    have hq3:=s3 _ _ hq
    have lw2:LenV K (vT w2) H3 (tx w2).length:=⟨by rw[tx_len];omega,rfl⟩
    rw[tx_len]at lw2
    have w2n:w2.length≠0:=fun e=>by
      have:w2=[]:=List.eq_nil_of_length_eq_zero e
      have ng:=F.ng
      have y2:=F.y2
      rw[this]at y2
      obtain⟨ds,dl,e2,_⟩:=Wy_ds y2
      have:ds=[]:=List.eq_nil_of_length_eq_zero dl
      rw[this]at e2
      rw[e2]at ng
      exact absurd ng (by decide)
    show gName 2 (.ref cl) [some mv,some (.ref q),none,none,none,none,none] H3 _
    refine⟨_,rfl,none_in kc ⟨_,rfl,iteN rfl ?_⟩⟩
    refine⟨_,rfl,_,_,_,_,rfl,rfl,SqL.of kc,rfl,_,_,rfl,rfl,_,rfl,iteN (decide_eq_false (by have:=F.ng;omega)) ?_⟩
    refine⟨_,rfl,_,_,_,_,rfl,rfl,SqT.of hq3,rfl,_,_,_,_,rfl,rfl,SqT.of hb,rfl,_,_,rfl,lw2,rfl,_,rfl,iteN (decide_eq_false (fun e=>by injection e with e;omega)) ?_⟩
    refine⟨_,rfl,_,rfl,q,_,rfl,SqT.of hq3,hq3,fun sl H4 t4 hsl=>?_⟩
    have ec:cutV [sFalls,V.ref a,.ref b,.ref c] (some 1) none=[V.ref a,.ref b,.ref c]:=rfl
    rw[ec]at hsl
    refine⟨sl,rfl,⟨_,SqT.of hsl⟩,comp_go (n:=3) (fun i ys H2=>H2=H4∧ys=[V.ref r1,.ref r2,.ref r3].take i∧ys.length=i) (by omega) ⟨rfl,rfl,rfl⟩ (fun i ys H2 h=>h.2.2) ?_ ?_ ?_⟩
    · rintro i ys H2 hi ⟨rfl,rfl,_⟩
      rcases(by omega:i=0∨i=1∨i=2)with rfl | rfl | rfl
      · refine⟨⟨_,_,SqT.of hsl,rfl⟩,fun y G3 hy=>?_⟩
        obtain⟨rfl,hy⟩:=hy
        have:=hy _ (SqT.of hsl)
        cases this
        exact⟨⟨[some _],rfl,rfl⟩,_,rfl,_,_,_,_,rfl,rfl,SqT.of (t4 _ _ ha),rfl,rfl,rfl,rfl⟩
      · refine⟨⟨_,_,SqT.of hsl,rfl⟩,fun y G3 hy=>?_⟩
        obtain⟨rfl,hy⟩:=hy
        have:=hy _ (SqT.of hsl)
        cases this
        exact⟨⟨[some _],rfl,rfl⟩,_,rfl,_,_,_,_,rfl,rfl,SqT.of (t4 _ _ hb),rfl,rfl,rfl,rfl⟩
      · refine⟨⟨_,_,SqT.of hsl,rfl⟩,fun y G3 hy=>?_⟩
        obtain⟨rfl,hy⟩:=hy
        have:=hy _ (SqT.of hsl)
        cases this
        exact⟨⟨[some _],rfl,rfl⟩,_,rfl,_,_,_,_,rfl,rfl,SqT.of (t4 _ _ hc),rfl,rfl,rfl,rfl⟩
    · rintro ys H2 ⟨rfl,rfl,_⟩
      exact⟨_,SqT.of hsl,Nat.le_refl _⟩
    rintro ys H5 ul ⟨rfl,rfl,_⟩ nul
    have t5:=same_upd (o:=.lst ([V.ref r1,.ref r2,.ref r3].take 3)) nul
    have ku:upd H5 ul (.lst ([V.ref r1,.ref r2,.ref r3].take 3)) ul=some (.lst [V.ref r1,.ref r2,.ref r3]):=upd_same
    have t35:=t4.trans t5
    clear t5 nul
    revert ku t35
    generalize upd H5 ul (.lst ([V.ref r1,.ref r2,.ref r3].take 3))=H6
    intro ku t35
    have hr1:=t35 _ _ hr1
    have hr2:=t35 _ _ hr2
    have hr3:=t35 _ _ hr3
    obtain⟨mp,sv,tv,ev,rfl,hp,⟨sp,rfl,hsp⟩,ht,⟨ep,rfl,hep⟩⟩:=hM3.same t35.t
    have ls:LenV K (.ref sp) H6 n:=.inr ⟨_,SqT.of hsp,by rw[List.length_map,O.sl]⟩
    refine⟨ul,_,rfl,SqL.of ku,rfl,_,_,rfl,_,_,rfl,_,_,rfl,rfl,?_⟩
    show _
    refine⟨_,rfl,_,_,_,_,rfl,rfl,SqT.of hp,rfl,_,_,rfl,ls,?_⟩
    have lr1:LenV K (.ref r1) H6 p1.length:=.inr ⟨_,SqT.of hr1,by unfold wV;rw[List.length_map]⟩
    have lr2:LenV K (.ref r2) H6 p2.length:=.inr ⟨_,SqT.of hr2,by unfold wV;rw[List.length_map]⟩
    have lr3:LenV K (.ref r3) H6 p3.length:=.inr ⟨_,SqT.of hr3,by unfold wV;rw[List.length_map]⟩
    show gName 6 (.int (n:Int)) [some (.ref mp),some (.ref q),some (.ref cl),some (.ref r1),some (.ref r2),some (.ref r3),none] H6 _
    refine⟨_,rfl,_,_,rfl,lr1,_,rfl,_,_,rfl,rfl,_,rfl,iteN (decide_eq_false (by omega)) ?_⟩
    refine⟨_,rfl,_,_,rfl,lr2,_,rfl,_,_,rfl,rfl,_,_,rfl,rfl,_,rfl,iteN (decide_eq_false (by omega)) ?_⟩
    refine⟨_,rfl,_,_,rfl,lr3,_,rfl,_,_,rfl,rfl,_,rfl,iteN (decide_eq_false (by omega)) ?_⟩
    have a1l:=wV_last F.y1
    have a1f:=wV_first F.y1
    have a2l:=wV_last F.y2
    have a2f:=wV_first F.y2
    have a3l:=wV_last F.y3
    have a3f:=wV_first F.y3
    refine⟨_,rfl,_,rfl,_,_,_,_,rfl,rfl,SqT.of hr1,a1l,_,rfl,_,_,_,_,rfl,rfl,SqT.of hr2,a2f,rfl,_,rfl,iteN (neF rfl) ?_⟩
    refine⟨_,rfl,_,rfl,_,_,_,_,rfl,rfl,SqT.of hr2,a2l,_,rfl,_,_,_,_,rfl,rfl,SqT.of hr2,a2f,rfl,_,rfl,iteN (neF rfl) ?_⟩
    refine⟨_,rfl,_,_,_,_,rfl,rfl,SqT.of hr3,a3f,_,rfl,_,_,_,_,rfl,rfl,SqT.of hr2,a2f,rfl,_,rfl,iteN (neF rfl) ?_⟩
    have as1:=at_oV (r:=st) (j:=i1) (by rw[O.sl];exact b1)
    have as3:=at_oV (r:=en) (j:=i3) (by rw[O.el];exact b3)
    rw[ho1]at as1
    rw[ho3]at as3
    refine⟨_,rfl,_,_,_,_,rfl,rfl,SqT.of hp,rfl,_,rfl,_,_,_,_,rfl,rfl,SqT.of hr1,a1f,_,_,_,_,rfl,rfl,SqT.of hsp,as1,rfl,_,rfl,iteY rfl ?_⟩
    exact⟨_,rfl,_,_,_,_,rfl,rfl,SqT.of hp,rfl,_,rfl,_,rfl,_,_,_,_,rfl,rfl,SqT.of hr3,a3l,_,_,_,_,rfl,rfl,SqT.of hep,as3,rfl,k _ (s3.trans t35)⟩
theorem at2_sc{ts:List (List (List (Option Int)))}{m:List (List (Option Int))}{i j:Nat}{c:Int}(hm:m∈ts)(h:at2 m i j=some c):∃d,sc ts i j=some d:=by
  cases e:sc ts i j with
  | none=>rw[sc_none.mp e m hm]at h;cases h
  | some d=>exact⟨d,rfl⟩
def omin:Option Int→Option Int→Option Int
  | none,y=>y
  | some a,none=>some a
  | some a,some b=>some (if b < a then b else a)
def oadd:Option Int→Option Int→Option Int
  | some a,some b=>some (a+b)
  | _,_=>none
theorem omin_none(x:Option Int):omin x none=x:=by cases x <;>rfl
theorem oadd_none(x:Option Int):oadd x none=none:=by cases x <;>rfl
def dotO(r c:Nat→Option Int):Nat→Option Int
  | 0=>none
  | k+1=>omin (dotO r c k) (oadd (r k) (c k))
theorem omin_some{x y:Option Int}{v:Int}(h:omin x y=some v):x=some v∨y=some v:=by
  cases x with
  | none=>exact .inr h
  | some a=>cases y with
    | none=>exact .inl h
    | some b=>
      have h:(if b < a then b else a)=v:=by injection h
      by_cases q:b < a
      · rw[if_pos q]at h;exact .inr (by rw[h])
      · rw[if_neg q]at h;exact .inl (by rw[h])
theorem omin_l{x:Option Int}{a:Int}(y:Option Int)(h:x=some a):∃v,omin x y=some v∧v≤a:=by
  subst h
  cases y with
  | none=>exact⟨a,rfl,Int.le_refl _⟩
  | some b=>exact⟨if b < a then b else a,rfl,by split <;>omega⟩
theorem omin_r{y:Option Int}{b:Int}(x:Option Int)(h:y=some b):∃v,omin x y=some v∧v≤b:=by
  subst h
  cases x with
  | none=>exact⟨b,rfl,Int.le_refl _⟩
  | some a=>exact⟨if b < a then b else a,rfl,by split <;>omega⟩
theorem oadd_some{x y:Option Int}{v:Int}(h:oadd x y=some v):∃a b,x=some a∧y=some b∧v=a+b:=by
  cases x with
  | none=>cases h
  | some a=>cases y with
    | none=>cases h
    | some b=>exact⟨a,b,rfl,rfl,by injection h with h;exact h.symm⟩
theorem dotO_ex{r c:Nat→Option Int}:∀{k:Nat} {v:Int},dotO r c k=some v→∃j a b,j < k∧r j=some a∧c j=some b∧v=a+b
  | 0,_,h=>by cases h
  | k+1,v,h=>by
    rcases omin_some h with h | h
    · obtain⟨j,a,b,hj,h1,h2,h3⟩:=dotO_ex h
      exact⟨j,a,b,by omega,h1,h2,h3⟩
    · obtain⟨a,b,h1,h2,h3⟩:=oadd_some h
      exact⟨k,a,b,by omega,h1,h2,h3⟩
theorem dotO_le{r c:Nat→Option Int}:∀{k j:Nat} {a b:Int},j < k→r j=some a→c j=some b→∃v,dotO r c k=some v∧v≤a+b
  | 0,_,_,_,h,_,_=>absurd h (Nat.not_lt_zero _)
  | k+1,j,a,b,hj,h1,h2=>by
    by_cases e:j=k
    · subst e
      exact omin_r (dotO r c j) (b:=a+b) (by rw[h1,h2];rfl)
    · obtain⟨v,g1,g2⟩:=dotO_le (k:=k) (by omega) h1 h2
      obtain⟨u,f1,f2⟩:=omin_l (oadd (r k) (c k)) g1
      exact⟨u,f1,by omega⟩
theorem dotO_congr{r r' c c':Nat→Option Int}:∀{k:Nat},(∀j,j < k→r j=r' j)→(∀j,j < k→c j=c' j)→dotO r c k=dotO r' c' k
  | 0,_,_=>rfl
  | k+1,h1,h2=>by
    show omin _ _=omin _ _
    rw[dotO_congr (fun j hj=>h1 j (by omega)) (fun j hj=>h2 j (by omega)),h1 k (by omega),h2 k (by omega)]
def mkO(n:Nat)(f:Nat→Option Int):List (Option Int):=(List.range n).map f
theorem mkO_len(n:Nat)(f:Nat→Option Int):(mkO n f).length=n:=by simp[mkO]
theorem org_mkO{n k:Nat}{f:Nat→Option Int}(h:k < n):org (mkO n f) k=f k:=by
  unfold org mkO
  rw[List.getElem?_map,List.getElem?_range h];rfl
theorem mkO_get{n k:Nat}{f:Nat→Option Int}(h:k < n):(mkO n f)[k]? = some (f k):=by
  unfold mkO
  rw[List.getElem?_map,List.getElem?_range h];rfl
def rowO(m:List (List (Option Int)))(n:Nat)(r:List (Option Int)):List (Option Int):=mkO n fun k=>dotO (org r) (fun j=>at2 m j k) n
def tabO(l:List Nat)(ts:List (List (List (Option Int))))(x:Nat):List (List (Option Int)):=(ts[l.idxOf x]?).getD []
def ahO(l:List Nat)(ts:List (List (List (Option Int))))(n:Nat)(st:List (Option Int))(ww:List Nat):List (Option Int):=ww.foldl (fun r x=>rowO (tabO l ts x) n r) st
def wtO(l:List Nat)(ts:List (List (List (Option Int))))(n:Nat)(st en:List (Option Int))(ww:List Nat):Option Int:=dotO (org (ahO l ts n st ww)) (org en) n
theorem ahO_len{l:List Nat}{ts:List (List (List (Option Int)))}{n:Nat}:∀{ww:List Nat} {st:List (Option Int)},st.length=n→(ahO l ts n st ww).length=n
  | [],_,h=>h
  | x::ww,st,_=>ahO_len (ww:=ww) (mkO_len _ _)
theorem ahO_snoc{l:List Nat}{ts:List (List (List (Option Int)))}{n:Nat}{st:List (Option Int)}{ww:List Nat}{x:Nat}:ahO l ts n st (ww++[x])=rowO (tabO l ts x) n (ahO l ts n st ww):=by
  unfold ahO;rw[List.foldl_append];rfl
theorem org_lt'{r:List (Option Int)}{i n:Nat}{o:Int}(h:org r i=some o)(hn:r.length=n):i < n:=by rw[← hn];exact org_lt h
theorem ahO_way{l:List Nat}{ts:List (List (List (Option Int)))}{n:Nat}(hl:∀x∈l,l.idxOf x < ts.length):∀{ww:List Nat} {st:List (Option Int)} {j:Nat} {c:Int},(∀x∈ww,x∈l)→st.length=n→org (ahO l ts n st ww) j=some c→∃i o p d,org st i=some o∧Wy (WL l ts) i j ww p d∧c=o+d
  | [],st,j,c,_,_,h=>⟨j,c,[j],0,h,.one j,by omega⟩
  | x::ww,st,j,c,hw,hs,h=>by
    have hx:=hw x List.mem_cons_self
    obtain⟨i,o,p,d,ho,hy,rfl⟩:=ahO_way hl (fun y hy=>hw y (List.mem_cons_of_mem _ hy)) (mkO_len _ _) (show org (ahO l ts n (rowO (tabO l ts x) n st) ww) j=some c from h)
    have hi:i < n:=org_lt' ho (mkO_len _ _)
    have ho:org (mkO n fun k=>dotO (org st) (fun j=>at2 (tabO l ts x) j k) n) i=some o:=ho
    rw[org_mkO hi]at ho
    obtain⟨i',a,b,_,h1,h2,rfl⟩:=dotO_ex ho
    have il:=hl x hx
    have em:ts[l.idxOf x]? = some (tabO l ts x):=by
      unfold tabO
      rw[List.getElem?_eq_getElem il];rfl
    have e0:l[l.idxOf x]? = some x:=by
      have:=List.idxOf_lt_length_of_mem hx
      rw[List.getElem?_eq_getElem this,List.getElem_idxOf this]
    exact⟨i',a,i'::p,b+d,h1,hy.cons ⟨_,_,e0,em,h2⟩,by omega⟩
theorem way_ahO{l:List Nat}{ts:List (List (List (Option Int)))}{n:Nat}(L:LOk l)(hb:∀m∈ts,m.length=n∧∀r∈m,r.length=n){i j:Nat}{ww p:List Nat}{d:Int}(h:Wy (WL l ts) i j ww p d){st:List (Option Int)}{o:Int}(ho:org st i=some o):∃c,org (ahO l ts n st ww) j=some c∧c≤o+d:=by
  induction h with
  | one=>exact⟨o,ho,by omega⟩
  | snoc _ e ih=>
    rename_i j k x w p c d _
    obtain⟨c',h1,h2⟩:=ih
    obtain⟨hx,m,em,ha⟩:=WL_idx L e
    obtain⟨hj,hk⟩:=at2_lt ha (hb m (List.mem_of_getElem? em))
    rw[ahO_snoc]
    have et:tabO l ts x=m:=by unfold tabO;rw[em];rfl
    obtain⟨v,g1,g2⟩:=dotO_le (r:=org (ahO l ts n st w)) (c:=fun j=>at2 m j k) hj h1 ha
    refine⟨v,?_,by omega⟩
    show org (mkO n _) k=some v
    rw[org_mkO hk,et];exact g1
section
variable{l:List Nat}{n:Nat}{st en:List (Option Int)}{ts:List (List (List (Option Int)))}
theorem CMok.il(O:CMok l n st ts en):∀x∈l,l.idxOf x < ts.length:=fun x hx=>by rw[O.tl];exact List.idxOf_lt_length_of_mem hx
theorem wtO_way(O:CMok l n st ts en){ww:List Nat}(hw:∀x∈ww,x∈l){c:Int}(h:wtO l ts n st en ww=some c):∃i o j p d e,org st i=some o∧Wy (WL l ts) i j ww p d∧org en j=some e∧c=o+d+e:=by
  obtain⟨j,a,b,_,h1,h2,rfl⟩:=dotO_ex h
  obtain⟨i,o,p,d,ho,hy,rfl⟩:=ahO_way O.il hw O.sl h1
  exact⟨i,o,j,p,d,b,ho,hy,h2,rfl⟩
theorem way_wtO(O:CMok l n st ts en){ww p:List Nat}{i j:Nat}{o d e:Int}(ho:org st i=some o)(hy:Wy (WL l ts) i j ww p d)(he:org en j=some e):∃c,wtO l ts n st en ww=some c∧c≤o+d+e:=by
  obtain⟨c,h1,h2⟩:=way_ahO O.lk O.tb hy ho
  obtain⟨v,g1,g2⟩:=dotO_le (k:=n) (org_lt' he O.el) h1 he
  exact⟨v,g1,by omega⟩
theorem Wy_pth{i j:Nat}{ww p:List Nat}{d:Int}(h:Wy (WL l ts) i j ww p d):∃c,c≤d∧Pth (sc ts) i j p c:=by
  induction h with
  | one=>exact⟨0,Int.le_refl _,.one _⟩
  | snoc _ e ih=>
    obtain⟨c,hc,hp⟩:=ih
    obtain⟨a,m,_,h2,h3⟩:=e
    obtain⟨b,hb⟩:=at2_sc (List.mem_of_getElem? h2) h3
    have:=(sc_mem hb).2 m (List.mem_of_getElem? h2) _ h3
    exact⟨c+b,by omega,hp.snoc hb⟩
variable{cm bm:Nat→Option Int}{us:List Nat}
theorem Ch.none_all(C:Ch n st ts en cm bm [])(O:CMok l n st ts en){ww:List Nat}(hw:∀x∈ww,x∈l):wtO l ts n st en ww=none:=by
  cases h:wtO l ts n st en ww with
  | none=>rfl
  | some c=>
    obtain⟨i,o,j,p,d,e,ho,hy,he,_⟩:=wtO_way O hw h
    obtain⟨d',_,hp⟩:=Wy_pth hy
    exact absurd ((C.use O).all i o j j _ _ _ _ ho hp (.one j) ⟨e,he⟩) (by simp)
theorem us_ex(us:List Nat)(n:Nat)(h:∀x∈us,x < n):∃vs:List Nat,vs.length≤n∧∀x,x∈vs↔x∈us:=by
  refine⟨(List.range n).filter fun x=>decide (x∈us),?_,fun x=>?_⟩
  · have:=List.length_filter_le (fun x=>decide (x∈us)) (List.range n)
    rw[List.length_range]at this
    exact this
  · rw[List.mem_filter,List.mem_range,decide_eq_true_eq]
    exact⟨fun h=>h.2,fun q=>⟨h x q,q⟩⟩
theorem Ch.least_all(C:Ch n st ts en cm bm us)(O:CMok l n st ts en)(rg:∀x∈us,∀c,Bst (uo x) (sc ts) n x c→0≤c){x:Nat}{c:Int}(ls:Ls cm en us x c){ww:List Nat}(hw:∀x∈ww,x∈l){v:Int}(h:wtO l ts n st en ww=some v):c≤v:=by
  obtain⟨vs,un,hv⟩:=us_ex us n C.lt
  have C':Ch n st ts en cm bm vs:=⟨C.cb,C.bb,fun x=>(hv x).trans (C.mem x),fun x hx=>C.lt x ((hv x).mp hx)⟩
  have U:=C'.use O
  have nf:NoFall (sc ts) vs:=U.noFall_of un fun x hx=>rg x ((hv x).mp hx)
  obtain⟨i,o,j,p,d,e,ho,hy,he,rfl⟩:=wtO_way O hw h
  obtain⟨d',hd,hp⟩:=Wy_pth hy
  have ju:j∈vs:=U.all i o j j _ _ _ _ ho hp (.one j) ⟨e,he⟩
  have hB:Bst (org st) (sc ts) p.length j (o+d'):=⟨i,o,p,d',ho,hp,by omega,rfl⟩
  obtain⟨c',hc',b'⟩:=U.still nf ju hB
  have b'':=b'.mono (m:=n - 1) (by omega)
  have cb:=C.cb j
  cases ecm:cm j with
  | none=>rw[ecm]at cb;exact absurd b'' (cb c')
  | some z=>
    rw[ecm]at cb
    have:=cb.2 c' b''
    obtain⟨_,_,_,_,_,_,ls⟩:=ls
    have:=ls j ((hv j).mp ju) z e ecm he
    omega
end
def KC(t:Adr)(v:V)(H:Hp):Prop:=∃p dx,v=.ref p∧H p=some (.ins t.Costs dx [])
theorem KC.same{v:V}{H H':Hp}(s:Same H H')(h:KC t v H):KC t v H':=by
  obtain⟨p,dx,rfl,h⟩:=h
  exact⟨p,dx,rfl,s _ _ h⟩
def sp_nought:Sp:=fun vs H Q _=>∃kv,vs=[kv]∧Q .non H
theorem ok_Costs_nought(T:Txt K mg t):FnOk Pr w K mg base CX0 1 t.Costs_nought t.d_Costs_nought ["self"] sp_nought:=by
  refine T.F_Costs_nought.ok sc_Costs_nought (fun vs H Q E h=>?_) (fun cdv A outer s H vs Q E hr h=>?_)
  · obtain⟨x,rfl,_⟩:=h
    rfl
  · obtain⟨x,rfl,k⟩:=h
    refine⟨_,(pss_one (ps_ret pe_non)),?_⟩
    exact k
def sp_plus:Sp:=fun vs H Q _=>∃kv x y,vs=[kv,oV x,oV y]∧Q (oV (omin x y)) H
theorem ok_Costs_plus(T:Txt K mg t):FnOk Pr w K mg base CX0 1 t.Costs_plus t.d_Costs_plus ["self","x","y"] sp_plus:=by
  refine T.F_Costs_plus.ok sc_Costs_plus (fun vs H Q E h=>?_) (fun cdv A outer s H vs Q E hr h=>?_)
  · obtain⟨k,x,y,rfl,_⟩:=h
    rfl
  · obtain⟨k0,a,b,rfl,k'⟩:=h
    refine⟨_,(pss_cons (ps_if (pt_cmpR op_isN (pv 1) pe_non (nomark _)) (pss_one (ps_ret (pv 2))) pss_nil) (pss_cons (ps_if (pt_cmpR op_isN (pv 2) pe_non (nomark _)) (pss_one (ps_ret (pv 1))) pss_nil) (pss_one (ps_ret (pe_callB (call_min2 rfl) (by rfl) T.z_min boot_min (pa_cons (pv 1) (pa_cons (pv 2) pa_nil))))))),?_⟩
    cases a with
    | none=>
      refine⟨_,rfl,rfl,_,rfl,?_⟩
      refine iteT ?_
      exact⟨_,rfl,k'⟩
    | some i=>
      refine⟨_,rfl,rfl,_,rfl,?_⟩
      refine iteF ?_
      cases b with
      | none=>
        refine⟨_,rfl,rfl,_,rfl,?_⟩
        refine iteT ?_
        exact⟨_,rfl,k'⟩
      | some j=>
        refine⟨_,rfl,rfl,_,rfl,?_⟩
        refine iteF ?_
        exact⟨_,rfl,_,rfl,_,_,rfl,k'⟩
def sp_times:Sp:=fun vs H Q _=>∃kv x y,vs=[kv,oV x,oV y]∧Q (oV (oadd x y)) H
theorem ok_Costs_times(T:Txt K mg t):FnOk Pr w K mg base CX0 1 t.Costs_times t.d_Costs_times ["self","x","y"] sp_times:=by
  refine T.F_Costs_times.ok sc_Costs_times (fun vs H Q E h=>?_) (fun cdv A outer s H vs Q E hr h=>?_)
  · obtain⟨k,x,y,rfl,_⟩:=h
    rfl
  · obtain⟨k0,a,b,rfl,k'⟩:=h
    refine⟨_,(pss_cons (ps_if (PW.pt (pw_or (pt_cmpR op_isN (pv 1) pe_non (nomark _)) (pw_or1 (pt_cmpR op_isN (pv 2) pe_non (nomark _))))) (pss_one (ps_ret pe_non)) pss_nil) (pss_one (ps_ret (pe_op op_add (pv 1) (pv 2))))),?_⟩
    cases a with
    | none=>
      refine⟨_,rfl,rfl,_,rfl,?_⟩
      refine iteT ?_
      (try refine iteT ?_)
      exact k'
    | some i=>
      refine⟨_,rfl,rfl,_,rfl,?_⟩
      refine iteF ?_
      cases b with
      | none=>
        refine⟨_,rfl,rfl,_,rfl,?_⟩
        (try refine iteT ?_)
        exact k'
      | some j=>
        refine⟨_,rfl,rfl,_,rfl,?_⟩
        (try refine iteF ?_)
        exact⟨_,rfl,_,rfl,_,_,rfl,rfl,k'⟩
def sp_dot(t:Adr):Sp:=fun vs H Q _=>∃kv rv cv r c n,vs=[kv,rv,cv]∧(KC t kv H∧CR r rv H∧CR c cv H∧r.length=n∧c.length=n∧n≤20)∧∀H',Same H H'→Q (oV (dotO (org r) (org c) n)) H'
theorem get_org{r:List (Option Int)}{i:Nat}{u:V}(h:(r.map oV)[i]? = some u):u=oV (org r i):=by
  rw[List.getElem?_map]at h
  unfold org
  cases e:r[i]? with
  | none=>rw[e]at h;cases h
  | some x=>rw[e]at h;injection h with h;rw[← h];rfl
theorem ok_dot(T:Txt K mg t):FnOk Pr w K mg base CX0 2 t.dot t.d_dot ["kind","row","column"] (sp_dot t):=by
  refine T.F_dot.ok sc_dot (fun vs H Q E h=>?_) (fun cdv A outer s H vs Q E hr h=>?_)
  · obtain⟨kv,rv,cv,r,c,n,rfl,_⟩:=h
    rfl
  · obtain⟨kv,rv,cv,r,c,n,rfl,⟨⟨kp,dx,rfl,hk⟩,⟨rp,rfl,hr'⟩,⟨cp,rfl,hc⟩,rl,cl,n20⟩,k⟩:=h
    refine⟨_,(pss_cons (ps_set (i:=3) sc_dot.nd rfl (Or.inl rfl) (pe_meth0 (pv 0) T.C_Costs T.t_Costs_nought (ok_Costs_nought T) hr.m T.b_Costs_nought .nil pass0)) (pss_cons (ps_for PassesOwn.never rfl (pi_zip rfl T.z_zip (pa_cons (pv 1) (pa_cons (pv 2) pa_nil))) (pg_tup rfl (pgs_cons (pg_name (i:=4) sc_dot.nd rfl (Or.inl rfl)) (pgs_cons (pg_name (i:=5) sc_dot.nd rfl (Or.inl rfl)) pgs_nil))) (pss_one (ps_set (i:=3) sc_dot.nd rfl (Or.inl rfl) (pe_meth (pv 0) T.C_Costs T.t_Costs_plus (ok_Costs_plus T) hr.m T.b_Costs_plus .nil pass0 (pa_cons (pv 3) (pa_cons (pe_meth (pv 0) T.C_Costs T.t_Costs_times (ok_Costs_times T) hr.m T.b_Costs_times .nil pass0 (pa_cons (pv 4) (pa_cons (pv 5) pa_nil))) pa_nil)))))) (pss_one (ps_ret (pv 3))))),?_⟩
    refine⟨_,rfl,_,_,_,rfl,hk,rfl,_,rfl,?_⟩
    refine⟨_,rfl,_,rfl,.tup rp,.tup cp,_,_,r.map oV,c.map oV,rfl,rfl,rfl,SqT.of hr',SqT.of hc,for_zip (K:=K) (xs:=r.map oV) (ys:=c.map oV) (fun i σ H2=>∃v4 v5,σ=[some (.ref kp),some (.ref rp),some (.ref cp),some (oV (dotO (org r) (org c) i)),v4,v5]∧Same H H2) (by simp[rl,cl]) ⟨_,_,rfl,Same.refl _⟩ (fun i σ H2 _ ⟨_,_,_,q⟩=>⟨SqT.of (q _ _ hr'),SqT.of (q _ _ hc)⟩) ?_ ?_⟩
    · rintro i u v p σ H2 hu hv np ⟨v4,v5,rfl,q⟩
      have eu:=get_org hu
      have ev:=get_org hv
      subst eu
      subst ev
      have sp:=same_upd (o:=.tup [oV (org r i),oV (org c i)]) np
      have q2:=q.trans sp
      refine⟨p,_,rfl,SqT.of upd_same,rfl,_,_,rfl,_,_,rfl,rfl,?_⟩
      refine⟨_,rfl,_,_,_,rfl,q2 _ _ hk,rfl,_,rfl,_,rfl,_,_,_,rfl,q2 _ _ hk,rfl,_,rfl,_,rfl,_,_,_,rfl,_,_,_,rfl,?_⟩
      exact⟨_,_,rfl,q2⟩
    · rintro σ H2 ⟨v4,v5,rfl,q⟩
      rw[List.length_map,rl]
      exact⟨_,rfl,k _ q⟩
def colO(m:List (List (Option Int)))(n k:Nat):List (Option Int):=mkO n fun j=>at2 m j k
def sp_colat:Sp:=fun vs H Q _=>∃tv m n k,vs=[tv,.int ((k:Nat):Int)]∧(CT m tv H∧m.length=n∧(∀r∈m,r.length=n)∧k < n∧n≤20)∧∀v H',Same H H'→CR (colO m n k) v H'→Q v H'
theorem ok_column_at(T:Txt K mg t):FnOk Pr w K mg base CX0 1 t.column_at t.d_column_at ["table","place"] sp_colat:=by
  refine T.F_column_at.ok sc_column_at (fun vs H Q E h=>?_) (fun cdv A outer s H vs Q E hr h=>?_)
  · obtain⟨tv,m,n,kk,rfl,_⟩:=h
    rfl
  · obtain⟨tv,m,n,kk,rfl,⟨⟨p,rows,rfl,hp,ent⟩,ml,mr,hk,n20⟩,k⟩:=h
    refine⟨_,(pss_one (ps_ret (pe_callTy call_tuple_of (by rfl) T.z_tuple boot_tuple (pa_cons (pe_comp (xs:=["row"]) rfl (show CompOk ["table","place"] (defScope s_column_at) _ from⟨rfl,by decide +kernel,by decide +kernel,by decide +kernel,by decide +kernel,by decide +kernel⟩) (pi_tup (pv 0)) (fun _ _ _ _ _=>(pg_name (i:=2) (by show List.Nodup (["table","place","row"]:List Str);decide +kernel) rfl (Or.inl rfl))) (fun _ _ _ _ _=>(pe_ix (show IxR _ (rIxT K)from ix_tup) (pv 2) (pv 1) (fun _ _=>rfl)))) pa_nil)))),?_⟩
    refine⟨_,rfl,p,rfl,⟨_,SqT.of hp⟩,comp_go (n:=n) (fun j ys H2=>ys=(mkO j fun j=>at2 m j kk).map oV∧H2=H) (by omega) ⟨rfl,rfl⟩ (fun j ys H2 q=>by rw[q.1,List.length_map,mkO_len]) ?_ ?_ ?_⟩
    · rintro j ys H2 hj ⟨rfl,rfl⟩
      obtain⟨u,eu,r,er,q,rfl,hq⟩:=ent.2 j (by omega)
      refine⟨⟨_,_,SqT.of hp,eu⟩,fun y H' hy=>?_⟩
      obtain⟨rfl,hy⟩:=hy
      have:=hy _ (SqT.of hp)
      rw[eu]at this
      cases this
      have rl:=mr r (List.mem_of_getElem? er)
      have a3:=at_oV (r:=r) (j:=kk) (by omega)
      refine⟨⟨[some (.ref q)],rfl,rfl⟩,_,rfl,_,rfl,_,_,_,_,rfl,rfl,SqT.of hq,a3,?_,rfl⟩
      rw[← at2_row er]
      unfold mkO
      rw[List.range_succ,List.map_append,List.map_append];rfl
    · rintro ys H2 ⟨rfl,rfl⟩
      exact⟨_,SqT.of hp,by rw[ent.1,ml];exact Nat.le_refl _⟩
    · rintro ys H2 lp ⟨rfl,rfl⟩ nl
      have s1:=same_upd (o:=.lst ((mkO n fun j=>at2 m j kk).map oV)) nl
      refine⟨lp,_,rfl,.inl ⟨SqL.of upd_same,fun l2 n2=>?_⟩⟩
      have s2:=same_upd (o:=.tup ((mkO n fun j=>at2 m j kk).map oV)) n2
      exact k _ _ (s1.trans s2) ⟨l2,rfl,upd_same⟩
def colsO(m:List (List (Option Int)))(n:Nat):List (List (Option Int)):=(List.range n).map fun k=>colO m n k
theorem colsO_get{m:List (List (Option Int))}{n k:Nat}(h:k < n):(colsO m n)[k]? = some (colO m n k):=by
  unfold colsO
  rw[List.getElem?_map,List.getElem?_range h];rfl
def sp_cols:Sp:=fun vs H Q _=>∃tv m n,vs=[tv]∧(CT m tv H∧m.length=n∧(∀r∈m,r.length=n)∧n≤20)∧∀v H',Same H H'→CT (colsO m n) v H'→Q v H'
theorem ok_columns_of(T:Txt K mg t):FnOk Pr w K mg base CX0 2 t.columns_of t.d_columns_of ["table"] sp_cols:=by
  refine T.F_columns_of.ok sc_columns_of (fun vs H Q E h=>?_) (fun cdv A outer s H vs Q E hr h=>?_)
  · obtain⟨tv,m,n,rfl,_⟩:=h
    rfl
  · obtain⟨tv,m,n,rfl,⟨ht,ml,mr,n20⟩,k⟩:=h
    obtain⟨p,rows,rfl,hp,ent⟩:=id ht
    have lt:LenV K (.ref p) H n:=.inr ⟨_,SqT.of hp,by rw[ent.1,ml]⟩
    refine⟨_,(pss_cons (ps_if (pt_cmpR op_eq (pe_callB call_len (by rfl) T.z_len PySem.boot_len (pa_cons (pv 0) pa_nil)) pe_int (nomark _)) (pss_one (ps_ret (pe_tup pa_nil))) pss_nil) (pss_one (ps_ret (pe_callTy call_tuple_of (by rfl) T.z_tuple boot_tuple (pa_cons (pe_comp (xs:=["place"]) rfl (show CompOk ["table"] (defScope s_columns_of) _ from⟨rfl,by decide +kernel,by decide +kernel,by decide +kernel,by decide +kernel,by decide +kernel⟩) (pi_range1 rfl T.z_range (pa_cons (pe_callB call_len (by rfl) T.z_len PySem.boot_len (pa_cons (pe_ix ix_tup (pv 0) pe_int (fun _ _=>rfl)) pa_nil)) pa_nil)) (fun _ _ _ _ _=>(pg_name (i:=1) (by show List.Nodup (["table","place"]:List Str);decide +kernel) rfl (Or.inl rfl))) (fun _ _ _ _ _=>(pe_call (ok_column_at (w:=w) (base:=base) T) hr.m rfl T.m_column_at T.F_column_at.kp T.b_column_at .nil pass0 (pa_cons (pv 0) (pa_cons (pv 1) pa_nil))))) pa_nil))))),?_⟩
    refine⟨_,rfl,_,_,rfl,lt,rfl,_,rfl,?_⟩
    refine iteI (fun e0=>?_) (fun e0=>?_)
    · have e:n=0:=by omega
      subst e
      refine⟨(by show 0≤sizeLine;decide),fun p np=>k _ _ (same_upd np) ⟨p,[],rfl,upd_same,Ents.nil⟩⟩
    · obtain⟨u,eu,r,er,q,rfl,hq⟩:=ent.2 0 (by omega)
      have rl:=mr r (List.mem_of_getElem? er)
      have lr:LenV K (.ref q) H n:=.inr ⟨_,SqT.of hq,by rw[List.length_map,rl]⟩
      refine⟨_,rfl,_,_,_,_,rfl,rfl,SqT.of hp,atI_nat (j:=0) eu,_,_,rfl,lr,_,rfl,(by omega),(by omega),comp_go (n:=n) (fun j ys H2=>Same H H2∧Ents (fun i u H=>∃r,(colsO m n)[i]? = some r∧CR r u H) ys j H2) (by omega) ⟨Same.refl _,Ents.nil⟩ (fun j ys H2 q=>q.2.1) ?_ ?_ ?_⟩
      · rintro j ys H2 hj ⟨q,e⟩
        refine⟨(show j < (n:Int).toNat by omega),fun y H' hy=>?_⟩
        obtain⟨rfl,rfl⟩:=hy
        have j0:(0:Int)+(j:Int)=((j:Nat):Int):=by omega
        rw[j0]
        refine⟨⟨[some (.int ((j:Nat):Int))],rfl,rfl⟩,_,rfl,_,rfl,_,m,n,j,rfl,⟨CT.same q.t ht,ml,mr,hj,n20⟩,fun v H3 s3 r3=>?_⟩
        exact⟨q.trans s3,(e.mono fun _ _ _ ⟨r,z1,z2⟩=>⟨r,z1,z2.same s3.t⟩).snoc ⟨_,colsO_get hj,r3⟩⟩
      · rintro ys H2 ⟨q,e⟩
        show(n:Int).toNat≤n
        omega
      · rintro ys H2 lp ⟨q,e⟩ nl
        have s1:=same_upd (o:=.lst ys) nl
        refine⟨lp,ys,rfl,.inl ⟨SqL.of upd_same,fun l2 n2=>?_⟩⟩
        have s2:=same_upd (o:=.tup ys) n2
        refine k _ _ (q.trans (s1.trans s2)) ⟨l2,ys,rfl,upd_same,?_⟩
        rw[show(colsO m n).length=n by simp[colsO]]
        exact e.mono fun _ _ _ ⟨r,z1,z2⟩=>⟨r,z1,z2.same (s1.trans s2).t⟩
def sp_rowby(t:Adr):Sp:=fun vs H Q _=>∃kv rv tv r m n,vs=[kv,rv,tv]∧(KC t kv H∧CR r rv H∧CT m tv H∧r.length=n∧m.length=n∧(∀r∈m,r.length=n)∧n≤20)∧∀v H',Same H H'→CR (rowO m n r) v H'→Q v H'
theorem ok_row_by(T:Txt K mg t):FnOk Pr w K mg base CX0 3 t.row_by t.d_row_by ["kind","row","table"] (sp_rowby t):=by
  refine T.F_row_by.ok sc_row_by (fun vs H Q E h=>?_) (fun cdv A outer s H vs Q E hr h=>?_)
  · obtain⟨kv,rv,tv,r,m,n,rfl,_⟩:=h
    rfl
  · obtain⟨kv,rv,tv,r,m,n,rfl,⟨hk,hr',ht,rl,ml,mr,n20⟩,k⟩:=h
    refine⟨_,(pss_one (ps_ret (pe_callTy call_tuple_of (by rfl) T.z_tuple boot_tuple (pa_cons (pe_comp (xs:=["column"]) rfl (show CompOk ["kind","row","table"] (defScope s_row_by) _ from⟨rfl,by decide +kernel,by decide +kernel,by decide +kernel,by decide +kernel,by decide +kernel⟩) (pi_tup (pe_call (ok_columns_of T) hr.m rfl T.m_columns_of T.F_columns_of.kp T.b_columns_of .nil pass0 (pa_cons (pv 2) pa_nil))) (fun _ _ _ _ _=>(pg_name (i:=3) (by show List.Nodup (["kind","row","table","column"]:List Str);decide +kernel) rfl (Or.inl rfl))) (fun _ _ _ _ _=>(pe_call (ok_dot (w:=w) (base:=base) T) hr.m rfl T.m_dot T.F_dot.kp T.b_dot .nil pass0 (pa_cons (pv 0) (pa_cons (pv 1) (pa_cons (pv 3) pa_nil)))))) pa_nil)))),?_⟩
    refine⟨_,rfl,_,m,n,rfl,⟨ht,ml,mr,n20⟩,?_⟩
    rintro cv H1 s1 ⟨p,cols,rfl,hp,ent⟩
    rw[show(colsO m n).length=n by simp[colsO]]at ent
    refine⟨p,rfl,⟨_,SqT.of hp⟩,comp_go (n:=n) (fun j ys H2=>Same H1 H2∧ys=(mkO j fun k=>dotO (org r) (fun j=>at2 m j k) n).map oV) (by omega) ⟨Same.refl _,rfl⟩ (fun j ys H2 q=>by rw[q.2,List.length_map,mkO_len]) ?_ ?_ ?_⟩
    · rintro j ys H2 hj ⟨q,rfl⟩
      obtain⟨u,eu,c,ec,hc⟩:=ent.2 j hj
      rw[colsO_get hj]at ec
      cases ec
      refine⟨⟨_,_,SqT.of (q _ _ hp),eu⟩,fun y H' hy=>?_⟩
      obtain⟨rfl,hy⟩:=hy
      have:=hy _ (SqT.of (q _ _ hp))
      rw[eu]at this
      cases this
      refine⟨⟨[some _],rfl,rfl⟩,_,rfl,_,rfl,_,rfl,_,_,_,r,colO m n j,n,rfl,⟨hk.same (s1.trans q),hr'.same (s1.trans q).t,hc.same q.t,rl,mkO_len _ _,n20⟩,fun H3 s3=>?_⟩
      refine⟨q.trans s3,?_⟩
      rw[dotO_congr (r:=org r) (c:=org (colO m n j)) (k:=n) (r':=org r) (c':=fun i=>at2 m i j) (fun _ _=>rfl) fun i hi=>org_mkO hi]
      unfold mkO
      rw[List.range_succ,List.map_append,List.map_append];rfl
    · rintro ys H2 ⟨q,rfl⟩
      exact⟨_,SqT.of (q _ _ hp),by rw[ent.1];exact Nat.le_refl _⟩
    · rintro ys H2 lp ⟨q,rfl⟩ nl
      have s1':=same_upd (o:=.lst ((mkO n fun k=>dotO (org r) (fun j=>at2 m j k) n).map oV)) nl
      refine⟨lp,_,rfl,.inl ⟨SqL.of upd_same,fun l2 n2=>?_⟩⟩
      have s2:=same_upd (o:=.tup ((mkO n fun k=>dotO (org r) (fun j=>at2 m j k) n).map oV)) n2
      exact k _ _ ((s1.trans q).trans (s1'.trans s2)) ⟨l2,rfl,upd_same⟩
theorem wd_asc{l ww:List Nat}(L:LOk l)(hw:∀x∈ww,x∈l):(tx ww).cps.all (· < 128)=true:=by
  show ww.toArray.all (· < 128)=true
  simp only[List.all_toArray,List.all_eq_true,decide_eq_true_eq]
  exact fun x hx=>L.as x (hw x hx)
theorem tx_get{l:List Nat}{i c:Nat}(h:(tx l).cps[i]? = some c):l[i]? = some c:=by simpa [tx] using h
def sp_isword:Sp:=fun vs H Q _=>∃l ww,vs=[vT l,vT ww]∧(LOk l∧(∀x∈ww,x∈l)∧ww.length≤100)∧∀H',Same H H'→Q (.bl true) H'
theorem ok_is_word(T:Txt K mg t):FnOk Pr w K mg base CX0 1 t.is_word t.d_is_word ["letters","thing"] sp_isword:=by
  refine T.F_is_word.ok sc_is_word (fun vs H Q E h=>?_) (fun cdv A outer s H vs Q E hr h=>?_)
  · obtain⟨l,ws,rfl,_⟩:=h
    rfl
  · obtain⟨l,ws,rfl,⟨L,hw,wz⟩,k⟩:=h
    refine⟨_,(pss_one (ps_ret (pe_and (pe_callB call_isi (by rfl) T.z_isinstance boot_isinstance (pa_cons (pv 1) (pa_cons (pe_bltn (v:=.ty "str") rfl T.z_str boot_str rfl) pa_nil))) (pe_one (pe_callB (call_all rfl) (by rfl) T.z_all boot_all (pa_cons (pe_comp (xs:=["sign"]) rfl (show CompOk ["letters","thing"] (defScope s_is_word) _ from⟨rfl,by decide +kernel,by decide +kernel,by decide +kernel,by decide +kernel,by decide +kernel⟩) (pi_str (pv 1)) (fun _ _ _ _ _=>(pg_name (i:=2) (by show List.Nodup (["letters","thing","sign"]:List Str);decide +kernel) rfl (Or.inl rfl))) (fun _ _ _ _ _=>(pe_cmpR op_in_str (pv 2) (pv 0) (by with_unfolding_all rfl)))) pa_nil)))))),?_⟩
    refine⟨_,rfl,_,_,_,_,rfl,TyOf.str _,T.k_ss,_,rfl,?_⟩
    refine iteT ?_
    refine⟨_,rfl,_,rfl,wd_asc L hw,comp_go (n:=ws.length) (fun j ys H2=>ys=(List.replicate j true).map V.bl∧H2=H) (by omega) ⟨rfl,rfl⟩ (fun j ys H2 q=>by rw[q.1];simp) ?_ ?_ ?_⟩
    · rintro j ys H2 hj ⟨rfl,rfl⟩
      refine⟨(by show j < ws.toArray.size;simpa using hj),fun y H' hy=>?_⟩
      obtain⟨rfl,c,hc,rfl⟩:=hy
      have o:=occ_of L (hw c (List.mem_of_getElem? (tx_get hc)))
      refine⟨⟨[some _],rfl,rfl⟩,_,rfl,_,rfl,_,_,rfl,rfl,?_,rfl⟩
      have e:(!(Builtin.Str.occurrences (tx l) (tx [c]) 0 (tx l).length 1).isEmpty)=true:=by rw[o];rfl
      show _++[V.bl (!(Builtin.Str.occurrences (tx l) (tx [c]) 0 (tx l).length 1).isEmpty)]=_
      rw[e,List.replicate_succ',List.map_append];rfl
    · rintro ys H2 ⟨rfl,rfl⟩
      show ws.toArray.size≤_
      simp
    · rintro ys H2 p ⟨rfl,rfl⟩ np
      refine⟨p,List.replicate ws.length true,rfl,SqL.of upd_same,?_⟩
      have e:(List.replicate ws.length true).all id=true:=by rw[List.all_eq_true];exact fun b hb=>(List.mem_replicate.mp hb).2
      show Q (.bl ((List.replicate ws.length true).all id)) _
      rw[e]
      exact k _ (same_upd np)
def sp_needword:Sp:=fun vs H Q _=>∃l ww,vs=[vT l,vT ww]∧(LOk l∧(∀x∈ww,x∈l)∧ww.length≤100)∧∀H',Same H H'→Q .non H'
theorem ok_need_word(T:Txt K mg t):FnOk Pr w K mg base CX0 2 t.need_word t.d_need_word ["letters","thing"] sp_needword:=by
  refine T.F_need_word.ok sc_need_word (fun vs H Q E h=>?_) (fun cdv A outer s H vs Q E hr h=>?_)
  · obtain⟨l,ws,rfl,_⟩:=h
    rfl
  · obtain⟨l,ws,rfl,W,k⟩:=h
    refine⟨_,(pss_one (ps_if (pt_not (pt_val (pe_call (ok_is_word T) hr.m rfl T.m_is_word T.F_is_word.kp T.b_is_word .nil pass0 (pa_cons (pv 0) (pa_cons (pv 1) pa_nil))))) (pss_one ps_never) pss_nil)),?_⟩
    refine⟨_,rfl,_,rfl,l,ws,rfl,W,fun H' s'=>⟨_,rfl,?_⟩⟩
    (try refine iteF ?_)
    exact k _ s'
def sp_tableof:Sp:=fun vs H Q _=>∃mv l n st ts en c,vs=[mv,vT [c]]∧(CM l st ts en mv H∧CMok l n st ts en∧c∈l)∧∀v,CT (tabO l ts c) v H→Q v H
theorem ok_table_of(T:Txt K mg t):FnOk Pr w K mg base CX0 1 t.table_of t.d_table_of ["machine","letter"] sp_tableof:=by
  refine T.F_table_of.ok sc_table_of (fun vs H Q E h=>?_) (fun cdv A outer s H vs Q E hr h=>?_)
  · obtain⟨mv,l,n,st,ts,en,c,rfl,_⟩:=h
    rfl
  · obtain⟨mv,l,n,st,ts,en,c,rfl,⟨⟨p,sv,tv,ev,rfl,hp,h1,⟨q,tvs,rfl,hq,et⟩,h3⟩,O,hc⟩,k⟩:=h
    obtain⟨u,eu,m,em,pu⟩:=et.2 _ (O.il c hc)
    have e:tabO l ts c=m:=by unfold tabO;rw[em];rfl
    rw[e]at k
    refine⟨_,(pss_one (ps_ret (pe_ix ix_tup (pe_ix ix_tup (pv 0) pe_int (fun _ _=>rfl)) (pe_bm PySem.F.plainAttrs_str PySem.F.slot_str_index PySem.F.type_str_index mt_indexS (pe_ix ix_tup (pv 0) pe_int (fun _ _=>rfl)) (pa_cons (pv 1) pa_nil)) (fun _ _=>rfl)))),?_⟩
    exact⟨_,rfl,_,_,_,_,rfl,rfl,SqT.of hp,rfl,_,rfl,_,_,_,_,rfl,rfl,SqT.of hp,rfl,rfl,_,rfl,_,_,_,_,rfl,rfl,occ_of O.lk hc,_,_,_,_,rfl,rfl,SqT.of hq,atI_nat eu,k _ pu⟩
theorem CMok.tabO{l:List Nat}{n:Nat}{st en:List (Option Int)}{ts:List (List (List (Option Int)))}(O:CMok l n st ts en){x:Nat}(hx:x∈l):(tabO l ts x).length=n∧∀r∈tabO l ts x,r.length=n:=by
  have il:=O.il x hx
  have em:ts[l.idxOf x]? = some (K74.tabO l ts x):=by
    unfold K74.tabO
    rw[List.getElem?_eq_getElem il];rfl
  exact O.tb _ (List.mem_of_getElem? em)
def sp_ahead(t:Adr):Sp:=fun vs H Q _=>∃kv mv l n st ts en ww,vs=[kv,mv,vT ww]∧(KC t kv H∧CM l st ts en mv H∧CMok l n st ts en∧(∀x∈ww,x∈l)∧ww.length≤100)∧∀v H',Same H H'→CR (ahO l ts n st ww) v H'→Q v H'
theorem ok_ahead(T:Txt K mg t):FnOk Pr w K mg base CX0 4 t.ahead t.d_ahead ["kind","machine","word"] (sp_ahead t):=by
  refine T.F_ahead.ok sc_ahead (fun vs H Q E h=>?_) (fun cdv A outer s H vs Q E hr h=>?_)
  · obtain⟨kv,mv,l,n,st,ts,en,ws,rfl,_⟩:=h
    rfl
  · obtain⟨kv,mv,l,n,st,ts,en,ws,rfl,⟨hk,hm,O,hw,wl⟩,k⟩:=h
    have n20:=O.n20
    obtain⟨p,sv,tv,ev,rfl,hp,h1,h2,h3⟩:=id hm
    refine⟨_,(pss_cons (ps_expr (pe_call (ok_need_word T) hr.m rfl T.m_need_word T.F_need_word.kp T.b_need_word .nil pass0 (pa_cons (pe_ix ix_tup (pv 1) pe_int (fun _ _=>rfl)) (pa_cons (pv 2) pa_nil)))) (pss_cons (ps_set (i:=3) sc_ahead.nd rfl (Or.inl rfl) (pe_ix ix_tup (pv 1) pe_int (fun _ _=>rfl))) (pss_cons (ps_for PassesOwn.never rfl (pi_str (pv 2)) (pg_name (i:=4) sc_ahead.nd rfl (Or.inl rfl)) (pss_one (ps_set (i:=3) sc_ahead.nd rfl (Or.inl rfl) (pe_call (ok_row_by T) hr.m rfl T.m_row_by T.F_row_by.kp T.b_row_by .nil pass0 (pa_cons (pv 0) (pa_cons (pv 3) (pa_cons (pe_call (ok_table_of T) hr.m rfl T.m_table_of T.F_table_of.kp T.b_table_of .nil pass0 (pa_cons (pv 1) (pa_cons (pv 4) pa_nil))) pa_nil))))))) (pss_one (ps_ret (pv 3)))))),?_⟩
    refine⟨_,rfl,_,_,_,_,rfl,rfl,SqT.of hp,rfl,_,rfl,l,ws,rfl,⟨O.lk,hw,wl⟩,fun H1 s1=>?_⟩
    refine⟨_,rfl,_,_,_,_,rfl,rfl,SqT.of (s1 _ _ hp),rfl,?_⟩
    refine⟨_,rfl,_,rfl,wd_asc O.lk hw,for_it (n:=ws.length) (fun i σ H2=>∃rv v4,σ=[some kv,some (.ref p),some (vT ws),some rv,v4]∧Same H H2∧CR (ahO l ts n st (ws.take i)) rv H2) ⟨_,_,rfl,s1,h1.same s1.t⟩ ?_ ?_⟩
    · rintro i σ H2 hi ⟨rv,v4,rfl,q,hrow⟩
      refine⟨(by show i < ws.toArray.size;simpa using hi),fun x H' hy=>?_⟩
      obtain⟨rfl,c,hc,rfl⟩:=hy
      have hc:=tx_get hc
      have hcl:=hw c (List.mem_of_getElem? hc)
      have tO:=O.tabO hcl
      refine⟨_,rfl,_,rfl,_,rfl,_,rfl,_,l,n,st,ts,en,c,rfl,⟨hm.same q.t,O,hcl⟩,fun tbv htb=>?_⟩
      refine⟨_,_,_,_,_,n,rfl,⟨hk.same q,hrow,htb,ahO_len O.sl,tO.1,tO.2,n20⟩,fun v H3 s3 r3=>?_⟩
      refine⟨_,_,rfl,q.trans s3,?_⟩
      rw[List.take_succ,hc]
      show CR (ahO l ts n st (ws.take i++[c])) v H3
      rw[ahO_snoc];exact r3
    · rintro σ H2 ⟨rv,v4,rfl,q,hrow⟩
      rw[List.take_length]at hrow
      exact⟨(by show ws.toArray.size≤_;simp),_,rfl,k _ _ q hrow⟩
def sp_weight(t:Adr):Sp:=fun vs H Q _=>∃kv mv l n st ts en ww,vs=[kv,mv,vT ww]∧(KC t kv H∧CM l st ts en mv H∧CMok l n st ts en∧(∀x∈ww,x∈l)∧ww.length≤100)∧∀H',Same H H'→Q (oV (wtO l ts n st en ww)) H'
theorem ok_weight(T:Txt K mg t):FnOk Pr w K mg base CX0 5 t.weight t.d_weight ["kind","machine","word"] (sp_weight t):=by
  refine T.F_weight.ok sc_weight (fun vs H Q E h=>?_) (fun cdv A outer s H vs Q E hr h=>?_)
  · obtain⟨kv,mv,l,n,st,ts,en,ws,rfl,_⟩:=h
    rfl
  · obtain⟨kv,mv,l,n,st,ts,en,ws,rfl,⟨hk,hm,O,hw,wl⟩,k⟩:=h
    obtain⟨p,sv,tv,ev,rfl,hp,h1,h2,h3⟩:=id hm
    refine⟨_,(pss_one (ps_ret (pe_call (ok_dot T) hr.m rfl T.m_dot T.F_dot.kp T.b_dot .nil pass0 (pa_cons (pv 0) (pa_cons (pe_call (ok_ahead T) hr.m rfl T.m_ahead T.F_ahead.kp T.b_ahead .nil pass0 (pa_cons (pv 0) (pa_cons (pv 1) (pa_cons (pv 2) pa_nil)))) (pa_cons (pe_ix ix_tup (pv 1) pe_int (fun _ _=>rfl)) pa_nil)))))),?_⟩
    refine⟨_,rfl,_,rfl,_,rfl,_,rfl,_,_,l,n,st,ts,en,ws,rfl,⟨hk,hm,O,hw,wl⟩,fun v H1 s1 r1=>?_⟩
    refine⟨_,rfl,_,_,_,_,rfl,rfl,SqT.of (s1 _ _ hp),rfl,_,_,_,_,en,n,rfl,⟨hk.same s1,r1,h3.same s1.t,ahO_len O.sl,O.el,O.n20⟩,fun H2 s2=>?_⟩
    exact k _ (s1.trans s2)
theorem iteD{b:Bool}{A B:Prop}(h1:b=true→A)(h2:b=false→B):if b=true then A else B:=by
  cases b with
  | true=>exact h1 rfl
  | false=>exact(by simpa using h2 rfl)
def sp_less:Sp:=fun vs H Q _=>∃x y,vs=[oV x,oV y]∧Q (oV (omin x y)) H
theorem ok_law_less(T:Txt K mg t):FnOk Pr w K mg base CX0 1 t.law_less t.d_law_less ["_law_x","_law_y"] sp_less:=by
  refine T.F_law_less.ok sc_law_less (fun vs H Q E h=>?_) (fun cdv A outer s H vs Q E hr h=>?_)
  · obtain⟨x,y,rfl,_⟩:=h
    rfl
  · obtain⟨x,y,rfl,k⟩:=h
    refine⟨_,(pss_cons (ps_if (PW.pt (pw_or (pt_cmpR op_isN (pv 0) pe_non (nomark _)) (pw_or1 (PW.pt (pw_and (pt_cmpR op_notN (pv 1) pe_non (nomark _)) (pw_and1 (pt_cmpR op_lt (pv 1) (pv 0) (nomark _)))))))) (pss_one (ps_ret (pv 1))) pss_nil) (pss_one (ps_ret (pv 0)))),?_⟩
    refine⟨_,rfl,rfl,_,rfl,?_⟩
    cases x with
    | none=>
      refine iteT (iteT ?_)
      exact⟨_,rfl,k⟩
    | some a=>
      refine iteN (decide_eq_false (fun e=>by cases e)) ?_
      refine⟨_,rfl,rfl,_,rfl,?_⟩
      cases y with
      | none=>
        refine iteN rfl (iteF ?_)
        exact⟨_,rfl,k⟩
      | some b=>
        refine iteY rfl ?_
        refine⟨_,rfl,_,rfl,_,_,rfl,rfl,_,rfl,?_⟩
        have k:Q (.int (if b < a then b else a)) H:=k
        refine iteP (fun h=>?_) (fun h=>?_)
        · rw[if_pos h]at k
          exact⟨_,rfl,k⟩
        · rw[if_neg h]at k
          exact⟨_,rfl,k⟩
theorem mkO_ext{n:Nat}{f g:Nat→Option Int}(h:∀k,k < n→f k=g k):mkO n f=mkO n g:=by
  unfold mkO
  exact List.map_congr_left fun k hk=>h k (List.mem_range.mp hk)
theorem mkO_set{n q:Nat}{f g:Nat→Option Int}{z:Option Int}(hq:q < n)(h:∀k,k < n→k≠q→f k=g k)(hz:g q=z):(mkO n f).set q z=mkO n g:=by
  refine List.ext_getElem? fun k=>?_
  rw[List.getElem?_set]
  by_cases e:q=k
  · subst e
    rw[if_pos rfl,if_pos (by rw[mkO_len];exact hq),mkO_get hq,hz]
  · rw[if_neg e]
    by_cases hk:k < n
    · rw[mkO_get hk,mkO_get hk,h k hk (fun z=>e z.symm)]
    · rw[List.getElem?_eq_none (by rw[mkO_len];omega),List.getElem?_eq_none (by rw[mkO_len];omega)]
theorem mkO_rep(n:Nat):List.replicate n (none:Option Int)=mkO n fun _=>none:=by
  unfold mkO
  rw[List.map_const',List.length_range]
def moO(m:List (List (Option Int)))(n:Nat)(r:List (Option Int))(j q:Nat):List (Option Int):=mkO n fun k=>dotO (org r) (fun i=>at2 m i k) (if k < q then j+1 else j)
theorem moO_same{m:List (List (Option Int))}{n:Nat}{r:List (Option Int)}{j q:Nat}(h:oadd (org r j) (at2 m j q)=none):moO m n r j q=moO m n r j (q+1):=by
  refine mkO_ext fun k hk=>?_
  by_cases e:k=q
  · subst e
    rw[if_neg (by omega),if_pos (by omega)]
    show _=omin _ _
    rw[h,omin_none]
  · by_cases l:k < q
    · rw[if_pos l,if_pos (by omega)]
    · rw[if_neg l,if_neg (by omega)]
theorem moO_set{m:List (List (Option Int))}{n:Nat}{r:List (Option Int)}{j q:Nat}(hq:q < n):(moO m n r j q).set q (omin (org (moO m n r j q) q) (oadd (org r j) (at2 m j q)))=moO m n r j (q+1):=by
  refine mkO_set hq (fun k hk e=>?_) ?_
  · by_cases l:k < q
    · rw[if_pos l,if_pos (by omega)]
    · rw[if_neg l,if_neg (by omega)]
  · unfold moO
    rw[org_mkO hq,if_pos (by omega),if_neg (by omega)];rfl
theorem moO_next{m:List (List (Option Int))}{n:Nat}{r:List (Option Int)}{j:Nat}:moO m n r j n=moO m n r (j+1) 0:=mkO_ext fun k hk=>by rw[if_pos hk,if_neg (by omega)]
theorem moO_zero{m:List (List (Option Int))}{n:Nat}{r:List (Option Int)}:moO m n r 0 0=mkO n fun _=>none:=mkO_ext fun k hk=>by rw[if_neg (by omega)];rfl
theorem moO_end{m:List (List (Option Int))}{n:Nat}{r:List (Option Int)}:moO m n r n 0=rowO m n r:=mkO_ext fun k hk=>by rw[if_neg (by omega)]
def sp_weigh:Sp:=fun vs H Q _=>∃mv l n st ts en ww,vs=[mv,vT ww]∧(CM l st ts en mv H∧CMok l n st ts en∧(∀x∈ww,x∈l))∧∀H',Same H H'→Q (oV (wtO l ts n st en ww)) H'
theorem ok_law_weigh(T:Txt K mg t):FnOk Pr w K mg base CX0 3 t.law_weigh t.d_law_weigh ["_law_machine","_law_word"] sp_weigh:=by
  refine T.F_law_weigh.ok sc_law_weigh (fun vs H Q E h=>?_) (fun cdv A outer s H vs Q E hr h=>?_)
  · obtain⟨mv,l,n,st,ts,en,ww,rfl,_⟩:=h
    rfl
  · obtain⟨mv,l,n,st,ts,en,ww,rfl,⟨hM,O,hw⟩,k⟩:=h
    have zl:10000 < sizeLine:=by decide
    have n20:=O.n20
    obtain⟨mp,sv,tv,ev,rfl,hp,⟨sp,rfl,hsp⟩,ht,⟨ep,rfl,hep⟩⟩:=id hM
    obtain⟨tq,tvs,rfl,htq,et⟩:=id ht
    have ls:LenV K (.ref sp) H n:=.inr ⟨_,SqT.of hsp,by rw[List.length_map,O.sl]⟩
    refine⟨_,(pss_cons (ps_set (i:=2) sc_law_weigh.nd rfl (Or.inl rfl) (pe_callB call_len (by rfl) T.z_len PySem.boot_len (pa_cons (pe_ix ix_tup (pv 0) pe_int (fun _ _=>rfl)) pa_nil))) (pss_cons (ps_set (i:=3) sc_law_weigh.nd rfl (Or.inl rfl) (pe_callTy call_list_of (by rfl) T.z_list boot_list (pa_cons (pe_ix ix_tup (pv 0) pe_int (fun _ _=>rfl)) pa_nil))) (pss_cons (ps_for PassesOwn.never rfl (pi_str (pv 1)) (pg_name (i:=4) sc_law_weigh.nd rfl (Or.inl rfl)) (pss_cons (ps_set (i:=5) sc_law_weigh.nd rfl (Or.inl rfl) (pe_ix ix_tup (pe_ix ix_tup (pv 0) pe_int (fun _ _=>rfl)) (pe_bm PySem.F.plainAttrs_str PySem.F.slot_str_index PySem.F.type_str_index mt_indexS (pe_ix ix_tup (pv 0) pe_int (fun _ _=>rfl)) (pa_cons (pv 4) pa_nil)) (fun _ _=>rfl))) (pss_cons (ps_set (i:=6) sc_law_weigh.nd rfl (Or.inl rfl) (pe_op op_rep (pe_lst (pa_cons pe_non pa_nil)) (pv 2))) (pss_cons (ps_for PassesOwn.never rfl (pi_range1 rfl T.z_range (pa_cons (pv 2) pa_nil)) (pg_name (i:=7) sc_law_weigh.nd rfl (Or.inl rfl)) (pss_one (ps_for PassesOwn.never rfl (pi_range1 rfl T.z_range (pa_cons (pv 2) pa_nil)) (pg_name (i:=8) sc_law_weigh.nd rfl (Or.inl rfl)) (pss_one (ps_if (PW.pt (pw_and (pt_cmpR op_notN (pe_ix ix_list (pv 3) (pv 7) (fun _ _=>rfl)) pe_non (nomark _)) (pw_and1 (pt_cmpR op_notN (pe_ix ix_tup (pe_ix ix_tup (pv 5) (pv 7) (fun _ _=>rfl)) (pv 8) (fun _ _=>rfl)) pe_non (nomark _))))) (pss_one (ps_asg (pe_call (ok_law_less T) hr.m rfl T.m_law_less T.F_law_less.kp T.b_law_less .nil pass0 (pa_cons (pe_ix ix_list (pv 6) (pv 8) (fun _ _=>rfl)) (pa_cons (pe_op op_add (pe_ix ix_list (pv 3) (pv 7) (fun _ _=>rfl)) (pe_ix ix_tup (pe_ix ix_tup (pv 5) (pv 7) (fun _ _=>rfl)) (pv 8) (fun _ _=>rfl))) pa_nil))) (pg_sub (pv 6) (pv 8) set_list))) pss_nil))))) (pss_one (ps_set (i:=3) sc_law_weigh.nd rfl (Or.inl rfl) (pv 6))))))) (pss_cons (ps_set (i:=9) sc_law_weigh.nd rfl (Or.inl rfl) pe_non) (pss_cons (ps_for PassesOwn.never rfl (pi_range1 rfl T.z_range (pa_cons (pv 2) pa_nil)) (pg_name (i:=8) sc_law_weigh.nd rfl (Or.inl rfl)) (pss_one (ps_if (PW.pt (pw_and (pt_cmpR op_notN (pe_ix ix_list (pv 3) (pv 8) (fun _ _=>rfl)) pe_non (nomark _)) (pw_and1 (pt_cmpR op_notN (pe_ix ix_tup (pe_ix ix_tup (pv 0) pe_int (fun _ _=>rfl)) (pv 8) (fun _ _=>rfl)) pe_non (nomark _))))) (pss_one (ps_set (i:=9) sc_law_weigh.nd rfl (Or.inl rfl) (pe_call (ok_law_less T) hr.m rfl T.m_law_less T.F_law_less.kp T.b_law_less .nil pass0 (pa_cons (pv 9) (pa_cons (pe_op op_add (pe_ix ix_list (pv 3) (pv 8) (fun _ _=>rfl)) (pe_ix ix_tup (pe_ix ix_tup (pv 0) pe_int (fun _ _=>rfl)) (pv 8) (fun _ _=>rfl))) pa_nil))))) pss_nil))) (pss_one (ps_ret (pv 9)))))))),?_⟩
    refine⟨_,rfl,_,_,_,_,rfl,rfl,SqT.of hp,rfl,_,_,rfl,ls,?_⟩
    show gName 2 (.int (n:Int)) [some (.ref mp),some (vT ww),none,none,none,none,none,none,none,none] H _
    refine⟨_,rfl,_,_,_,_,rfl,rfl,SqT.of hp,rfl,sp,_,rfl,.inr (SqT.of hsp),fun rp nrp=>?_⟩
    have t1:=same_upd (o:=.lst (st.map oV)) nrp
    have k1:upd H rp (.lst (st.map oV)) rp=some (.lst (st.map oV)):=upd_same
    revert t1 k1
    generalize upd H rp (.lst (st.map oV))=H1
    intro t1 k1
    show gName 3 (.ref rp) [some (.ref mp),some (vT ww),some (.int (n:Int)),none,none,none,none,none,none,none] H1 _
    refine⟨_,rfl,tx ww,rfl,wd_asc O.lk hw,for_it (n:=ww.length) (fun i σ H2=>∃rp v4 v5 v6 v7 v8,σ=[some (.ref mp),some (vT ww),some (.int (n:Int)),some (.ref rp),v4,v5,v6,v7,v8,none]∧Same H H2∧H2 rp=some (.lst ((ahO l ts n st (ww.take i)).map oV))) ⟨rp,_,_,_,_,_,rfl,t1,k1⟩ ?_ ?_⟩
    · rintro i σ H2 hi ⟨rp,v4,v5,v6,v7,v8,rfl,s2,k2⟩
      have rl:(ahO l ts n st (ww.take i)).length=n:=ahO_len O.sl
      refine⟨(by show i < ww.toArray.size;simpa using hi),fun y G2 hy=>?_⟩
      obtain⟨rfl,x,hx,rfl⟩:=hy
      have hx:ww[i]? = some x:=tx_get hx
      have eS:ahO l ts n st (ww.take (i+1))=rowO (tabO l ts x) n (ahO l ts n st (ww.take i)):=by
        rw[List.take_succ,hx];exact ahO_snoc
      rw[eS]
      generalize ahO l ts n st (ww.take i)=r at k2 rl
      have hxl:=hw x (List.mem_of_getElem? hx)
      have il:=O.il x hxl
      obtain⟨u,eu,m,em,hu⟩:=et.2 (l.idxOf x) il
      have hmm:=List.mem_of_getElem? em
      have hm:=O.tb m hmm
      have em':tabO l ts x=m:=by unfold tabO;rw[em];rfl
      rw[em']
      refine⟨_,rfl,_,_,_,_,rfl,rfl,SqT.of (s2 _ _ hp),rfl,_,rfl,_,_,_,_,rfl,rfl,SqT.of (s2 _ _ hp),rfl,rfl,_,rfl,tx l,tx [x],l.idxOf x,[],rfl,rfl,occ_of O.lk hxl,tq,tvs,_,_,rfl,rfl,SqT.of (s2 _ _ htq),atI_nat eu,?_⟩
      show gName 5 u [some (.ref mp),some (vT ww),some (.int (n:Int)),some (.ref rp),some (.str ⟨#[x]⟩),v5,v6,v7,v8,none] G2 _
      refine⟨(by show 1≤sizeLine;omega),fun np nnp=>?_⟩
      have t3:=same_upd (o:=.lst [.non]) nnp
      have kn:upd G2 np (.lst [.non]) np=some (.lst [.non]):=upd_same
      have s3:=s2.trans t3
      have k3:=t3 _ _ k2
      clear t3
      revert kn s3 k3
      generalize upd G2 np (.lst [.non])=H3
      intro kn s3 k3
      refine⟨_,rfl,np,_,_,rfl,rfl,kn,(by omega),(by omega),(by show 1 * _≤_;omega),fun mo nmo=>?_⟩
      have er:(List.replicate (n:Int).toNat [V.non]).flatten=(moO m n r 0 0).map oV:=by rw[moO_zero,← mkO_rep,rep_one,List.map_replicate,show(n:Int).toNat=n by omega];rfl
      rw[er]
      show gName 6 (.ref mo) [some (.ref mp),some (vT ww),some (.int (n:Int)),some (.ref rp),some (.str ⟨#[x]⟩),some u,v6,v7,v8,none] (upd H3 mo (.lst ((moO m n r 0 0).map oV))) _
      refine⟨_,rfl,_,rfl,(by omega),(by omega),for_range (lo:=0) (n:=(n:Int).toNat) (fun j σ H4=>∃v7 v8,σ=[some (.ref mp),some (vT ww),some (.int (n:Int)),some (.ref rp),some (.str ⟨#[x]⟩),some u,some (.ref mo),v7,v8,none]∧Same H3 H4∧H4 mo=some (.lst ((moO m n r j 0).map oV))) ⟨_,_,rfl,(Same.refl _).put nmo,upd_same⟩ ?_ ?_⟩
      · rintro j σ H4 hj ⟨v7,v8,rfl,s4,k4⟩
        refine⟨_,rfl,_,rfl,(by omega),(by omega),for_range (lo:=0) (n:=(n:Int).toNat) (fun q σ H5=>∃v8,σ=[some (.ref mp),some (vT ww),some (.int (n:Int)),some (.ref rp),some (.str ⟨#[x]⟩),some u,some (.ref mo),some (.int (0+(j:Int))),v8,none]∧Same H3 H5∧H5 mo=some (.lst ((moO m n r j q).map oV))) ⟨_,rfl,s4,k4⟩ ?_ ?_⟩
        · clear k4 s4
          rintro q σ H5 hq ⟨v8,rfl,s5,k5⟩
          have h0:(0:Int)+(j:Int)=((j:Nat):Int):=by omega
          have h1:(0:Int)+(q:Int)=((q:Nat):Int):=by omega
          rw[h0,h1]
          have k5r:=s5 _ _ k3
          have aj:=at_oV (r:=r) (j:=j) (by omega)
          have aq:=at_oV (r:=moO m n r j q) (j:=q) (by unfold moO;rw[mkO_len];omega)
          obtain⟨p2,vs2,q2,r2,rfl,h2,a2,er2,hq2⟩:=(CT.same (s3.trans s5).t hu).row (i:=j) (by rw[hm.1];omega)
          have r2l:=hm.2 r2 (List.mem_of_getElem? er2)
          have a3:=at_oV (r:=r2) (j:=q) (by omega)
          rw[← at2_row er2]at a3
          refine⟨_,rfl,_,rfl,_,_,_,_,rfl,rfl,SqL.of k5r,aj,rfl,_,rfl,?_⟩
          cases eo:org r j with
          | none=>
            refine iteN rfl (iteF ⟨_,rfl,s5,?_⟩)
            rw[← moO_same (by rw[eo];rfl)];exact k5
          | some b=>
            rw[eo]at aj
            refine iteY rfl ?_
            refine⟨_,rfl,_,rfl,_,_,_,_,rfl,rfl,SqT.of h2,a2,_,rfl,_,_,_,_,rfl,rfl,SqT.of hq2,a3,rfl,_,rfl,?_⟩
            cases eg:at2 m j q with
            | none=>
              refine iteN rfl ⟨_,rfl,s5,?_⟩
              rw[← moO_same (by rw[eg,oadd_none])];exact k5
            | some g=>
              rw[eg]at a3
              refine iteY rfl ?_
              refine⟨_,rfl,_,rfl,_,_,_,_,rfl,rfl,SqL.of k5,aq,_,rfl,_,rfl,_,_,_,_,rfl,rfl,SqL.of k5r,aj,_,rfl,_,rfl,_,_,_,_,rfl,rfl,SqT.of h2,a2,_,rfl,_,_,_,_,rfl,rfl,SqT.of hq2,a3,_,_,rfl,rfl,org (moO m n r j q) q,some (b+g),rfl,?_⟩
              refine⟨_,rfl,_,rfl,mo,_,_,q,rfl,rfl,k5,(by rw[List.length_map];exact ixN_of (by unfold moO;rw[mkO_len];omega)),?_⟩
              refine⟨_,rfl,s5.put nmo,?_⟩
              have es:=moO_set (m:=m) (n:=n) (r:=r) (j:=j) (q:=q) (by omega)
              rw[eo,eg]at es
              rw[← es,List.map_set]
              exact upd_same
        · rintro σ H5 ⟨v8,rfl,s5,k5⟩
          have e:(n:Int).toNat=n:=by omega
          rw[e,moO_next]at k5
          exact⟨_,_,rfl,s5,k5⟩
      · rintro σ H4 ⟨v7,v8,rfl,s4,k4⟩
        have e:(n:Int).toNat=n:=by omega
        rw[e,moO_end]at k4
        exact⟨_,rfl,mo,_,_,_,_,_,rfl,s3.trans s4,k4⟩
    · rintro σ H2 ⟨rp,v4,v5,v6,v7,v8,rfl,s2,k2⟩
      have rl:(ahO l ts n st (ww.take ww.length)).length=n:=ahO_len O.sl
      refine⟨(by show ww.toArray.size≤ww.length;simp),?_⟩
      have k:∀H',Same H H'→Q (oV (dotO (org (ahO l ts n st (ww.take ww.length))) (org en) n)) H':=by rw[List.take_length];exact k
      generalize ahO l ts n st (ww.take ww.length)=r at k2 rl k
      refine⟨_,rfl,_,rfl,(by omega),(by omega),for_range (lo:=0) (n:=(n:Int).toNat) (fun q σ H3=>H3=H2∧∃v8,σ=[some (.ref mp),some (vT ww),some (.int (n:Int)),some (.ref rp),v4,v5,v6,v7,v8,some (oV (dotO (org r) (org en) q))]) ⟨rfl,_,rfl⟩ ?_ ?_⟩
      · rintro q σ H3 hq ⟨rfl,v8,rfl⟩
        have h1:(0:Int)+(q:Int)=((q:Nat):Int):=by omega
        rw[h1]
        have aq:=at_oV (r:=r) (j:=q) (by omega)
        have ae:=at_oV (r:=en) (j:=q) (by rw[O.el];omega)
        have e1:dotO (org r) (org en) (q+1)=omin (dotO (org r) (org en) q) (oadd (org r q) (org en q)):=rfl
        rw[e1]
        refine⟨_,rfl,_,rfl,_,_,_,_,rfl,rfl,SqL.of k2,aq,rfl,_,rfl,?_⟩
        cases eo:org r q with
        | none=>
          refine iteN rfl (iteF ⟨rfl,some (.int ((q:Nat):Int)),?_⟩)
          rw[show oadd none (org en q)=none from rfl,omin_none];rfl
        | some b=>
          rw[eo]at aq
          refine iteY rfl ?_
          refine⟨_,rfl,_,_,_,_,rfl,rfl,SqT.of (s2 _ _ hp),rfl,_,rfl,_,_,_,_,rfl,rfl,SqT.of (s2 _ _ hep),ae,rfl,_,rfl,?_⟩
          cases eg:org en q with
          | none=>
            refine iteN rfl ⟨rfl,some (.int ((q:Nat):Int)),?_⟩
            rw[oadd_none,omin_none];rfl
          | some g=>
            rw[eg]at ae
            refine iteY rfl ?_
            refine⟨_,rfl,_,rfl,_,rfl,_,_,_,_,rfl,rfl,SqL.of k2,aq,_,rfl,_,_,_,_,rfl,rfl,SqT.of (s2 _ _ hp),rfl,_,rfl,_,_,_,_,rfl,rfl,SqT.of (s2 _ _ hep),ae,_,_,rfl,rfl,dotO (org r) (org en) q,some (b+g),rfl,?_⟩
            exact⟨rfl,_,rfl⟩
      · rintro σ H3 ⟨rfl,v8,rfl⟩
        rw[show(n:Int).toNat=n by omega]
        exact⟨_,rfl,k _ s2⟩
def WsL(l:List Nat)(ws:List (List Nat))(m:Nat):Prop:=∀v∈ws,v.length≤m∧∀x∈v,x∈l
def sp_words:Sp:=fun vs H Q _=>∃l,vs=[vT l,.int 3]∧LOk l∧∀a ws H',Same H H'→H' a=some (.lst (ws.map vT))→WsL l ws 3→ws.length≤60→Q (.ref a) H'
theorem ok_law_some_words(T:Txt K mg t):FnOk Pr w K mg base CX0 3 t.law_some_words t.d_law_some_words ["_law_letters_here","_law_most"] sp_words:=by
  refine T.F_law_some_words.ok sc_law_some_words (fun vs H Q E h=>?_) (fun cdv A outer s H vs Q E hr h=>?_)
  · obtain⟨l,rfl,_⟩:=h
    rfl
  · obtain⟨l,rfl,L,k⟩:=h
    have zl:10000 < sizeLine:=by decide
    have l3:=L.h3
    refine⟨_,(pss_cons (ps_set (i:=2) sc_law_some_words.nd rfl (Or.inl rfl) (pe_lst (pa_cons pe_str pa_nil))) (pss_cons (ps_set (i:=3) sc_law_some_words.nd rfl (Or.inl rfl) (pe_lst (pa_cons pe_str pa_nil))) (pss_cons (ps_for PassesOwn.never rfl (pi_range1 rfl T.z_range (pa_cons (pv 1) pa_nil)) (pg_name (i:=4) sc_law_some_words.nd rfl (Or.inl rfl)) (pss_cons (ps_set (i:=5) sc_law_some_words.nd rfl (Or.inl rfl) (pe_lst pa_nil)) (pss_cons (ps_for PassesOwn.never rfl (pi_list (pv 3)) (pg_name (i:=6) sc_law_some_words.nd rfl (Or.inl rfl)) (pss_one (ps_for PassesOwn.never rfl (pi_str (pv 0)) (pg_name (i:=7) sc_law_some_words.nd rfl (Or.inl rfl)) (pss_one (ps_expr (pe_bm PySem.F.plainAttrs_list PySem.F.slot_list_append PySem.F.type_list_append mt_append (pv 5) (pa_cons (pe_op op_add_str (pv 6) (pv 7)) pa_nil))))))) (pss_cons (ps_set (i:=3) sc_law_some_words.nd rfl (Or.inl rfl) (pv 5)) (pss_one (ps_aug (i:=2) sc_law_some_words.nd rfl (Or.inl rfl) (pv 3) ip_lst)))))) (pss_one (ps_ret (pv 2)))))),?_⟩
    refine⟨(by show 1≤sizeLine;omega),fun sp nsp=>?_⟩
    have t1:=same_upd (o:=.lst [.str (Str.ofString "")]) nsp
    have k1:upd H sp (.lst [.str (Str.ofString "")]) sp=some (.lst (([[]]:List (List Nat)).map vT)):=by
      show _=some (HO.lst [V.str (tx [])])
      rw[← em_is];exact upd_same
    revert t1 k1
    generalize upd H sp (.lst [.str (Str.ofString "")])=H1
    intro t1 k1
    show gName 2 (.ref sp) [some (vT l),some (.int 3),none,none,none,none,none,none] H1 _
    refine⟨(by show 1≤sizeLine;omega),fun lp nlp=>?_⟩
    have t2:=same_upd (o:=.lst [.str (Str.ofString "")]) nlp
    have k2:upd H1 lp (.lst [.str (Str.ofString "")]) lp=some (.lst (([[]]:List (List Nat)).map vT)):=by
      show _=some (HO.lst [V.str (tx [])])
      rw[← em_is];exact upd_same
    have k2s:=t2 _ _ k1
    have s2:=t1.trans t2
    have nls:lp≠sp:=fun e=>by rw[e,k1]at nlp;cases nlp
    clear t2 t1 nlp k1
    revert k2 k2s s2
    generalize upd H1 lp (.lst [.str (Str.ofString "")])=H2
    intro k2 k2s s2
    show gName 3 (.ref lp) [some (vT l),some (.int 3),some (.ref sp),none,none,none,none,none] H2 _
    refine⟨_,rfl,_,rfl,(by decide),(by decide),for_range (lo:=0) (n:=(3:Int).toNat) (fun i σ H3=>∃lp v4 v5 v6 v7 ws lv,σ=[some (vT l),some (.int 3),some (.ref sp),some (.ref lp),v4,v5,v6,v7]∧Same H H3∧H3 sp=some (.lst (ws.map vT))∧H3 lp=some (.lst (lv.map vT))∧lp≠sp∧WsL l ws i∧WsL l lv i∧lv.length≤3 ^ i∧ws.length≤2 * 3 ^ i) ⟨lp,_,_,_,_,[[]],[[]],rfl,s2,k2s,k2,nls,(fun v hv=>by rw[List.mem_singleton.mp hv];exact⟨Nat.le_refl _,fun x hx=>by cases hx⟩),(fun v hv=>by rw[List.mem_singleton.mp hv];exact⟨Nat.le_refl _,fun x hx=>by cases hx⟩),by decide,by decide⟩ ?_ ?_⟩
    · clear k2 k2s s2 nls
      rintro i σ H3 hi ⟨lp,v4,v5,v6,v7,ws,lv,rfl,s3,k3,k3l,nls,w3,w3l,ll,wl⟩
      have hi:i < 3:=hi
      have l9:lv.length≤9:=by
        rcases(by omega:i=0∨i=1∨i=2)with rfl | rfl | rfl
        · exact Nat.le_trans ll (by decide)
        · exact Nat.le_trans ll (by decide)
        · exact Nat.le_trans ll (by decide)
      refine⟨Nat.zero_le _,fun mo nmo=>?_⟩
      show gName 5 (.ref mo) [some (vT l),some (.int 3),some (.ref sp),some (.ref lp),some (.int (0+(i:Int))),v5,v6,v7] (upd H3 mo (.lst [])) _
      have t4:=same_upd (o:=.lst []) nmo
      refine⟨_,rfl,lp,rfl,⟨_,SqL.of (t4 _ _ k3l)⟩,for_list (K:=K) (a:=lp) (xs:=lv.map vT) (fun q σ H4=>∃v6 v7 mw,σ=[some (vT l),some (.int 3),some (.ref sp),some (.ref lp),some (.int (0+(i:Int))),some (.ref mo),v6,v7]∧Same H3 H4∧H4 mo=some (.lst (mw.map vT))∧WsL l mw (i+1)∧mw.length≤q * l.length) ⟨_,_,[],rfl,(Same.refl _).put nmo,upd_same,(fun v hv=>by cases hv),Nat.zero_le _⟩ (fun q σ H4 _ ⟨_,_,_,_,s4,_⟩=>SqL.of (s4 _ _ k3l)) ?_ ?_⟩
      · rintro q x σ H4 hx ⟨v6,v7,mw,rfl,s4,k4,w4,l4⟩
        obtain⟨v,ev,rfl⟩:∃v,lv[q]? = some v∧x=vT v:=by
          rw[List.getElem?_map]at hx
          cases e:lv[q]? with
          | none=>rw[e]at hx;cases hx
          | some v=>rw[e]at hx;cases hx;exact⟨v,rfl,rfl⟩
        have hq:q < lv.length:=(List.getElem?_eq_some_iff.mp ev).1
        obtain⟨vl,vm⟩:=w3l v (List.mem_of_getElem? ev)
        refine⟨_,rfl,tx l,rfl,L.asc,for_it (n:=l.length) (fun z σ H5=>∃v7 mw,σ=[some (vT l),some (.int 3),some (.ref sp),some (.ref lp),some (.int (0+(i:Int))),some (.ref mo),some (vT v),v7]∧Same H3 H5∧H5 mo=some (.lst (mw.map vT))∧WsL l mw (i+1)∧mw.length≤q * l.length+z) ⟨_,mw,rfl,s4,k4,w4,l4⟩ ?_ ?_⟩
        · clear s4 k4 w4 l4
          rintro z σ H5 hz ⟨v7,mw,rfl,s5,k5,w5,l5⟩
          refine⟨(by show z < l.toArray.size;simpa using hz),fun y G5 hy=>?_⟩
          obtain⟨rfl,c,hc,rfl⟩:=hy
          have hc:l[z]? = some c:=by simpa [tx] using hc
          have hb:q * l.length+z≤8 * 3+3:=Nat.add_le_add (Nat.mul_le_mul (by omega) l3) (by omega)
          refine⟨_,rfl,.inl ⟨rfl,_,SqL.of k5⟩,_,rfl,_,rfl,tx v,tx [c],rfl,rfl,(by rw[tx_len,tx_len];show _+1≤_;omega),mo,_,_,rfl,rfl,k5,(by rw[List.length_map];omega),?_⟩
          refine⟨_,mw++[v++[c]],rfl,s5.put nmo,by rw[List.map_append,tx_app];exact upd_same,fun u hu=>?_,by rw[List.length_append,List.length_singleton];omega⟩
          rcases List.mem_append.mp hu with hu | hu
          · exact w5 u hu
          · rw[List.mem_singleton.mp hu]
            refine⟨by rw[List.length_append];show _+1≤_;omega,fun x hx=>?_⟩
            rcases List.mem_append.mp hx with hx | hx
            · exact vm x hx
            · rw[List.mem_singleton.mp hx];exact List.mem_of_getElem? hc
        · rintro σ H5 ⟨v7,mw,rfl,s5,k5,w5,l5⟩
          refine⟨(by show l.toArray.size≤l.length;simp),_,_,mw,rfl,s5,k5,w5,by rw[Nat.succ_mul];exact l5⟩
      · rintro σ H4 ⟨v6,v7,mw,rfl,s4,k4,w4,l4⟩
        rw[List.length_map]at l4
        have nms:mo≠sp:=fun e=>by rw[e,k3]at nmo;cases nmo
        have k4s:=s4 _ _ k3
        have ml:mw.length≤27:=Nat.le_trans l4 (Nat.mul_le_mul l9 l3)
        have hpw:mw.length≤3 ^ (i+1):=by rw[Nat.pow_succ];exact Nat.le_trans l4 (Nat.mul_le_mul ll l3)
        have wl2:ws.length≤18:=by
          rcases(by omega:i=0∨i=1∨i=2)with rfl | rfl | rfl
          · exact Nat.le_trans wl (by decide)
          · exact Nat.le_trans wl (by decide)
          · exact Nat.le_trans wl (by decide)
        refine⟨_,rfl,?_⟩
        refine⟨_,rfl,_,rfl,sp,mo,_,_,rfl,rfl,k4s,k4,(by rw[List.length_map,List.length_map];omega),?_⟩
        refine⟨mo,_,_,_,_,ws++mw,mw,rfl,(s3.trans s4).put nsp,by rw[List.map_append];exact upd_same,by rw[upd_ne nms];exact k4,nms,fun v hv=>?_,w4,hpw,by rw[List.length_append,Nat.pow_succ];rw[Nat.pow_succ]at hpw;omega⟩
        rcases List.mem_append.mp hv with hv | hv
        · exact⟨Nat.le_succ_of_le (w3 v hv).1,(w3 v hv).2⟩
        · exact w4 v hv
    · rintro σ H3 ⟨lp,v4,v5,v6,v7,ws,lv,rfl,s3,k3,k3l,nls,w3,w3l,ll,wl⟩
      exact⟨_,rfl,k sp ws H3 s3 k3 w3 (Nat.le_trans wl (by decide))⟩
def oD:Option Int→PyData
  | none=>.none
  | some i=>.int i
theorem is_o{H:Hp}(x:Option Int):Is K H (oV x) (oD x):=by cases x;exact .non;exact .int _
theorem eq_o{x:Option Int}{H:Hp}{Q:VK}(k:Q (.bl true) H):rEqD K (oV x) (oV x) H Q:=by
  refine⟨oD x,oD x,is_o x,is_o x,?_,?_,?_,?_⟩
  · cases x <;>simp[oD,shaped,PyData.canLay0,PyData.depth]
  · cases x <;>simp[oD,shaped,PyData.canLay0,PyData.depth]
  · cases x <;>simp[oD,noMix]
  · have:PySem.Spec.same (oD x) (oD x)=true:=by cases x <;>simp[oD,PySem.Spec.same]
    rw[this];exact k
def sp_weighs:Sp:=fun vs H Q _=>∃mv l n st ts en ww,vs=[mv,vT ww]∧(CM l st ts en mv H∧CMok l n st ts en∧(∀x∈ww,x∈l)∧ww.length≤100)∧∀q H',Same H H'→H' q=some (.tup [.bl true,oV (wtO l ts n st en ww)])→Q (.ref q) H'
theorem ok_law_weighs(T:Txt K mg t):FnOk Pr w K mg base CX0 6 t.law_weighs t.d_law_weighs ["_law_machine","_law_word"] sp_weighs:=by
  refine T.F_law_weighs.ok sc_law_weighs (fun vs H Q E h=>?_) (fun cdv A outer s H vs Q E hr h=>?_)
  · obtain⟨mv,l,n,st,ts,en,ww,rfl,_⟩:=h
    rfl
  · obtain⟨mv,l,n,st,ts,en,ww,rfl,⟨hM,O,hw,wl⟩,k⟩:=h
    refine⟨_,(pss_cons (ps_set (i:=2) sc_law_weighs.nd rfl (Or.inl rfl) (pe_call (ok_weight T) hr.m rfl T.m_weight T.F_weight.kp T.b_weight .nil pass0 (pa_cons (pe_makeO T.M_Costs rfl T.m_Costs) (pa_cons (pv 0) (pa_cons (pv 1) pa_nil))))) (pss_cons (ps_if (PW.pt (pw_and (pt_cmpR op_notN (pv 2) pe_non (nomark _)) (pw_and1 (PW.pt (pw_or (pt_val (pe_callB call_isi (by rfl) T.z_isinstance boot_isinstance (pa_cons (pv 2) (pa_cons (pe_bltn (v:=.ty "bool") rfl T.z_bool boot_bool rfl) pa_nil)))) (pw_or1 (pt_not (pt_val (pe_callB call_isi (by rfl) T.z_isinstance boot_isinstance (pa_cons (pv 2) (pa_cons (pe_bltn (v:=.ty "int") rfl T.z_int boot_int rfl) pa_nil))))))))))) (pss_one (ps_ret (pe_tup (pa_cons pe_bl (pa_cons pe_non pa_nil))))) pss_nil) (pss_one (ps_ret (pe_tup (pa_cons (pe_cmpR (op_eqD hr.units) (pv 2) (pe_call (ok_law_weigh T) hr.m rfl T.m_law_weigh T.F_law_weigh.kp T.b_law_weigh .nil pass0 (pa_cons (pv 0) (pa_cons (pv 1) pa_nil))) (nomark _)) (pa_cons (pv 2) pa_nil))))))),?_⟩
    intro x dx nx ndx ne
    have t1:Same H (upd (upd H dx (.own x)) x (.ins t.Costs dx [])):=(Same.refl H |>.put ndx).put nx
    have hk:KC t (.ref x) (upd (upd H dx (.own x)) x (.ins t.Costs dx [])):=⟨x,dx,rfl,upd_same⟩
    revert t1 hk
    generalize upd (upd H dx (.own x)) x (.ins t.Costs dx [])=H1
    intro t1 hk
    refine⟨_,rfl,_,rfl,_,mv,l,n,st,ts,en,ww,rfl,⟨hk,hM.same t1.t,O,hw,wl⟩,fun H2 t2=>?_⟩
    have t12:=t1.trans t2
    show gName 2 (oV (wtO l ts n st en ww)) [some mv,some (vT ww),none] H2 _
    refine(fun(key:(?F:L2.St→Hp→Prop) [some mv,some (vT ww),some (oV (wtO l ts n st en ww))] H2)=>?main) ?rest
    case main=>
      cases e:wtO l ts n st en ww with
      | none=>
        rw[e]at key
        refine⟨_,rfl,rfl,_,rfl,iteN rfl (iteF ?_)⟩
        exact key
      | some v=>
        rw[e]at key
        refine⟨_,rfl,rfl,_,rfl,iteY rfl ?_⟩
        refine⟨_,rfl,_,_,_,_,rfl,.int _,T.k_ib,_,rfl,iteN rfl ?_⟩
        refine⟨_,rfl,_,_,_,_,rfl,.int _,T.k_ii,_,rfl,?_⟩
        exact key
    case rest=>
      refine⟨_,rfl,_,rfl,_,rfl,mv,l,n,st,ts,en,ww,rfl,⟨hM.same t12.t,O,hw⟩,fun H3 t3=>?_⟩
      refine eq_o ⟨_,rfl,(by show 2≤sizeLine;decide),fun q nq=>?_⟩
      exact k q _ ((t12.trans t3).trans (same_upd nq)) upd_same
theorem Wy_app{W:Nat→Nat→Nat→Int→Prop}{i j k:Nat}{w p w' p':List Nat}{c c':Int}(h:Wy W i j w p c)(g:Wy W j k w' p' c'):∃q,Wy W i k (w++w') q (c+c'):=by
  induction g with
  | one=>exact⟨p,by rw[List.append_nil,Int.add_zero];exact h⟩
  | snoc _ e ih=>
    obtain⟨q,hq⟩:=ih
    exact⟨_,by rw[← List.append_assoc,← Int.add_assoc];exact hq.snoc e⟩
theorem Wy_rep{W:Nat→Nat→Nat→Int→Prop}{i:Nat}{w p:List Nat}{c:Int}(h:Wy W i i w p c):∀k:Nat,∃q,Wy W i i (List.replicate k w).flatten q (k * c)
  | 0=>⟨[i],by rw[show((0:Nat):Int) * c=0 by simp];exact .one i⟩
  | k+1=>by
    obtain⟨q,hq⟩:=Wy_rep h k
    obtain⟨q',hq'⟩:=Wy_app h hq
    exact⟨q',by rw[List.replicate_succ,List.flatten_cons,show((k+1:Nat):Int) * c=c+k * c by rw[Int.natCast_add,Int.add_mul];simp[Int.add_comm]];exact hq'⟩
theorem repS_is(w:List Nat)(k:Nat)(h:k < 4):repS (tx w) (k:Int)=tx (List.replicate k w).flatten:=by
  have hl:(tx w).length=w.length:=tx_len w
  unfold repS
  rcases(by omega:k=0∨k=1∨k=2∨k=3)with rfl | rfl | rfl | rfl
  · rfl
  · simp
  · rw[if_neg (by decide)]
    by_cases e:w.length=0
    · have:w=[]:=List.eq_nil_of_length_eq_zero e
      subst this
      rfl
    · rw[if_neg (by rw[hl];simp[e])]
      simp[tx,List.replicate]
  · rw[if_neg (by decide)]
    by_cases e:w.length=0
    · have:w=[]:=List.eq_nil_of_length_eq_zero e
      subst this
      rfl
    · rw[if_neg (by rw[hl];simp[e])]
      simp[tx,List.replicate]
theorem Wy.lett{W:Nat→Nat→Nat→Int→Prop}{l:List Nat}{i j:Nat}{ww p:List Nat}{c:Int}(hW:∀a b x d,W a b x d→x∈l)(h:Wy W i j ww p c):∀y∈ww,y∈l:=by
  induction h with
  | one=>intro y hy;cases hy
  | snoc _ e ih=>
    intro y hy
    rcases List.mem_append.mp hy with hy | hy
    · exact ih y hy
    · rw[List.mem_singleton.mp hy];exact hW _ _ _ _ e
theorem WL.lett{l:List Nat}{ts:List (List (List (Option Int)))}{a b x:Nat}{d:Int}(h:WL l ts a b x d):x∈l:=by
  obtain⟨k,m,e,_⟩:=h
  exact List.mem_of_getElem? e
def sp_each:Sp:=fun vs H Q _=>∃mv q l n st ts en a b c w1 p1 w2 p2 w3 p3 x i1 i3 d1 d2 d3,vs=[mv,.ref q]∧(CM l st ts en mv H∧CMok l n st ts en∧n≤8∧H q=some (.tup [sFalls,.ref a,.ref b,.ref c])∧WW a w1 p1 H∧WW b w2 p2 H∧WW c w3 p3 H∧Fa l n st ts en w1 p1 w2 p2 w3 p3 x i1 i3 d1 d2 d3)∧∀H',Q (.bl true) H'
theorem ok_law_each_less(T:Txt K mg t):FnOk Pr w K mg base CX0 7 t.law_each_less t.d_law_each_less ["_law_machine","_law_answer"] sp_each:=by
  refine T.F_law_each_less.ok sc_law_each_less (fun vs H Q E h=>?_) (fun cdv A outer s H vs Q E hr h=>?_)
  · obtain⟨mv,q,l,n,st,ts,en,a,b,c,w1,p1,w2,p2,w3,p3,x,i1,i3,d1,d2,d3,rfl,_⟩:=h
    rfl
  · obtain⟨mv,q,l,n,st,ts,en,a,b,c,w1,p1,w2,p2,w3,p3,x,i1,i3,d1,d2,d3,rfl,⟨hM,O,n8,hq,h1,h2,h3,F⟩,k⟩:=h
    have zl:10000 < sizeLine:=by decide
    have f1:=F.l1
    have f2:=F.l2
    have f3:=F.l3
    have xn:=F.xn
    obtain⟨o1,ho1⟩:=F.o1
    obtain⟨o3,ho3⟩:=F.o3
    have b1:i1 < n:=by have:=org_lt ho1;rw[O.sl]at this;exact this
    have b3:i3 < n:=by have:=org_lt ho3;rw[O.el]at this;exact this
    have v1:=Wy_lt F.y1 (fun _ _ _ _ h=>WL_lt O h) b1
    have v2:=Wy_lt F.y2 (fun _ _ _ _ h=>WL_lt O h) xn
    have v3:=Wy_lt F.y3 (fun _ _ _ _ h=>WL_lt O h) xn
    have wl1:w1.length≤40∧w2.length≤40∧w3.length≤40:=by omega
    refine⟨_,(pss_cons (ps_if (pt_not (pt_val (pe_call (ok_law_falls T) hr.m rfl T.m_law_falls T.F_law_falls.kp T.b_law_falls .nil pass0 (pa_cons (pv 0) (pa_cons (pv 1) pa_nil))))) (pss_one (ps_ret pe_bl)) pss_nil) (pss_cons (ps_setC (i₀:=2) (xs:=["_law_pair"]) sc_law_each_less.nd rfl (Or.inl rfl) rfl (show CompOk ["_law_machine","_law_answer","_law_costs_here","_law_total","_law_k","_law_word","_law_good","_law_told"] (defScope s_law_each_less) _ from⟨rfl,by decide +kernel,by decide +kernel,by decide +kernel,by decide +kernel,by decide +kernel⟩) (pi_tup (pe_slice sl_tupA (pv 1) (po_some pe_int) po_none)) (fun _ _ _ _ _=>(pg_name (i:=8) (by show List.Nodup (["_law_machine","_law_answer","_law_costs_here","_law_total","_law_k","_law_word","_law_good","_law_told","_law_pair"]:List Str);decide +kernel) rfl (Or.inl rfl))) (fun _ _ _ _ _=>(pe_call (ok_law_walk (w:=w) (base:=base) T) hr.m rfl T.m_law_walk T.F_law_walk.kp T.b_law_walk .nil pass0 (pa_cons (pv 0) (pa_cons (pv 8) pa_nil))))) (pss_cons (ps_set (i:=3) sc_law_each_less.nd rfl (Or.inl rfl) (pe_op op_add (pe_ix ix_tup (pe_ix ix_tup (pv 0) pe_int (fun _ _=>rfl)) (pe_ix ix_tup (pe_ix ix_tup (pe_ix ix_tup (pv 1) pe_int (fun _ _=>rfl)) pe_int (fun _ _=>rfl)) pe_int (fun _ _=>rfl)) (fun _ _=>rfl)) (pe_ix ix_tup (pe_ix ix_tup (pv 0) pe_int (fun _ _=>rfl)) (pe_ix ix_tup (pe_ix ix_tup (pe_ix ix_tup (pv 1) pe_int (fun _ _=>rfl)) pe_int (fun _ _=>rfl)) (pe_un un_neg pe_int) (fun _ _=>rfl)) (fun _ _=>rfl)))) (pss_cons (ps_set (i:=3) sc_law_each_less.nd rfl (Or.inl rfl) (pe_op op_add (pe_op op_add (pv 3) (pe_ix ix_list (pv 2) pe_int (fun _ _=>rfl))) (pe_ix ix_list (pv 2) pe_int (fun _ _=>rfl)))) (pss_cons (ps_for PassesOwn.never rfl (pi_range1 rfl T.z_range (pa_cons pe_int pa_nil)) (pg_name (i:=4) sc_law_each_less.nd rfl (Or.inl rfl)) (pss_cons (ps_set (i:=5) sc_law_each_less.nd rfl (Or.inl rfl) (pe_op op_add_str (pe_op op_add_str (pe_ix ix_tup (pe_ix ix_tup (pv 1) pe_int (fun _ _=>rfl)) pe_int (fun _ _=>rfl)) (pe_op op_mulS (pe_ix ix_tup (pe_ix ix_tup (pv 1) pe_int (fun _ _=>rfl)) pe_int (fun _ _=>rfl)) (pv 4))) (pe_ix ix_tup (pe_ix ix_tup (pv 1) pe_int (fun _ _=>rfl)) pe_int (fun _ _=>rfl)))) (pss_cons (ps_asg (pe_call (ok_law_weighs T) hr.m rfl T.m_law_weighs T.F_law_weighs.kp T.b_law_weighs .nil pass0 (pa_cons (pv 0) (pa_cons (pv 5) pa_nil))) (pg_tup rfl (pgs_cons (pg_name (i:=6) sc_law_each_less.nd rfl (Or.inl rfl)) (pgs_cons (pg_name (i:=7) sc_law_each_less.nd rfl (Or.inl rfl)) pgs_nil)))) (pss_one (ps_if (PW.pt (pw_or (pt_not (pt_val (pv 6))) (pw_or (pt_cmpR op_isN (pv 7) pe_non (nomark _)) (pw_or1 (pt_cmpR op_gt (pv 7) (pe_op op_add (pv 3) (pe_op op_mul (pv 4) (pe_ix ix_list (pv 2) pe_int (fun _ _=>rfl)))) (nomark _)))))) (pss_one (ps_ret pe_bl)) pss_nil))))) (pss_one (ps_ret pe_bl))))))),?_⟩
    refine⟨_,rfl,_,rfl,mv,q,l,n,st,ts,en,a,b,c,w1,p1,w2,p2,w3,p3,x,i1,i3,d1,d2,d3,rfl,⟨hM,O,hq,h1,h2,h3,F⟩,fun H1 t1=>⟨_,rfl,iteN rfl ?_⟩⟩
    have hM1:=hM.same t1.t
    have hq1:=t1 _ _ hq
    have h1:=h1.same t1.t
    have h2:=h2.same t1.t
    have h3:=h3.same t1.t
    clear hM hq t1
    refine⟨_,rfl,_,rfl,q,_,rfl,SqT.of hq1,hq1,fun sl H2 t2 hsl=>?_⟩
    have ec:cutV [sFalls,V.ref a,.ref b,.ref c] (some 1) none=[V.ref a,.ref b,.ref c]:=rfl
    rw[ec]at hsl
    refine⟨sl,rfl,⟨_,SqT.of hsl⟩,comp_go (n:=3) (fun i ys H3=>Same H2 H3∧ys=([d1,d2,d3].take i).map V.int∧ys.length=i) (by omega) ⟨Same.refl _,rfl,rfl⟩ (fun i ys H2 h=>h.2.2) ?_ ?_ ?_⟩
    · rintro i ys H3 hi ⟨s2,rfl,_⟩
      have hM2:=hM1.same (t2.trans s2).t
      have hsl2:=s2 _ _ hsl
      have e1:=h1.same (t2.trans s2).t
      have e2:=h2.same (t2.trans s2).t
      have e3:=h3.same (t2.trans s2).t
      rcases(by omega:i=0∨i=1∨i=2)with rfl | rfl | rfl
      · refine⟨⟨_,_,SqT.of hsl2,rfl⟩,fun y G3 hy=>?_⟩
        obtain⟨rfl,hy⟩:=hy
        have:=hy _ (SqT.of hsl2)
        cases this
        exact⟨⟨[some _],rfl,rfl⟩,_,rfl,_,rfl,mv,a,l,n,st,ts,en,w1,p1,i1,x,d1,rfl,⟨hM2,O,e1,F.y1,v1,wl1.1⟩,fun H3 t3=>⟨s2.trans t3,rfl,rfl⟩⟩
      · refine⟨⟨_,_,SqT.of hsl2,rfl⟩,fun y G3 hy=>?_⟩
        obtain⟨rfl,hy⟩:=hy
        have:=hy _ (SqT.of hsl2)
        cases this
        exact⟨⟨[some _],rfl,rfl⟩,_,rfl,_,rfl,mv,b,l,n,st,ts,en,w2,p2,x,x,d2,rfl,⟨hM2,O,e2,F.y2,v2,wl1.2.1⟩,fun H3 t3=>⟨s2.trans t3,rfl,rfl⟩⟩
      · refine⟨⟨_,_,SqT.of hsl2,rfl⟩,fun y G3 hy=>?_⟩
        obtain⟨rfl,hy⟩:=hy
        have:=hy _ (SqT.of hsl2)
        cases this
        exact⟨⟨[some _],rfl,rfl⟩,_,rfl,_,rfl,mv,c,l,n,st,ts,en,w3,p3,x,i3,d3,rfl,⟨hM2,O,e3,F.y3,v3,wl1.2.2⟩,fun H3 t3=>⟨s2.trans t3,rfl,rfl⟩⟩
    · rintro ys H2 ⟨s2,rfl,_⟩
      exact⟨_,SqT.of (s2 _ _ hsl),Nat.le_refl _⟩
    rintro ys H3 cl ⟨s2,rfl,_⟩ ncl
    have t3:=same_upd (o:=.lst (([d1,d2,d3].take 3).map V.int)) ncl
    have kc:upd H3 cl (.lst (([d1,d2,d3].take 3).map V.int)) cl=some (.lst ([d1,d2,d3].map V.int)):=upd_same
    have s3:=(t2.trans s2).trans t3
    clear t3 ncl s2 hsl ec
    revert kc s3
    generalize upd H3 cl (.lst (([d1,d2,d3].take 3).map V.int))=H4
    intro kc s3
    have hM4:=hM1.same s3.t
    obtain⟨r1,ha,hr1⟩:=h1.same s3.t
    obtain⟨r2,hb,hr2⟩:=h2.same s3.t
    obtain⟨r3,hc,hr3⟩:=h3.same s3.t
    have hq4:=s3 _ _ hq1
    clear h1 h2 h3 hM1 hq1 s3
    obtain⟨mp,sv,tv,ev,rfl,hp,⟨sp,rfl,hsp⟩,ht,⟨ep,rfl,hep⟩⟩:=id hM4
    show gName 2 (.ref cl) [some (.ref mp),some (.ref q),none,none,none,none,none,none] H4 _
    have a1f:=wV_first F.y1
    have a3l:=wV_last F.y3
    have as1:=at_oV (r:=st) (j:=i1) (by rw[O.sl];exact b1)
    have as3:=at_oV (r:=en) (j:=i3) (by rw[O.el];exact b3)
    rw[ho1]at as1
    rw[ho3]at as3
    refine⟨_,rfl,_,_,_,_,rfl,rfl,SqT.of hp,rfl,_,rfl,_,_,_,_,rfl,rfl,SqT.of hq4,rfl,_,_,_,_,rfl,rfl,SqT.of ha,rfl,_,_,_,_,rfl,rfl,SqT.of hr1,a1f,_,_,_,_,rfl,rfl,SqT.of hsp,as1,?_⟩
    refine⟨_,rfl,_,_,_,_,rfl,rfl,SqT.of hp,rfl,_,rfl,_,_,_,_,rfl,rfl,SqT.of hq4,rfl,_,_,_,_,rfl,rfl,SqT.of hc,rfl,_,rfl,_,_,_,_,rfl,rfl,SqT.of hr3,a3l,_,_,_,_,rfl,rfl,SqT.of hep,as3,_,_,rfl,rfl,?_⟩
    show gName 3 (.int (o1+o3)) [some (.ref mp),some (.ref q),some (.ref cl),none,none,none,none,none] H4 _
    refine⟨_,rfl,_,rfl,_,_,_,_,rfl,rfl,SqL.of kc,rfl,_,_,rfl,rfl,_,rfl,_,_,_,_,rfl,rfl,SqL.of kc,rfl,_,_,rfl,rfl,?_⟩
    show gName 3 (.int (o1+o3+d1+d3)) [some (.ref mp),some (.ref q),some (.ref cl),some (.int (o1+o3)),none,none,none,none] H4 _
    refine⟨_,rfl,(by decide),(by decide),for_range (lo:=0) (n:=(4:Int).toNat) (fun i σ H5=>∃v4 v5 v6 v7,σ=[some (.ref mp),some (.ref q),some (.ref cl),some (.int (o1+o3+d1+d3)),v4,v5,v6,v7]∧Same H4 H5) ⟨_,_,_,_,rfl,Same.refl _⟩ ?_ ?_⟩
    · rintro i σ H5 hi ⟨v4,v5,v6,v7,rfl,s5⟩
      have hi:i < 4:=hi
      have i0:(0:Int)+(i:Int)=((i:Nat):Int):=by omega
      rw[i0]
      have hl2:(tx w2).length=w2.length:=tx_len w2
      have er:=repS_is w2 i hi
      have fl:(List.replicate i w2).flatten.length≤24:=by
        have e:(List.replicate i w2).flatten.length=i * w2.length:=by simp
        rw[e]
        exact Nat.le_trans (Nat.mul_le_mul (by omega:i≤3) (by omega:w2.length≤8)) (by decide)
      have ml:(tx w2).length * (i:Int).toNat≤1000000:=by
        rw[hl2,show(i:Int).toNat=i by omega]
        exact Nat.le_trans (Nat.mul_le_mul (by omega:w2.length≤8) (by omega:i≤3)) (by decide)
      refine⟨_,rfl,_,_,_,_,rfl,rfl,SqT.of (s5 _ _ hq4),rfl,_,_,_,_,rfl,rfl,SqT.of (s5 _ _ ha),rfl,_,rfl,_,_,_,_,rfl,rfl,SqT.of (s5 _ _ hq4),rfl,_,_,_,_,rfl,rfl,SqT.of (s5 _ _ hb),rfl,_,rfl,tx w2,(i:Int),rfl,rfl,⟨by omega,by omega,by omega,ml,by rw[er,tx_len];omega⟩,?_⟩
      rw[er]
      refine⟨tx w1,_,rfl,rfl,(by rw[tx_len,tx_len];omega),?_⟩
      rw[tx_app]
      refine⟨_,rfl,_,_,_,_,rfl,rfl,SqT.of (s5 _ _ hq4),rfl,_,_,_,_,rfl,rfl,SqT.of (s5 _ _ hc),rfl,_,tx w3,rfl,rfl,(by rw[tx_len,tx_len,List.length_append];omega),?_⟩
      rw[tx_app]
      obtain⟨g2,y2⟩:=Wy_rep F.y2 i
      obtain⟨g3,y3⟩:=Wy_app F.y1 y2
      obtain⟨g4,y4⟩:=Wy_app y3 F.y3
      have hw:=Wy.lett (fun _ _ _ _ h=>WL.lett h) y4
      have wl:(w1++(List.replicate i w2).flatten++w3).length≤100:=by rw[List.length_append,List.length_append];omega
      obtain⟨c',hc1,hc2⟩:=way_wtO O ho1 y4 ho3
      generalize w1++(List.replicate i w2).flatten++w3=ww at hw wl hc1 y4
      show gName 5 (vT ww) [some (.ref mp),some (.ref q),some (.ref cl),some (.int (o1+o3+d1+d3)),some (.int (i:Int)),v5,v6,v7] H5 _
      refine⟨_,rfl,_,rfl,.ref mp,l,n,st,ts,en,ww,rfl,⟨hM4.same s5.t,O,hw,wl⟩,fun z H6 t6 hz=>?_⟩
      rw[hc1]at hz
      refine⟨z,_,rfl,SqT.of hz,rfl,_,_,rfl,_,_,rfl,rfl,?_⟩
      have kc6:=(s5.trans t6) _ _ kc
      refine⟨_,rfl,_,rfl,iteN rfl ?_⟩
      refine⟨_,rfl,rfl,_,rfl,iteN rfl ?_⟩
      refine⟨_,rfl,_,rfl,_,rfl,_,rfl,_,_,_,_,rfl,rfl,SqL.of kc6,rfl,_,_,rfl,rfl,.inl ⟨by omega,by omega⟩,_,_,rfl,rfl,_,_,rfl,rfl,_,rfl,iteN (decide_eq_false (by omega)) ?_⟩
      exact⟨_,_,_,_,rfl,s5.trans t6⟩
    · rintro σ H5 ⟨v4,v5,v6,v7,rfl,s5⟩
      exact k _
theorem LOk.strOk{l ww:List Nat}(L:LOk l)(h:∀y∈ww,y∈l):PyData.strOk (tx ww)=true:=by
  show ww.toArray.all (· < 0x110000)=true
  simp only[List.all_toArray,List.all_eq_true,decide_eq_true_eq]
  exact fun x hx=>Nat.lt_trans (L.as x (h x hx)) (by decide)
theorem isAll_o{H:Hp}:∀ls:List (Option Int),IsAll K H (ls.map oV) (ls.map oD)
  | []=>.nil
  | none::ls=>.cons .non (isAll_o ls)
  | some i::ls=>.cons (.int i) (isAll_o ls)
theorem cl_o:∀ls:List (Option Int),PyData.canLayAll0 (ls.map oD)=true
  | []=>by simp[PyData.canLayAll0]
  | none::ls=>by simp[PyData.canLayAll0,PyData.canLay0,oD,cl_o ls]
  | some i::ls=>by simp[PyData.canLayAll0,PyData.canLay0,oD,cl_o ls]
theorem dp_o:∀ls:List (Option Int),PyData.depthAll (ls.map oD)≤0
  | []=>by simp[PyData.depthAll]
  | none::ls=>by have:=dp_o ls;simp[PyData.depthAll,PyData.depth,oD];omega
  | some i::ls=>by have:=dp_o ls;simp[PyData.depthAll,PyData.depth,oD];omega
def iD(p:List Nat):List PyData:=(p.map fun j:Nat=>(j:Int)).map PyData.int
theorem isAll_w{H:Hp}(p:List Nat):IsAll K H (wV p) (iD p):=by rw[wV_ints];exact isAll_ints _
theorem cl_w(p:List Nat):PyData.canLayAll0 (iD p)=true:=cl_ints _
theorem dp_w(p:List Nat):PyData.depthAll (iD p)=0:=Nat.le_zero.mp (dp_ints _)
def AnsD(K:PySem.W.Frag)(q:Addr)(H:Hp)(x:Str)(ds:List PyData):Prop:=∃xs,H q=some (.tup xs)∧IsAll K H xs (.str x::ds)∧shaped (.tuple (.str x::ds))=true
theorem falls_d{l:List Nat}(L:LOk l){q a b c:Addr}{w1 p1 w2 p2 w3 p3:List Nat}{H:Hp}(hq:H q=some (.tup [sFalls,.ref a,.ref b,.ref c]))(h1:WW a w1 p1 H)(h2:WW b w2 p2 H)(h3:WW c w3 p3 H)(l1:∀y∈w1,y∈l)(l2:∀y∈w2,y∈l)(l3:∀y∈w3,y∈l):∃d ds,AnsD K q H (Str.ofString "falls") (d::ds):=by
  obtain⟨r1,h1,g1⟩:=h1
  obtain⟨r2,h2,g2⟩:=h2
  obtain⟨r3,h3,g3⟩:=h3
  refine⟨.tuple [.str (tx w1),.tuple (iD p1)],[.tuple [.str (tx w2),.tuple (iD p2)],.tuple [.str (tx w3),.tuple (iD p3)]],_,hq,.cons (.str _) (.cons (.tup (SqT.of h1) (.cons (.str _) (.cons (.tup (SqT.of g1) (isAll_w _)) .nil))) (.cons (.tup (SqT.of h2) (.cons (.str _) (.cons (.tup (SqT.of g2) (isAll_w _)) .nil))) (.cons (.tup (SqT.of h3) (.cons (.str _) (.cons (.tup (SqT.of g3) (isAll_w _)) .nil))) .nil))),?_⟩
  have:PyData.strOk (Str.ofString "falls")=true:=by decide +kernel
  simp[shaped,PyData.canLay0,PyData.canLayAll0,L.strOk l1,L.strOk l2,L.strOk l3,cl_w,dp_w,this,PyData.depth,PyData.depthAll]
theorem least_d{l:List Nat}(L:LOk l){q r pa:Addr}{ww p:List Nat}{c:Int}{ls:List (Option Int)}{H:Hp}(hq:H q=some (.tup [sLeast,.int c,vT ww,.ref r,.ref pa]))(hr:H r=some (.tup (wV p)))(hp:H pa=some (.lst (ls.map oV)))(l1:∀y∈ww,y∈l):∃d ds,AnsD K q H (Str.ofString "least") (d::ds):=by
  refine⟨.int c,[.str (tx ww),.tuple (iD p),.list (ls.map oD)],_,hq,.cons (.str _) (.cons (.int _) (.cons (.str _) (.cons (.tup (SqT.of hr) (isAll_w _)) (.cons (.lst (SqL.of hp) (isAll_o _)) .nil)))),?_⟩
  have:PyData.strOk (Str.ofString "least")=true:=by decide +kernel
  have hd':PyData.depthAll (List.map oD ls)=0:=Nat.le_zero.mp (dp_o ls)
  simp[shaped,PyData.canLay0,PyData.canLayAll0,L.strOk l1,cl_w,dp_w,cl_o,hd',this,PyData.depth,PyData.depthAll]
theorem none_d{q:Addr}{H:Hp}(hq:H q=some (.tup [sNone])):AnsD K q H (Str.ofString "none") []:=by
  refine⟨_,hq,.cons (.str _) .nil,?_⟩
  have:PyData.strOk (Str.ofString "none")=true:=by decide +kernel
  simp[shaped,PyData.canLay0,PyData.canLayAll0,this,PyData.depth,PyData.depthAll]
theorem AnsD.same{q:Addr}{H H':Hp}{x:Str}{ds:List PyData}(s:Same H H')(h:AnsD K q H x ds):AnsD K q H' x ds:=by
  obtain⟨xs,h1,h2,h3⟩:=h
  exact⟨xs,s _ _ h1,h2.same s,h3⟩
theorem AnsD.nil{q z:Addr}{H:Hp}{Q:VK}{x:Str}{ds:List PyData}(h:AnsD K q H x ds)(hz:H z=some (.tup []))(k:Q (.bl false) H):rEqD K (.ref q) (.ref z) H Q:=by
  obtain⟨xs,h1,h2,h3⟩:=h
  refine⟨_,.tuple [],.tup (SqT.of h1) h2,.tup (SqT.of hz) .nil,h3,?_,?_,?_⟩
  · simp[shaped,PyData.canLay0,PyData.canLayAll0,PyData.depth,PyData.depthAll]
  · simp[noMix,noMixAll]
  · have:PySem.Spec.same (.tuple (.str x::ds)) (.tuple [])=false:=by simp[PySem.Spec.same,PySem.Spec.sameAll]
    rw[this];exact k
theorem AnsD.eqN{q z:Addr}{H:Hp}{Q:VK}{x:Str}{d:PyData}{ds:List PyData}(h:AnsD K q H x (d::ds))(hz:H z=some (.tup [sNone]))(k:Q (.bl false) H):rEqD K (.ref q) (.ref z) H Q:=by
  obtain⟨xs,h1,h2,h3⟩:=h
  obtain⟨ys,g1,g2,g3⟩:=none_d (K:=K) hz
  refine⟨_,_,.tup (SqT.of h1) h2,.tup (SqT.of g1) g2,h3,g3,?_,?_⟩
  · simp[noMix,noMixAll]
  · have:PySem.Spec.same (.tuple (.str x::d::ds)) (.tuple [.str (Str.ofString "none")])=false:=by simp[PySem.Spec.same,PySem.Spec.sameAll]
    rw[this];exact k
theorem eqNN{q z:Addr}{H:Hp}{Q:VK}(h:H q=some (.tup [sNone]))(hz:H z=some (.tup [sNone]))(k:Q (.bl true) H):rEqD K (.ref q) (.ref z) H Q:=by
  obtain⟨xs,h1,h2,h3⟩:=none_d (K:=K) h
  obtain⟨ys,g1,g2,g3⟩:=none_d (K:=K) hz
  refine⟨_,_,.tup (SqT.of h1) h2,.tup (SqT.of g1) g2,h3,g3,?_,?_⟩
  · simp[noMix,noMixAll]
  · have:PySem.Spec.same (.tuple [.str (Str.ofString "none")]) (.tuple [.str (Str.ofString "none")])=true:=by simp[PySem.Spec.same,PySem.Spec.sameAll]
    rw[this];exact k
def AnsP(l:List Nat)(n:Nat)(st:List (Option Int))(ts:List (List (List (Option Int))))(en:List (Option Int))(q:Addr)(H:Hp):Prop:=(∃cm bm,Ch n st ts en cm bm []∧H q=some (.tup [sNone]))∨
        (∃a b c w1 p1 w2 p2 w3 p3 x i1 i3 d1 d2 d3,H q=some (.tup [sFalls,.ref a,.ref b,.ref c])∧WW a w1 p1 H∧WW b w2 p2 H∧WW c w3 p3 H∧Fa l n st ts en w1 p1 w2 p2 w3 p3 x i1 i3 d1 d2 d3)∨
        (∃c ww r pa p ls,H q=some (.tup [sLeast,.int c,vT ww,.ref r,.ref pa])∧H r=some (.tup (wV p))∧H pa=some (.lst (List.map oV ls))∧(∀y∈ww,y∈l)∧ww.length < n∧wtO l ts n st en ww=some c∧∀v,(∀x∈v,x∈l)→∀d,wtO l ts n st en v=some d→c≤d)
def sp_law(K:PySem.W.Frag):Sp:=fun vs H Q _=>∃(a:Addr) (ns:List Int),vs=[.ref a]∧SqL K H a (ns.map V.int)∧ns.length≤63∧(∀c P,PySem.W.tabIn K "cheapest"=some (c,P)→H P=some (.tbl #[]))∧∀H',Q (.bl true) H'
theorem ok_law(T:Txt K mg t)(hTb:Tb mg base t.c_cheapest t.P_cheapest):FnOk Pr w K mg base CX0 10 t.law t.d_law ["_law_script"] (sp_law K):=by
  refine T.F_law.ok sc_law (fun vs H Q E h=>?_) (fun cdv A outer s H vs Q E hr h=>?_)
  · obtain⟨a,ns,rfl,_⟩:=h
    rfl
  · obtain⟨a0,ns,rfl,hS0,hlen,hP,k⟩:=h
    have zl:10000 < sizeLine:=by decide
    have hP:=hP _ _ T.tb_cheapest
    refine⟨_,(pss_cons (ps_set (i:=1) sc_law.nd rfl (Or.inl rfl) (pe_call (ok_law_state T) hr.m rfl T.m_law_state T.F_law_state.kp T.b_law_state .nil pass0 (pa_cons (pv 0) pa_nil))) (pss_cons (ps_set (i:=2) sc_law.nd rfl (Or.inl rfl) (pe_call (ok_law_letters T) hr.m rfl T.m_law_letters T.F_law_letters.kp T.b_law_letters .nil pass0 (pa_cons (pv 1) pa_nil))) (pss_cons (ps_set (i:=3) sc_law.nd rfl (Or.inr rfl) (pe_call (ok_law_any_machine T) hr.m rfl T.m_law_any_machine T.F_law_any_machine.kp T.b_law_any_machine .nil pass0 (pa_cons (pv 1) (pa_cons (pv 2) (pa_cons (pe_op op_add pe_int (pe_call (ok_law_rooms T) hr.m rfl T.m_law_rooms T.F_law_rooms.kp T.b_law_rooms .nil pass0 (pa_cons (pv 1) (pa_cons pe_int (pa_cons pe_int pa_nil))))) (pa_cons (pe_op op_add pe_int (pe_call (ok_law_next T) hr.m rfl T.m_law_next T.F_law_next.kp T.b_law_next .nil pass0 (pa_cons (pv 1) (pa_cons pe_int pa_nil)))) pa_nil)))))) (pss_cons (ps_set (i:=4) sc_law.nd rfl (Or.inl rfl) (pe_call (ok_cheapest T hTb) hr.m rfl T.m_cheapest T.F_cheapest.kp T.b_cheapest .nil pass0 (pa_cons (pv 3) pa_nil))) (pss_cons (ps_if (PW.pt (pw_or (pt_not (pt_val (pe_callB call_isi (by rfl) T.z_isinstance boot_isinstance (pa_cons (pv 4) (pa_cons (pe_bltn (v:=.ty "tuple") rfl T.z_tuple boot_tuple rfl) pa_nil))))) (pw_or1 (pt_cmpR (op_eqD hr.units) (pv 4) (pe_tup pa_nil) (nomark _))))) (pss_one (ps_ret pe_bl)) pss_nil) (pss_cons (ps_if (pt_cmpR op_eq (pe_ix ix_tup (pv 4) pe_int (fun _ _=>rfl)) pe_str (nomark _)) (pss_one (ps_ret (pe_call (ok_law_each_less T) hr.m rfl T.m_law_each_less T.F_law_each_less.kp T.b_law_each_less .nil pass0 (pa_cons (pv 3) (pa_cons (pv 4) pa_nil))))) pss_nil) (pss_cons (ps_setC (i₀:=5) (xs:=["_law_word"]) sc_law.nd rfl (Or.inl rfl) rfl (show CompOk ["_law_script","_law_state_here","_law_letters_here","_law_machine","_law_answer","_law_some","_law_good","_law_told"] (defScope s_law) _ from⟨rfl,by decide +kernel,by decide +kernel,by decide +kernel,by decide +kernel,by decide +kernel⟩) (pi_list (pe_call (ok_law_some_words T) hr.m rfl T.m_law_some_words T.F_law_some_words.kp T.b_law_some_words .nil pass0 (pa_cons (pv 2) (pa_cons pe_int pa_nil)))) (fun _ _ _ _ _=>(pg_name (i:=8) (by show List.Nodup (["_law_script","_law_state_here","_law_letters_here","_law_machine","_law_answer","_law_some","_law_good","_law_told","_law_word"]:List Str);decide +kernel) rfl (Or.inl rfl))) (fun _ _ _ _ _=>(pe_call (ok_law_weigh (w:=w) (base:=base) T) hr.m rfl T.m_law_weigh T.F_law_weigh.kp T.b_law_weigh .nil pass0 (pa_cons (pv 3) (pa_cons (pv 8) pa_nil))))) (pss_cons (ps_if (pt_cmpR (op_eqD hr.units) (pv 4) (pe_tup (pa_cons pe_str pa_nil)) (nomark _)) (pss_one (ps_ret (pe_callB (call_all rfl) (by rfl) T.z_all boot_all (pa_cons (pe_hide 7 "#1" (pe_comp (xs:=["_law_told"]) rfl (show CompOk ["_law_script","_law_state_here","_law_letters_here","_law_machine","_law_answer","_law_some","_law_good","#1"] (defScope s_law) _ from⟨rfl,by decide +kernel,by decide +kernel,by decide +kernel,by decide +kernel,by decide +kernel⟩) (pi_list (pv 5)) (fun _ _ _ _ _=>(pg_name (i:=8) (by show List.Nodup (["_law_script","_law_state_here","_law_letters_here","_law_machine","_law_answer","_law_some","_law_good","#1","_law_told"]:List Str);decide +kernel) rfl (Or.inl rfl))) (fun _ _ _ _ _=>(pe_cmpR op_isN (pv 8) pe_non (nomark _))))) pa_nil)))) pss_nil) (pss_cons (ps_if (PW.pt (pw_or (pt_cmpR op_ne (pe_ix ix_tup (pv 4) pe_int (fun _ _=>rfl)) pe_str (nomark _)) (pw_or (pt_cmpR op_ne (pe_callB call_len (by rfl) T.z_len PySem.boot_len (pa_cons (pv 4) pa_nil)) pe_int (nomark _)) (pw_or1 (pt_cmpR op_ge (pe_callB call_len (by rfl) T.z_len PySem.boot_len (pa_cons (pe_ix ix_tup (pv 4) pe_int (fun _ _=>rfl)) pa_nil)) (pe_callB call_len (by rfl) T.z_len PySem.boot_len (pa_cons (pe_ix ix_tup (pv 3) pe_int (fun _ _=>rfl)) pa_nil)) (nomark _)))))) (pss_one (ps_ret pe_bl)) pss_nil) (pss_cons (ps_asg (pe_call (ok_law_weighs T) hr.m rfl T.m_law_weighs T.F_law_weighs.kp T.b_law_weighs .nil pass0 (pa_cons (pv 3) (pa_cons (pe_ix ix_tup (pv 4) pe_int (fun _ _=>rfl)) pa_nil))) (pg_tup rfl (pgs_cons (pg_name (i:=6) sc_law.nd rfl (Or.inl rfl)) (pgs_cons (pg_name (i:=7) sc_law.nd rfl (Or.inr rfl)) pgs_nil)))) (pss_cons (ps_if (PW.pt (pw_or (pt_not (pt_val (pv 6))) (pw_or (pt_cmpR op_isN (pv 7) pe_non (nomark _)) (pw_or1 (pt_cmpR op_ne (pv 7) (pe_ix ix_tup (pv 4) pe_int (fun _ _=>rfl)) (nomark _)))))) (pss_one (ps_ret pe_bl)) pss_nil) (pss_one (ps_ret (pe_callB (call_all rfl) (by rfl) T.z_all boot_all (pa_cons (pe_comp (xs:=["_law_one"]) rfl (show CompOk ["_law_script","_law_state_here","_law_letters_here","_law_machine","_law_answer","_law_some","_law_good","_law_told"] (defScope s_law) _ from⟨rfl,by decide +kernel,by decide +kernel,by decide +kernel,by decide +kernel,by decide +kernel⟩) (pi_list (pv 5)) (fun _ _ _ _ _=>(pg_name (i:=8) (by show List.Nodup (["_law_script","_law_state_here","_law_letters_here","_law_machine","_law_answer","_law_some","_law_good","_law_told","_law_one"]:List Str);decide +kernel) rfl (Or.inl rfl))) (fun _ _ _ _ _=>(pe_or (pe_cmpR op_isN (pv 8) pe_non (nomark _)) (pe_one (pe_cmpR op_ge (pv 8) (pv 7) (nomark _)))))) pa_nil))))))))))))))),?_⟩
    refine⟨_,rfl,a0,ns,rfl,hS0,hlen,fun a H1 na s1 d1=>?_⟩
    have pa:t.P_cheapest≠a:=ne_of_none hP na
    have hP:=s1 _ _ hP
    show gName 1 (.ref a) [some (.ref a0),none,none,none,none,none,none,none] H1 _
    refine⟨_,rfl,a,rfl,d1,fun p l i H2 s2 d2 G i1 i3=>?_⟩
    have hP:=s2 _ _ pa hP
    have L:=G.ok i1 i3
    show gName 2 (vT l) [some (.ref a0),some (.ref a),none,none,none,none,none,none] H2 _
    refine⟨_,rfl,_,rfl,_,rfl,a,_,_,rfl,⟨d2,by decide,by decide,by decide,by decide⟩,fun n H3 s3 d3 n0 n1=>?_⟩
    have hP:=s3 _ _ pa hP
    refine⟨_,_,rfl,rfl,?_⟩
    obtain⟨n,hn⟩:∃k:Nat,1+n=(k:Int):=⟨(1+n).toNat,by omega⟩
    refine⟨_,rfl,_,_,rfl,⟨d3,by decide,by decide⟩,fun m H4 s4 d4 m0 m1=>?_⟩
    have hP:=s4 _ _ pa hP
    have n8:n≤8:=by omega
    refine⟨_,_,rfl,rfl,a,l,n,_,(by rw[← hn];rfl),⟨d4,L,by omega,by omega,by omega⟩,fun st ts en mv H5 s5 d5 O hM=>?_⟩
    have hP:=s5 _ _ pa hP
    show gName 3 mv [some (.ref a0),some (.ref a),some (vT l),none,none,none,none,none] H5 _
    refine(fun(key:∀(q:Addr) (H6:Hp),CM l st ts en mv H6→AnsP l n st ts en q H6→
        (?F:L2.St→Hp→Prop) [some (.ref a0),some (.ref a),some (vT l),some mv,some (.ref q),none,none,none] H6)=>?main) ?rest
    case main=>
      refine⟨_,rfl,mv,l,n,st,ts,en,rfl,⟨hM,O,hP⟩,fun q H6 cm bm x6 C hq=>?_,fun q H6 cm bm us a b c x w1 p1 w2 p2 w3 p3 c1 c2 c3 x6 C hx hq h1 h2 h3 ok1 ok2 hc ok3=>?_,fun q H6 cm bm us r pa x c d ww p x6 C une rg hq hr' hpa ls hd ok=>?_⟩
      · dsimp only[gName]
        exact key q H6 (hM.same (x6.tbl hP)) (.inl ⟨cm,bm,C,hq⟩)
      · obtain⟨i1,o1,d1,ho1,y1,e1,l1⟩:=ok1
        obtain⟨i2,o2,d2,ho2,y2,e2,l2⟩:=ok2
        obtain⟨i3,o3,d3,ho3,y3,e3,l3⟩:=ok3
        have ei:i2=x∧o2=0:=by
          unfold uo at ho2
          split at ho2
          · cases ho2;exact⟨by assumption,rfl⟩
          · cases ho2
        obtain⟨rfl,rfl⟩:=ei
        have y3':=y3.rev
        rw[List.reverse_reverse,List.reverse_reverse]at y3'
        dsimp only[gName]
        exact key q H6 (hM.same (x6.tbl hP)) (.inr (.inl ⟨a,b,c,w1,p1,w2,p2,w3,p3,i2,i1,i3,d1,d2,d3,hq,h1,h2,h3,⟨C.lt _ hx,y1,y2,y3',l1,l2,by simpa using l3,⟨o1,ho1⟩,⟨o3,ho3⟩,by omega⟩⟩))
      · obtain⟨i1,o1,d1,ho1,y1,e1,l1⟩:=ok
        have low:∀v:List Nat,(∀x∈v,x∈l)→∀d,wtO l ts n st en v=some d→c≤d:=fun v hv d hd=>C.least_all O rg ls hv hd
        obtain⟨_,d',e,hd',he,hc,_⟩:=ls
        rw[hd]at hd'
        cases hd'
        have hw:=Wy.lett (fun _ _ _ _ h=>WL.lett h) y1
        obtain⟨v,hv1,hv2⟩:=way_wtO O ho1 y1 he
        have:=low _ hw v hv1
        have ev:v=c:=by omega
        rw[ev]at hv1
        dsimp only[gName]
        exact key q H6 (hM.same (x6.tbl hP)) (.inr (.inr ⟨c,ww,r,pa,p,(List.range n).map fun j=>if j∈us then cm j else none,hq,hr',by rw[List.map_map];exact hpa,hw,by omega,hv1,low⟩))
    case rest=>
      intro q H6 hM hA
      have D:∃(x:Str) (vs:List V) (ds:List PyData),H6 q=some (.tup (.str x::vs))∧AnsD K q H6 x ds:=by
        rcases hA with ⟨cm,bm,C,hq⟩ | ⟨a,b,c,w1,p1,w2,p2,w3,p3,x,i1,i3,d1,d2,d3,hq,h1,h2,h3,F⟩ | ⟨c,ww,r,pa,p,ls,hq,hr',hpa,hw,wn,he,low⟩
        · exact⟨_,_,_,hq,none_d hq⟩
        · obtain⟨d,ds,h⟩:=falls_d (K:=K) L hq h1 h2 h3 (Wy.lett (fun _ _ _ _ h=>WL.lett h) F.y1) (Wy.lett (fun _ _ _ _ h=>WL.lett h) F.y2) (Wy.lett (fun _ _ _ _ h=>WL.lett h) F.y3)
          exact⟨_,_,_,hq,h⟩
        · obtain⟨d,ds,h⟩:=least_d (K:=K) L hq hr' hpa hw
          exact⟨_,_,_,hq,h⟩
      obtain⟨x,vs,ds,hq0,D⟩:=D
      refine⟨_,rfl,_,_,_,_,rfl,.tup hq0,T.k_tt,_,rfl,iteN rfl ?_⟩
      refine⟨_,rfl,(by show 0≤sizeLine;decide),fun z nz=>?_⟩
      have tz:=same_upd (o:=.tup []) nz
      refine(D.same tz).nil upd_same ⟨_,rfl,iteN rfl ?_⟩
      have hM:=hM.same tz.t
      have D:=D.same tz
      have hq0:=tz _ _ hq0
      have hA:AnsP l n st ts en q (upd H6 z (.tup [])):=by
        rcases hA with ⟨cm,bm,C,hq⟩ | ⟨a,b,c,w1,p1,w2,p2,w3,p3,x,i1,i3,d1,d2,d3,hq,h1,h2,h3,F⟩ | ⟨c,ww,r,pa,p,ls,hq,hr',hpa,hw,wn,he,low⟩
        · exact .inl ⟨cm,bm,C,tz _ _ hq⟩
        · exact .inr (.inl ⟨a,b,c,w1,p1,w2,p2,w3,p3,x,i1,i3,d1,d2,d3,tz _ _ hq,h1.same tz.t,h2.same tz.t,h3.same tz.t,F⟩)
        · exact .inr (.inr ⟨c,ww,r,pa,p,ls,tz _ _ hq,tz _ _ hr',tz _ _ hpa,hw,wn,he,low⟩)
      clear nz tz
      revert hM D hq0 hA
      generalize upd H6 z (.tup [])=H7
      intro hM D hq0 hA
      have nf:Str.ofString "none"≠Str.ofString "falls":=by decide +kernel
      have lf:Str.ofString "least"≠Str.ofString "falls":=by decide +kernel
      refine⟨_,rfl,_,_,_,_,rfl,rfl,SqT.of hq0,atI_nat (j:=0) (v:=.str x) rfl,rfl,_,rfl,iteD (fun e=>?_) (fun e=>?_)⟩
      · have e:=V.str.inj (of_decide_eq_true e)
        rcases hA with ⟨cm,bm,C,hq⟩ | ⟨a,b,c,w1,p1,w2,p2,w3,p3,x,i1,i3,d1,d2,d3,hq,h1,h2,h3,F⟩ | ⟨c,ww,r,pa,p,ls,hq,hr',hpa,hw,wn,he,low⟩
        · rw[hq]at hq0
          injection hq0 with hq0
          injection hq0 with hq0
          injection hq0 with hq0
          rw[← V.str.inj hq0]at e
          exact absurd e nf
        · exact⟨_,rfl,_,rfl,mv,q,l,n,st,ts,en,a,b,c,w1,p1,w2,p2,w3,p3,x,i1,i3,d1,d2,d3,rfl,⟨hM,O,n8,hq,h1,h2,h3,F⟩,k⟩
        · rw[hq]at hq0
          injection hq0 with hq0
          injection hq0 with hq0
          injection hq0 with hq0
          rw[← V.str.inj hq0]at e
          exact absurd e lf
      · have e:=of_decide_eq_false e
        have hA:(∃cm bm,Ch n st ts en cm bm []∧H7 q=some (.tup [sNone]))∨(∃(c:Int) (ww:List Nat) (r pa:Addr) (p:List Nat) (ls:List (Option Int)),H7 q=some (.tup [sLeast,.int c,vT ww,.ref r,.ref pa])∧H7 r=some (.tup (wV p))∧H7 pa=some (.lst (List.map oV ls))∧(∀y∈ww,y∈l)∧ww.length < n∧wtO l ts n st en ww=some c∧∀v,(∀x∈v,x∈l)→∀d,wtO l ts n st en v=some d→c≤d):=by
          rcases hA with h | ⟨a,b,c,w1,p1,w2,p2,w3,p3,x,i1,i3,d1,d2,d3,hq,h1,h2,h3,F⟩ | h
          · exact .inl h
          · rw[hq]at hq0
            injection hq0 with hq0
            injection hq0 with hq0
            injection hq0 with hq0
            exact absurd hq0.symm e
          · exact .inr h
        clear D hq0 e
        refine⟨_,rfl,l,rfl,L,fun wa ws H8 t8 hwa hws wl=>?_⟩
        have hM8:=hM.same t8.t
        refine⟨wa,rfl,⟨_,SqL.of hwa⟩,comp_go (n:=ws.length) (fun i ys H2=>Same H8 H2∧ys=(ws.take i).map (fun v=>oV (wtO l ts n st en v))∧ys.length=i) (by omega) ⟨Same.refl _,rfl,rfl⟩ (fun i ys H2 h=>h.2.2) ?_ ?_ ?_⟩
        · rintro i ys H2 hi ⟨q2,rfl,yl⟩
          obtain⟨v,ev⟩:∃v,ws[i]? = some v:=⟨_,List.getElem?_eq_getElem hi⟩
          have ewv:(ws.map vT)[i]? = some (vT v):=by rw[List.getElem?_map,ev];rfl
          have hv:=hws v (List.mem_of_getElem? ev)
          refine⟨⟨_,_,SqL.of (q2 _ _ hwa),ewv⟩,fun y H' hy=>?_⟩
          obtain⟨rfl,hy⟩:=hy
          have:=hy _ (SqL.of (q2 _ _ hwa))
          rw[ewv]at this;cases this
          refine⟨⟨[some _],rfl,rfl⟩,_,rfl,_,rfl,mv,l,n,st,ts,en,v,rfl,⟨hM8.same q2.t,O,hv.2⟩,fun H3 t3=>?_⟩
          refine⟨q2.trans t3,?_,by rw[List.length_append,yl];rfl⟩
          rw[List.take_succ,ev,List.map_append];rfl
        · rintro ys H2 ⟨q2,rfl,yl⟩
          exact⟨_,SqL.of (q2 _ _ hwa),by rw[List.length_map];exact Nat.le_refl _⟩
        rintro ys H2 yp ⟨q2,rfl,yl⟩ nyp
        rw[List.take_length]
        have t9:=same_upd (o:=.lst (ws.map fun v=>oV (wtO l ts n st en v))) nyp
        have k9:upd H2 yp (.lst (ws.map fun v=>oV (wtO l ts n st en v))) yp=some (.lst (ws.map fun v=>oV (wtO l ts n st en v))):=upd_same
        have t79:=(t8.trans q2).trans t9
        clear t9 nyp q2 yl hM8 hwa t8
        revert k9 t79
        generalize upd H2 yp (.lst (ws.map fun v=>oV (wtO l ts n st en v)))=H9
        intro k9 t79
        have hM9:=hM.same t79.t
        show gName 5 (.ref yp) [some (.ref a0),some (.ref a),some (vT l),some mv,some (.ref q),none,none,none] H9 _
        refine⟨_,rfl,(by show 1≤sizeLine;omega),fun z nz=>?_⟩
        have tz:=same_upd (o:=.tup [sNone]) nz
        rcases hA with ⟨cm,bm,C,hq⟩ | ⟨c,ww,r,pa,p,ls,hq,hr',hpa,hw,wn,he,low⟩
        · refine eqNN ((t79.trans tz) _ _ hq) upd_same ⟨_,rfl,iteY rfl ?_⟩
          have k9:=tz _ _ k9
          refine⟨rfl,_,rfl,yp,rfl,⟨_,SqL.of k9⟩,comp_go (n:=ws.length) (fun i ys H2=>H2=upd H9 z (.tup [sNone])∧ys=(List.replicate i true).map V.bl) (by omega) ⟨rfl,rfl⟩ (fun i ys H2 h=>by rw[h.2];simp) ?_ ?_ ?_⟩
          · rintro i ys H2 hi ⟨rfl,rfl⟩
            obtain⟨v,ev⟩:∃v,ws[i]? = some v:=⟨_,List.getElem?_eq_getElem hi⟩
            have hv:=hws v (List.mem_of_getElem? ev)
            have ewv:(ws.map fun v=>oV (wtO l ts n st en v))[i]? = some .non:=by rw[List.getElem?_map,ev];show some (oV _)=_;rw[C.none_all O hv.2];rfl
            refine⟨⟨_,_,SqL.of k9,ewv⟩,fun y H' hy=>?_⟩
            obtain⟨rfl,hy⟩:=hy
            have:=hy _ (SqL.of k9)
            rw[ewv]at this;cases this
            refine⟨⟨[some _],rfl,rfl⟩,_,rfl,rfl,rfl,?_⟩
            rw[List.replicate_succ',List.map_append];rfl
          · rintro ys H2 ⟨rfl,rfl⟩
            exact⟨_,SqL.of k9,by rw[List.length_map];exact Nat.le_refl _⟩
          · rintro ys H2 ap ⟨rfl,rfl⟩ nap
            refine⟨ap,List.replicate ws.length true,rfl,SqL.of upd_same,?_⟩
            have e:(List.replicate ws.length true).all id=true:=by rw[List.all_eq_true];exact fun b hb=>(List.mem_replicate.mp hb).2
            show Q (.bl ((List.replicate ws.length true).all id)) _
            rw[e]
            exact k _
        · have tzz:=t79.trans tz
          have hq:=tzz _ _ hq
          have hr':=tzz _ _ hr'
          have hpa:=tzz _ _ hpa
          have hM10:=hM.same tzz.t
          obtain⟨d,ds,D⟩:=least_d (K:=K) L hq hr' hpa hw
          refine D.eqN upd_same ⟨_,rfl,iteN rfl ?_⟩
          have k9:=tz _ _ k9
          clear hM9 tzz tz D nz
          revert hq hM10 k9
          have eqq:upd H9 z (.tup [V.str (Str.ofString "none")])=upd H9 z (.tup [sNone]):=rfl
          try rw[eqq]
          generalize upd H9 z (.tup [sNone])=H10
          intro hq hM10 k9
          obtain⟨mp,sv,tv,ev,rfl,hp,⟨sp,rfl,hsp⟩,ht,⟨ep,rfl,hep⟩⟩:=id hM10
          have lq:LenV K (.ref q) H10 5:=.inr ⟨_,SqT.of hq,rfl⟩
          have lw:LenV K (vT ww) H10 (tx ww).length:=⟨by rw[tx_len];omega,rfl⟩
          rw[tx_len]at lw
          have ls':LenV K (.ref sp) H10 n:=.inr ⟨_,SqT.of hsp,by rw[List.length_map,O.sl]⟩
          refine⟨_,rfl,_,_,_,_,rfl,rfl,SqT.of hq,rfl,rfl,_,rfl,iteN (neF rfl) ?_⟩
          refine⟨_,rfl,_,_,rfl,lq,rfl,_,rfl,iteN (neF rfl) ?_⟩
          refine⟨_,rfl,_,_,_,_,rfl,rfl,SqT.of hq,rfl,_,_,rfl,lw,_,rfl,_,_,_,_,rfl,rfl,SqT.of hp,rfl,_,_,rfl,ls',_,_,rfl,rfl,_,rfl,iteN (decide_eq_false (by omega)) ?_⟩
          refine⟨_,rfl,_,rfl,_,_,_,_,rfl,rfl,SqT.of hq,rfl,.ref mp,l,n,st,ts,en,ww,rfl,⟨hM10,O,hw,by omega⟩,fun z H11 t11 hz=>?_⟩
          rw[he]at hz
          refine⟨z,_,rfl,SqT.of hz,rfl,_,_,rfl,_,_,rfl,rfl,?_⟩
          have hq:=t11 _ _ hq
          have k9:=t11 _ _ k9
          refine⟨_,rfl,_,rfl,iteN rfl ?_⟩
          refine⟨_,rfl,rfl,_,rfl,iteN rfl ?_⟩
          refine⟨_,rfl,_,rfl,_,_,_,_,rfl,rfl,SqT.of hq,rfl,rfl,_,rfl,iteN (neF rfl) ?_⟩
          refine⟨_,rfl,yp,rfl,⟨_,SqL.of k9⟩,comp_go (n:=ws.length) (fun i ys H2=>H2=H11∧ys=(List.replicate i true).map V.bl) (by omega) ⟨rfl,rfl⟩ (fun i ys H2 h=>by rw[h.2];simp) ?_ ?_ ?_⟩
          · rintro i ys H2 hi ⟨rfl,rfl⟩
            obtain⟨v,ev⟩:∃v,ws[i]? = some v:=⟨_,List.getElem?_eq_getElem hi⟩
            have hv:=hws v (List.mem_of_getElem? ev)
            have ewv:(ws.map fun v=>oV (wtO l ts n st en v))[i]? = some (oV (wtO l ts n st en v)):=by rw[List.getElem?_map,ev];rfl
            refine⟨⟨_,_,SqL.of k9,ewv⟩,fun y H' hy=>?_⟩
            obtain⟨rfl,hy⟩:=hy
            have:=hy _ (SqL.of k9)
            rw[ewv]at this;cases this
            refine⟨⟨[some _],rfl,rfl⟩,_,rfl,rfl,?_⟩
            have er:∀u:Bool,u=true→(List.map V.bl (List.replicate i true))++[V.bl u]=List.map V.bl (List.replicate (i+1) true):=fun u hu=>by
              rw[hu,List.replicate_succ',List.map_append];rfl
            cases ew:wtO l ts n st en v with
            | none=>exact⟨_,rfl,iteY rfl ⟨rfl,er _ rfl⟩⟩
            | some g=>
              have:=low v hv.2 g ew
              exact⟨_,rfl,iteN rfl ⟨_,rfl,_,rfl,_,_,rfl,rfl,rfl,er _ (decide_eq_true (by omega))⟩⟩
          · rintro ys H2 ⟨rfl,rfl⟩
            exact⟨_,SqL.of k9,by rw[List.length_map];exact Nat.le_refl _⟩
          · rintro ys H2 ap ⟨rfl,rfl⟩ nap
            refine⟨ap,List.replicate ws.length true,rfl,SqL.of upd_same,?_⟩
            have e:(List.replicate ws.length true).all id=true:=by rw[List.all_eq_true];exact fun b hb=>(List.mem_replicate.mp hb).2
            show Q (.bl ((List.replicate ws.length true).all id)) _
            rw[e]
            exact k _
theorem law_binds(T:Txt K mg t):∀(s:Shared) (u:Value),BindsTo s t.d_law ⟨[u],[]⟩ [("_law_script",u)]:=by
  obtain⟨oc,od,kV,doc,pm,an,cdv,ct,osl,e,_,_⟩:=T.F_law.ex
  rw[e]
  exact fun s u=>.of_eq rfl
end
abbrev NS(K:PySem.W.Frag)(x:Str)(a:Addr):Prop:=PySem.W.nsIn K mainGlobals x=some (some (.ref a))
abbrev KI(K:PySem.W.Frag)(a:Addr):Prop:=PySem.W.keepIn K (.ref a)=true
abbrev FX(K:PySem.W.Frag)(n q:Str)(s:Stmt)(a:Addr):Prop:=∃d,Fun K n q s a d
theorem fx{K:PySem.W.Frag}{x q:Str}{s:Stmt}{f:Addr}{b:Value}{u v:Option Addr}{w:Array (Option Value)}{c d e g j:Value}(l:K.lookup f=some ⟨b,u,.func (PySem.W.fnOf x q (defArgs s) (defBody s) (defScope s) .none c d e v g j),w⟩)(h:PySem.W.codeIn K g q=true)(k:KI K f):FX K x q s f:=⟨_,fun_mk l h k⟩
theorem bn1{K:PySem.W.Frag}{x q:Str}{s:Stmt}{f:Addr}{fd:FuncData}{p0:Str}(F:Fun K x q s f fd)(h:∀(c d e:Value) (v:Option Addr) (g j:Value) (u0:Value),bindArgs (PySem.W.fnOf x q (defArgs s) (defBody s) (defScope s) .none c d e v g j) ⟨[u0],[]⟩=pure (([p0]:List Str).zip [u0]):=by intros;rfl):Binds K fd [p0] []:=F.binds fun c d e v g j us hl=>match us,hl with | [u0],_=>h c d e v g j u0
theorem bn2{K:PySem.W.Frag}{x q:Str}{s:Stmt}{f:Addr}{fd:FuncData}{p0 p1:Str}(F:Fun K x q s f fd)(h:∀(c d e:Value) (v:Option Addr) (g j:Value) (u0 u1:Value),bindArgs (PySem.W.fnOf x q (defArgs s) (defBody s) (defScope s) .none c d e v g j) ⟨[u0,u1],[]⟩=pure (([p0,p1]:List Str).zip [u0,u1]):=by intros;rfl):Binds K fd [p0,p1] []:=F.binds fun c d e v g j us hl=>match us,hl with | [u0,u1],_=>h c d e v g j u0 u1
theorem bn3{K:PySem.W.Frag}{x q:Str}{s:Stmt}{f:Addr}{fd:FuncData}{p0 p1 p2:Str}(F:Fun K x q s f fd)(h:∀(c d e:Value) (v:Option Addr) (g j:Value) (u0 u1 u2:Value),bindArgs (PySem.W.fnOf x q (defArgs s) (defBody s) (defScope s) .none c d e v g j) ⟨[u0,u1,u2],[]⟩=pure (([p0,p1,p2]:List Str).zip [u0,u1,u2]):=by intros;rfl):Binds K fd [p0,p1,p2] []:=F.binds fun c d e v g j us hl=>match us,hl with | [u0,u1,u2],_=>h c d e v g j u0 u1 u2
theorem bn4{K:PySem.W.Frag}{x q:Str}{s:Stmt}{f:Addr}{fd:FuncData}{p0 p1 p2 p3:Str}(F:Fun K x q s f fd)(h:∀(c d e:Value) (v:Option Addr) (g j:Value) (u0 u1 u2 u3:Value),bindArgs (PySem.W.fnOf x q (defArgs s) (defBody s) (defScope s) .none c d e v g j) ⟨[u0,u1,u2,u3],[]⟩=pure (([p0,p1,p2,p3]:List Str).zip [u0,u1,u2,u3]):=by intros;rfl):Binds K fd [p0,p1,p2,p3] []:=F.binds fun c d e v g j us hl=>match us,hl with | [u0,u1,u2,u3],_=>h c d e v g j u0 u1 u2 u3
theorem txt_mk{K:PySem.W.Frag}{h:Heap}{mg:Str→Option Value}(X:K.In h)(G:h.Ns mainGlobals mg){A0 A1 A2 A3 A4 A5 A6 A7 A8 A9 A10 A11 A12 A13 A14 A15 A16 A17 A18 A19 A20 A21 A22 A23 A24 A25 A26 A27 A28 A29 A30 A31 A32 A33 A34 A35 A36 A37 A38 A39 A40 c_cheapest P_cheapest:Addr}
 (N0:NS K "Costs" A0)
 (pg0:PySem.W.plainGet K A0 Str.empty=true)
 (hd0:PySem.W.hasDictIn K A0=true)
 (po0:PySem.W.plainOver K A0=true)
 (sa0:PySem.W.findIn K (.ref A0) "__setattr__"=some (some (.builtin "object.__setattr__")))
 (mk0:PySem.W.makesIn K A0=true)
 (kp0:KI K A0)
 (in0:PySem.W.findIn K (.ref A0) "__init__"=some (some (.builtin "object.__init__")))
 (n0:NS K "rooms" A1)
 (f0:FX K "rooms" "rooms" s_rooms A1)
 (n1:NS K "cheapest_steps" A2)
 (f1:FX K "cheapest_steps" "cheapest_steps" s_cheapest_steps A2)
 (n2:NS K "steps_turned" A3)
 (f2:FX K "steps_turned" "steps_turned" s_steps_turned A3)
 (n3:NS K "standing" A4)
 (f3:FX K "standing" "standing" s_standing A4)
 (n4:NS K "one_step_on" A5)
 (f4:FX K "one_step_on" "one_step_on" s_one_step_on A5)
 (n5:NS K "cheapest_walks" A6)
 (f5:FX K "cheapest_walks" "cheapest_walks" s_cheapest_walks A6)
 (n6:NS K "word_and_way" A7)
 (f6:FX K "word_and_way" "word_and_way" s_word_and_way A7)
 (n7:NS K "turned_back" A8)
 (f7:FX K "turned_back" "turned_back" s_turned_back A8)
 (n8:NS K "ring_below" A9)
 (f8:FX K "ring_below" "ring_below" s_ring_below A9)
 (n9:NS K "rings_below" A10)
 (f9:FX K "rings_below" "rings_below" s_rings_below A10)
 (n10:NS K "least_walk" A11)
 (f10:FX K "least_walk" "least_walk" s_least_walk A11)
 (n11:NS K "prices_of" A12)
 (f11:FX K "prices_of" "prices_of" s_prices_of A12)
 (n12:NS K "cheapest" A13)
 (f12:FX K "cheapest" "cheapest" s_cheapest A13)
 (n13:NS K "column_at" A14)
 (f13:FX K "column_at" "column_at" s_column_at A14)
 (n14:NS K "columns_of" A15)
 (f14:FX K "columns_of" "columns_of" s_columns_of A15)
 (n15:PySem.W.findIn K (.ref A0) "nought"=some (some (.ref A16)))
 (i15:PySem.W.isFn K (.ref A16)=true)
 (f15:FX K "nought" "Costs.nought" s_Costs_nought A16)
 (n16:PySem.W.findIn K (.ref A0) "plus"=some (some (.ref A17)))
 (i16:PySem.W.isFn K (.ref A17)=true)
 (f16:FX K "plus" "Costs.plus" s_Costs_plus A17)
 (n17:PySem.W.findIn K (.ref A0) "times"=some (some (.ref A18)))
 (i17:PySem.W.isFn K (.ref A18)=true)
 (f17:FX K "times" "Costs.times" s_Costs_times A18)
 (n18:NS K "dot" A19)
 (f18:FX K "dot" "dot" s_dot A19)
 (n19:NS K "row_by" A20)
 (f19:FX K "row_by" "row_by" s_row_by A20)
 (n20:NS K "is_word" A21)
 (f20:FX K "is_word" "is_word" s_is_word A21)
 (n21:NS K "need_word" A22)
 (f21:FX K "need_word" "need_word" s_need_word A22)
 (n22:NS K "table_of" A23)
 (f22:FX K "table_of" "table_of" s_table_of A23)
 (n23:NS K "ahead" A24)
 (f23:FX K "ahead" "ahead" s_ahead A24)
 (n24:NS K "weight" A25)
 (f24:FX K "weight" "weight" s_weight A25)
 (n25:NS K "_law_next" A26)
 (f25:FX K "_law_next" "_law_next" s_law_next A26)
 (n26:NS K "_law_state" A27)
 (f26:FX K "_law_state" "_law_state" s_law_state A27)
 (n27:NS K "_law_letters" A28)
 (f27:FX K "_law_letters" "_law_letters" s_law_letters A28)
 (n28:NS K "_law_rooms" A29)
 (f28:FX K "_law_rooms" "_law_rooms" s_law_rooms A29)
 (n29:NS K "_law_costs" A30)
 (f29:FX K "_law_costs" "_law_costs" s_law_costs A30)
 (n30:NS K "_law_far" A31)
 (f30:FX K "_law_far" "_law_far" s_law_far A31)
 (n31:NS K "_law_any_machine" A32)
 (f31:FX K "_law_any_machine" "_law_any_machine" s_law_any_machine A32)
 (n32:NS K "_law_walk" A33)
 (f32:FX K "_law_walk" "_law_walk" s_law_walk A33)
 (n33:NS K "_law_falls" A34)
 (f33:FX K "_law_falls" "_law_falls" s_law_falls A34)
 (n34:NS K "_law_less" A35)
 (f34:FX K "_law_less" "_law_less" s_law_less A35)
 (n35:NS K "_law_weigh" A36)
 (f35:FX K "_law_weigh" "_law_weigh" s_law_weigh A36)
 (n36:NS K "_law_some_words" A37)
 (f36:FX K "_law_some_words" "_law_some_words" s_law_some_words A37)
 (n37:NS K "_law_weighs" A38)
 (f37:FX K "_law_weighs" "_law_weighs" s_law_weighs A38)
 (n38:NS K "_law_each_less" A39)
 (f38:FX K "_law_each_less" "_law_each_less" s_law_each_less A39)
 (n39:NS K "law" A40)
 (f39:FX K "law" "law" s_law A40)
 (z_len:PySem.W.nsIn K mainGlobals "len"=some none)
 (z_range:PySem.W.nsIn K mainGlobals "range"=some none)
 (z_zip:PySem.W.nsIn K mainGlobals "zip"=some none)
 (z_min:PySem.W.nsIn K mainGlobals "min"=some none)
 (z_enumerate:PySem.W.nsIn K mainGlobals "enumerate"=some none)
 (z_dict:PySem.W.nsIn K mainGlobals "dict"=some none)
 (z_tuple:PySem.W.nsIn K mainGlobals "tuple"=some none)
 (z_isinstance:PySem.W.nsIn K mainGlobals "isinstance"=some none)
 (z_str:PySem.W.nsIn K mainGlobals "str"=some none)
 (z_all:PySem.W.nsIn K mainGlobals "all"=some none)
 (z_bool:PySem.W.nsIn K mainGlobals "bool"=some none)
 (z_int:PySem.W.nsIn K mainGlobals "int"=some none)
 (z_list:PySem.W.nsIn K mainGlobals "list"=some none)
 (k_tt:PySem.W.kitOne K (.type "tuple") (.type "tuple")=some true)
 (k_ll:PySem.W.kitOne K (.type "list") (.type "list")=some true)
 (k_ii:PySem.W.kitOne K (.type "int") (.type "int")=some true)
 (k_ib:PySem.W.kitOne K (.type "int") (.type "bool")=some false)
 (k_ss:PySem.W.kitOne K (.type "str") (.type "str")=some true)
 (tb_cheapest:PySem.W.tabIn K "cheapest"=some (c_cheapest,P_cheapest))
 : ∃t:Adr,Txt K mg t:=
 have M:∀{x:Str} {v:Value},PySem.W.nsIn K mainGlobals x=some (some v)→mg x=some v:=fun n=>PySem.W.mg_of X G n
 have Z:∀{x:Str},PySem.W.nsIn K mainGlobals x=some none→mg x=none:=fun n=>PySem.W.mg_none_of X G n
 have S:∀{n q:Str} {s:Stmt} {a:Addr} (f:FX K n q s a),Fun K n q s a f.choose:=fun f=>f.choose_spec
 ⟨{ rooms:=A1,d_rooms:=f0.choose,cheapest_steps:=A2,d_cheapest_steps:=f1.choose,steps_turned:=A3,d_steps_turned:=f2.choose,standing:=A4,d_standing:=f3.choose,one_step_on:=A5,d_one_step_on:=f4.choose,cheapest_walks:=A6,d_cheapest_walks:=f5.choose,word_and_way:=A7,d_word_and_way:=f6.choose,turned_back:=A8,d_turned_back:=f7.choose,ring_below:=A9,d_ring_below:=f8.choose,rings_below:=A10,d_rings_below:=f9.choose,least_walk:=A11,d_least_walk:=f10.choose,prices_of:=A12,d_prices_of:=f11.choose,cheapest:=A13,d_cheapest:=f12.choose,column_at:=A14,d_column_at:=f13.choose,columns_of:=A15,d_columns_of:=f14.choose,Costs_nought:=A16,d_Costs_nought:=f15.choose,Costs_plus:=A17,d_Costs_plus:=f16.choose,Costs_times:=A18,d_Costs_times:=f17.choose,dot:=A19,d_dot:=f18.choose,row_by:=A20,d_row_by:=f19.choose,is_word:=A21,d_is_word:=f20.choose,need_word:=A22,d_need_word:=f21.choose,table_of:=A23,d_table_of:=f22.choose,ahead:=A24,d_ahead:=f23.choose,weight:=A25,d_weight:=f24.choose,law_next:=A26,d_law_next:=f25.choose,law_state:=A27,d_law_state:=f26.choose,law_letters:=A28,d_law_letters:=f27.choose,law_rooms:=A29,d_law_rooms:=f28.choose,law_costs:=A30,d_law_costs:=f29.choose,law_far:=A31,d_law_far:=f30.choose,law_any_machine:=A32,d_law_any_machine:=f31.choose,law_walk:=A33,d_law_walk:=f32.choose,law_falls:=A34,d_law_falls:=f33.choose,law_less:=A35,d_law_less:=f34.choose,law_weigh:=A36,d_law_weigh:=f35.choose,law_some_words:=A37,d_law_some_words:=f36.choose,law_weighs:=A38,d_law_weighs:=f37.choose,law_each_less:=A39,d_law_each_less:=f38.choose,law:=A40,d_law:=f39.choose,Costs:=A0,c_cheapest:=c_cheapest,P_cheapest:=P_cheapest },
   { F_rooms:=S f0,b_rooms:=bn1 (S f0),m_rooms:=M n0,F_cheapest_steps:=S f1,b_cheapest_steps:=bn1 (S f1),m_cheapest_steps:=M n1,F_steps_turned:=S f2,b_steps_turned:=bn1 (S f2),m_steps_turned:=M n2,F_standing:=S f3,b_standing:=bn1 (S f3),m_standing:=M n3,F_one_step_on:=S f4,b_one_step_on:=bn2 (S f4),m_one_step_on:=M n4,F_cheapest_walks:=S f5,b_cheapest_walks:=bn3 (S f5),m_cheapest_walks:=M n5,F_word_and_way:=S f6,b_word_and_way:=bn1 (S f6),m_word_and_way:=M n6,F_turned_back:=S f7,b_turned_back:=bn1 (S f7),m_turned_back:=M n7,F_ring_below:=S f8,b_ring_below:=bn3 (S f8),m_ring_below:=M n8,F_rings_below:=S f9,b_rings_below:=bn3 (S f9),m_rings_below:=M n9,F_least_walk:=S f10,b_least_walk:=bn3 (S f10),m_least_walk:=M n10,F_prices_of:=S f11,b_prices_of:=bn3 (S f11),m_prices_of:=M n11,F_cheapest:=S f12,b_cheapest:=bn1 (S f12),m_cheapest:=M n12,F_column_at:=S f13,b_column_at:=bn2 (S f13),m_column_at:=M n13,F_columns_of:=S f14,b_columns_of:=bn1 (S f14),m_columns_of:=M n14,F_Costs_nought:=S f15,b_Costs_nought:=bn1 (S f15),t_Costs_nought:=⟨n15,i15,(S f15).kp⟩,F_Costs_plus:=S f16,b_Costs_plus:=bn3 (S f16),t_Costs_plus:=⟨n16,i16,(S f16).kp⟩,F_Costs_times:=S f17,b_Costs_times:=bn3 (S f17),t_Costs_times:=⟨n17,i17,(S f17).kp⟩,F_dot:=S f18,b_dot:=bn3 (S f18),m_dot:=M n18,F_row_by:=S f19,b_row_by:=bn3 (S f19),m_row_by:=M n19,F_is_word:=S f20,b_is_word:=bn2 (S f20),m_is_word:=M n20,F_need_word:=S f21,b_need_word:=bn2 (S f21),m_need_word:=M n21,F_table_of:=S f22,b_table_of:=bn2 (S f22),m_table_of:=M n22,F_ahead:=S f23,b_ahead:=bn3 (S f23),m_ahead:=M n23,F_weight:=S f24,b_weight:=bn3 (S f24),m_weight:=M n24,F_law_next:=S f25,b_law_next:=bn2 (S f25),m_law_next:=M n25,F_law_state:=S f26,b_law_state:=bn1 (S f26),m_law_state:=M n26,F_law_letters:=S f27,b_law_letters:=bn1 (S f27),m_law_letters:=M n27,F_law_rooms:=S f28,b_law_rooms:=bn3 (S f28),m_law_rooms:=M n28,F_law_costs:=S f29,b_law_costs:=bn3 (S f29),m_law_costs:=M n29,F_law_far:=S f30,b_law_far:=bn1 (S f30),m_law_far:=M n30,F_law_any_machine:=S f31,b_law_any_machine:=bn4 (S f31),m_law_any_machine:=M n31,F_law_walk:=S f32,b_law_walk:=bn2 (S f32),m_law_walk:=M n32,F_law_falls:=S f33,b_law_falls:=bn2 (S f33),m_law_falls:=M n33,F_law_less:=S f34,b_law_less:=bn2 (S f34),m_law_less:=M n34,F_law_weigh:=S f35,b_law_weigh:=bn2 (S f35),m_law_weigh:=M n35,F_law_some_words:=S f36,b_law_some_words:=bn2 (S f36),m_law_some_words:=M n36,F_law_weighs:=S f37,b_law_weighs:=bn2 (S f37),m_law_weighs:=M n37,F_law_each_less:=S f38,b_law_each_less:=bn2 (S f38),m_law_each_less:=M n38,F_law:=S f39,b_law:=bn1 (S f39),m_law:=M n39,C_Costs:=⟨pg0,hd0,po0,sa0⟩,m_Costs:=M N0,M_Costs:=⟨mk0,in0,kp0⟩,z_len:=Z z_len,z_range:=Z z_range,z_zip:=Z z_zip,z_min:=Z z_min,z_enumerate:=Z z_enumerate,z_dict:=Z z_dict,z_tuple:=Z z_tuple,z_isinstance:=Z z_isinstance,z_str:=Z z_str,z_all:=Z z_all,z_bool:=Z z_bool,z_int:=Z z_int,z_list:=Z z_list,k_tt:=k_tt,k_ll:=k_ll,k_ii:=k_ii,k_ib:=k_ib,k_ss:=k_ss,tb_cheapest:=tb_cheapest,ns_cheapest:=n12 }⟩
end K74
open PySem PySem.W PyProof.Rows
set_option maxRecDepth 100000 in
set_option maxHeartbeats 0 in
theorem PySem.Challenge.cw_weighwalk_k74_whole_no_word_is_cheaper_holds : PySem.Challenge.rw_weighwalk_k74_whole_no_word_is_cheaper.Holds := by
  w_on;o_law
  refine H74.holds_ (by assumption) ?hw ?hc
  (case hw=>w_witness2)
  unfold H74.hook
  k_fill
  refine L2.walk_ofT (l:=PySem.Challenge.rw_weighwalk_k74_whole_no_word_is_cheaper) (n:=63) (k:=10) (x:="_law_script") (CX:=L2.CX0) (sp:=K74.sp_law) ["cheapest"] rfl (by decide) rfl ⟨rfl,by decide,by decide⟩ (by decide +kernel) (fun w h Y=>PySem.W.kIn_of Y) ?NT ?RC ?F ?S ?C
  case NT=>exact fun w=>by kernel_rfl
  case RC=>exact fun y hy=>by cases List.mem_singleton.mp hy;kernel_rfl
  case F=>
    intro w mg fa h KX G hmg
    have T:∃t,K74.Txt (L2.KOf KX) mg t:=by
      dsimp only[L2.KOf]
      refine' K74.txt_mk KX G (c_cheapest:=191) (P_cheapest:=189) ?_ ?_ ?_ ?_ ?_ ?_ ?_ ?_ ?_ (K74.fx (H74.lk_rooms _) ?_ ?_) ?_ (K74.fx (H74.lk_cheapest_steps _) ?_ ?_) ?_ (K74.fx (H74.lk_steps_turned _) ?_ ?_) ?_ (K74.fx (H74.lk_standing _) ?_ ?_) ?_ (K74.fx (H74.lk_one_step_on _) ?_ ?_) ?_ (K74.fx (H74.lk_cheapest_walks _) ?_ ?_) ?_ (K74.fx (H74.lk_word_and_way _) ?_ ?_) ?_ (K74.fx (H74.lk_turned_back _) ?_ ?_) ?_ (K74.fx (H74.lk_ring_below _) ?_ ?_) ?_ (K74.fx (H74.lk_rings_below _) ?_ ?_) ?_ (K74.fx (H74.lk_least_walk _) ?_ ?_) ?_ (K74.fx (H74.lk_prices_of _) ?_ ?_) ?_ (K74.fx (H74.lk_cheapest _) ?_ ?_) ?_ (K74.fx (H74.lk_column_at _) ?_ ?_) ?_ (K74.fx (H74.lk_columns_of _) ?_ ?_) ?_ ?_ (K74.fx (H74.lk_Costs_nought _) ?_ ?_) ?_ ?_ (K74.fx (H74.lk_Costs_plus _) ?_ ?_) ?_ ?_ (K74.fx (H74.lk_Costs_times _) ?_ ?_) ?_ (K74.fx (H74.lk_dot _) ?_ ?_) ?_ (K74.fx (H74.lk_row_by _) ?_ ?_) ?_ (K74.fx (H74.lk_is_word _) ?_ ?_) ?_ (K74.fx (H74.lk_need_word _) ?_ ?_) ?_ (K74.fx (H74.lk_table_of _) ?_ ?_) ?_ (K74.fx (H74.lk_ahead _) ?_ ?_) ?_ (K74.fx (H74.lk_weight _) ?_ ?_) ?_ (K74.fx (H74.lk__law_next _) ?_ ?_) ?_ (K74.fx (H74.lk__law_state _) ?_ ?_) ?_ (K74.fx (H74.lk__law_letters _) ?_ ?_) ?_ (K74.fx (H74.lk__law_rooms _) ?_ ?_) ?_ (K74.fx (H74.lk__law_costs _) ?_ ?_) ?_ (K74.fx (H74.lk__law_far _) ?_ ?_) ?_ (K74.fx (H74.lk__law_any_machine _) ?_ ?_) ?_ (K74.fx (H74.lk__law_walk _) ?_ ?_) ?_ (K74.fx (H74.lk__law_falls _) ?_ ?_) ?_ (K74.fx (H74.lk__law_less _) ?_ ?_) ?_ (K74.fx (H74.lk__law_weigh _) ?_ ?_) ?_ (K74.fx (H74.lk__law_some_words _) ?_ ?_) ?_ (K74.fx (H74.lk__law_weighs _) ?_ ?_) ?_ (K74.fx (H74.lk__law_each_less _) ?_ ?_) ?_ (K74.fx (H74.lk_law _) ?_ ?_) ?_ ?_ ?_ ?_ ?_ ?_ ?_ ?_ ?_ ?_ ?_ ?_ ?_ ?k_tt ?k_ll ?k_ii ?k_ib ?k_ss ?tb_cheapest
      any_goals (show _=_;k_is)
      (case k_tt | k_ll | k_ii | k_ib | k_ss=>kit_is)
      (case tb_cheapest=>kernel_rfl)
    obtain⟨t,T⟩:=T
    have e0:=hmg.symm.trans T.m_law
    cases e0
    exact⟨_,K74.law_binds T,fun base kb nb hT=>K74.ok_law T (hT "cheapest" (List.mem_singleton.mpr rfl) _ _ T.tb_cheapest)⟩
  case S=>exact fun K H a ns hl hT hS=>⟨a,ns,rfl,hS,hl,fun c P e=>hT "cheapest" (List.mem_singleton.mpr rfl) c P e,fun _=>rfl⟩
  case C=>exact fun _ _ _ _ z=>z
