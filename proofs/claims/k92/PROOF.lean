import PyProof.Rows.All
import Wide.All
import OpenK.AllK
import Wide.FinOn
import Lean
import PyProof.EqAt
import PyProof.EqKinds
import PyProof.TupleCall
import KE.IntTextLaws
import KE.KIntText
import KE.KTryMore
import PyProof.Ascii
import PyProof.FitsInt
import PyProof.MeetsStr
import PyProof.Rows.StrFromFirst
import PyProof.Rows.StrLawsPart
import PyProof.Rows.StrNews2
import PyProof.Rows.StrStrike
import PyProof.StrCalls
import PyProof.StrCalls2
import PyProof.StrCalls6
import PyProof.StrLawsIn
import PyProof.StrLawsTight
import PyProof.ToksMono
import PySem.Challenge.RW_weighwalk_k92_odd_machines
set_option Elab.async false
set_option linter.all false
set_option maxRecDepth 100000
namespace L2
open PySem PySem.Spec PyProof.Rows
abbrev Key:=Sum Int Str
def keyIs:Key→Value→Bool
  | .inl k,v=>Value.isInt k v
  | .inr x,v=>Value.isStrOf x v
def keyH(w:World):Key→Int
  | .inl k=>hashInt k
  | .inr x=>hashStr w x
theorem b0p:∀{k:Key} {v:Value},keyIs k v=true→(∃i t,k=Sum.inl i∧v=Value.int i t)∨(∃x t,k=Sum.inr x∧v=Value.str x t)
  | .inl i,v,h=>by
    obtain⟨t,e⟩:=Value.isInt_shape (k:=i) (v:=v) h
    exact .inl ⟨i,t,rfl,e⟩
  | .inr x,v,h=>by
    obtain⟨t,e⟩:=Value.isStrOf_shape (x:=x) (v:=v) h
    exact .inr ⟨x,t,rfl,e⟩
theorem key_ll(a b:Int):decide ((Sum.inl a:Key)=Sum.inl b)=(a == b):=by
  by_cases e:a=b
  · subst e;simp
  · have h:¬(Sum.inl a:Key)=Sum.inl b:=fun q=>e (Sum.inl.inj q)
    rw[decide_eq_false h]
    exact(beq_eq_false_iff_ne.mpr e).symm
theorem key_rr(a b:Str):decide ((Sum.inr a:Key)=Sum.inr b)=decide (a=b):=by
  by_cases e:a=b
  · subst e;simp
  · have h:¬(Sum.inr a:Key)=Sum.inr b:=fun q=>e (Sum.inr.inj q)
    rw[decide_eq_false h,decide_eq_false e]
theorem key_lr(a:Int)(b:Str):decide ((Sum.inl a:Key)=Sum.inr b)=false:=decide_eq_false (fun q=>nomatch q)
theorem key_rl(a:Str)(b:Int):decide ((Sum.inr a:Key)=Sum.inl b)=false:=decide_eq_false (fun q=>nomatch q)
def mixKind(prog:Program)(w:World):PySem.KeyKind prog w Key where
  is:=keyIs
  hash:=keyH w
  inj:=fun v a b ha hb=>by
    rcases b0p ha with ⟨i,t,rfl,rfl⟩ | ⟨x,t,rfl,rfl⟩
    · rcases b0p hb with ⟨j,u,rfl,e⟩ | ⟨y,u,rfl,e⟩
      · injection e with e1 _;rw[e1]
      · exact nomatch e
    · rcases b0p hb with ⟨j,u,rfl,e⟩ | ⟨y,u,rfl,e⟩
      · exact nomatch e
      · injection e with e1 _;rw[e1]
  byValue:=fun k v h=>by
    rcases b0p h with ⟨i,t,rfl,rfl⟩ | ⟨x,t,rfl,rfl⟩ <;>rfl
  pyHash:=fun hv h=>by
    rcases b0p hv with ⟨i,t,rfl,rfl⟩ | ⟨x,t,rfl,rfl⟩
    · exact wpAny_pyHash_int h
    · exact wpAny_pyHash_str h
  eqBool:=fun hu hv h=>by
    rcases b0p hu with ⟨i,t,rfl,rfl⟩ | ⟨x,t,rfl,rfl⟩
    · rcases b0p hv with ⟨j,u,rfl,rfl⟩ | ⟨y,u,rfl,rfl⟩
      · rw[key_ll]at h;exact wpAny_eqBool_int h
      · rw[key_lr]at h;exact SeqAt.EqAt.int_str i t y u _ _ _ _ h
    · rcases b0p hv with ⟨j,u,rfl,rfl⟩ | ⟨y,u,rfl,rfl⟩
      · rw[key_rl]at h;exact SeqAt.EqAt.str_int x t j u _ _ _ _ h
      · rw[key_rr]at h;exact wpAny_eqBool_str h
  «strs»:=fun k x t v h=>by
    rcases b0p h with ⟨i,u,rfl,e⟩ | ⟨y,u,rfl,e⟩
    · exact nomatch e
    · injection e with e1 _
      subst e1
      cases v <;>rfl
end L2
namespace L2
open PySem PySem.Spec PyProof.Rows
inductive V where
  | non | bl (b:Bool) | int (i:Int) | str (x:Str) | byt (b:Array UInt8) | flt (b:UInt64) | ref (a:Addr) | ty (n:String)
  deriving DecidableEq
def RelV:V→Value→Prop
  | .non,u=>u=Value.none
  | .bl b,u=>u=Value.bool b
  | .int i,u=>∃t,u=Value.int i t
  | .str x,u=>∃t,u=Value.str x t
  | .byt b,u=>∃t,u=Value.bytes b t
  | .flt b,u=>∃t,u=Value.float b t
  | .ref a,u=>u=Value.ref a
  | .ty n,u=>u=Value.type n
abbrev Vals:List V→List Value→Prop:=Paired RelV
theorem Vals.length{xs:List V}{us:List Value}(r:Vals xs us):xs.length=us.length:=Paired.length r
theorem Vals.get:∀{xs:List V} {us:List Value} {i:Nat} {x:V},Vals xs us→xs[i]? = some x→∃u,us[i]? = some u∧RelV x u
  | _,_,_,_,.nil,e=>by simp at e
  | _,_,0,_,.cons r _,e=>by simp at e;subst e;exact⟨_,rfl,r⟩
  | _,_,i+1,x,.cons _ t,e=>by
    obtain⟨u,h1,h2⟩:=Vals.get (i:=i) (x:=x) t (by simpa using e)
    exact⟨u,by simpa using h1,h2⟩
theorem Vals.set{x:V}{u:Value}(r:RelV x u):∀{xs:List V} {us:List Value} (i:Nat),Vals xs us→Vals (xs.set i x) (us.set i u)
  | _,_,_,.nil=>.nil
  | _,_,0,.cons _ t=>.cons r t
  | _,_,i+1,.cons q t=>.cons q (Vals.set r i t)
theorem Vals.append:∀{xs ys:List V} {us ws:List Value},Vals xs us→Vals ys ws→Vals (xs++ys) (us++ws)
  | _,_,_,_,.nil,s=>s
  | _,_,_,_,.cons r t,s=>.cons r (Vals.append t s)
theorem Vals.take:∀{xs:List V} {us:List Value} (n:Nat),Vals xs us→Vals (xs.take n) (us.take n)
  | _,_,0,_=>.nil
  | _,_,_+1,.nil=>.nil
  | _,_,n+1,.cons r t=>.cons r (Vals.take n t)
theorem Vals.drop:∀{xs:List V} {us:List Value} (n:Nat),Vals xs us→Vals (xs.drop n) (us.drop n)
  | _,_,0,r=>r
  | _,_,_+1,.nil=>.nil
  | _,_,n+1,.cons _ t=>Vals.drop n t
theorem Vals.none_of:∀{xs:List V} {us:List Value} {i:Nat},Vals xs us→xs[i]? = none→us[i]? = none:=fun{xs us i} r e=>by
  have h1:=r.length
  have h2:xs.length≤i:=List.getElem?_eq_none_iff.mp e
  exact List.getElem?_eq_none_iff.mpr (by omega)
def RelO:Option V→Option Value→Prop
  | some v,some u=>RelV v u
  | none,none=>True
  | _,_=>False
def KV{κ:Type}:List (κ × V)→List (κ × Value)→Prop:=Paired fun(p:κ × V) (q:κ × Value)=>p.1=q.1∧RelV p.2 q.2
def kV:Key→V
  | .inl i=>.int i
  | .inr x=>.str x
inductive HO where
  | lst (xs:List V)
  | tup (xs:List V)
  | dK (kvs:List (Key × V)) | dT (kvs:List (List Key × V))
  | set (S:Int→Bool) (n:Nat)
  | ins (C dx:Addr) (fs:List (Str × V))
  | own (x:Addr)
  | xd (fs:List (Str × V))
  | met (f x:Addr)
  | rng (lo hi:Int)
  | frz (o:Obj) (u:HO)
  | tbl (ps:Array Value)
  | ext (φ:Heap→Prop)
abbrev Hp:=Addr→Option HO
def upd(H:Hp)(a:Addr)(o:HO):Hp:=fun b=>if b=a then some o else H b
theorem a0c{H:Hp}{a:Addr}{o:HO}:upd H a o a=some o:=by unfold upd;rw[if_pos rfl]
theorem a0w{H:Hp}{a b:Addr}{o:HO}(h:b≠a):upd H a o b=H b:=by unfold upd;rw[if_neg h]
theorem upd_upd{H:Hp}{a:Addr}{o u:HO}:upd (upd H a o) a u=upd H a u:=by
  funext b;unfold upd;split <;>rfl
theorem a0t{H:Hp}{a b:Addr}{o:HO}(h:H a=some o)(h':H b=none):a≠b:=by
  intro e;subst e;rw[h]at h';cases h'
section
variable(P:Program)(w:World)
def ObjOk(H:Hp)(h:Heap)(a:Addr):HO→Prop
  | .lst xs=>xs.length≤sizeLine∧∃(its:List Value) (n:Nat),Vals xs its∧h.get? a=some { cls:=.type "list",data:=.seq its.toArray n }
  | .tup xs=>xs.length≤sizeLine∧∃its:List Value,Vals xs its∧IsTup h a its.toArray∧((∀i y,xs≠[.int i,y])→∃o,h.get? a=some o∧o.dict=none)
  | .dK kvs=>kvs.length≤sizeLine∧(a == sysModules)=false∧∃vs,KV kvs vs∧h.DictOf (mixKind P w) a vs
  | .dT kvs=>kvs.length≤sizeLine∧(a == sysModules)=false∧∃xs:List (List Key × Addr × Value),
      Paired (fun(p:List Key × V) (q:List Key × Addr × Value)=>p.1=q.1∧H q.2.1=some (.tup (p.1.map kV))∧RelV p.2 q.2.2) kvs xs∧
      ∃o es ep,h.get? a=some o∧o.ExactDict∧o.data=.dict es ep∧es.toList=xs.map (entryOfKey (tupleKind (mixKind P w)))∧(xs.map (·.1)).Nodup
  | .set S n=>h.SetOf (intKind P w) a S n
  | .ins C dx fs=>H dx=some (.own a)∧fs.length≤1000∧dx≠a∧h.get? a=some (PySem.W.instObj C dx)∧
      ∃mA,h.Ns1 dx mA∧(∀f,RelO (fs.lookup f) (mA f))∧PySem.Within mA (fs.map (·.1))
  | .own _=>∃o,h.get? a=some o
  | .xd fs=>∃mA,h.Ns1 a mA∧∀f,RelO (fs.lookup f) (mA f)
  | .rng lo hi=>∃t u v,h.get? a=some { cls:=.type "range",data:=.fields #[.int lo t,.int hi u,.int 1 v] }
  | .frz o u=>h.get? a=some o∧ObjOk H h a u
  | .tbl ps=>h.get? a=some { cls:=.none,data:=.fields ps }
  | .met f x=>h.get? a=some (PySem.W.methodObj (.ref f) (.ref x))
  | .ext φ=>φ h∧(∃o,h.get? a=some o)∧∀h1 h2:Heap,φ h1→(∀o,h1.get? a=some o→h2.get? a=some o)→φ h2
def HOk(H:Hp)(h:Heap):Prop:=∀a o,H a=some o→ObjOk P w H h a o
end
section
variable{P:Program}{w:World}{H H':Hp}{h h':Heap}{a:Addr}{o:HO}
theorem ObjOk.lt(x:ObjOk P w H h a o):a < h.objs.size:=by
  cases o with
  | lst xs=>obtain⟨_,_,_,_,e⟩:=x;exact Heap.lt_size e
  | tup xs=>obtain⟨_,_,_,p,_⟩:=x;exact p.lt
  | dK kvs=>obtain⟨_,_,_,_,o,_,_,e,_⟩:=x;exact Heap.lt_size e
  | dT kvs=>obtain⟨_,_,_,_,o,_,_,e,_⟩:=x;exact Heap.lt_size e
  | set S n=>obtain⟨o,_,_,_,e,_⟩:=x;exact Heap.lt_size e
  | ins C dx fs=>obtain⟨_,_,_,e,_⟩:=x;exact Heap.lt_size e
  | own y=>obtain⟨_,e⟩:=x;exact Heap.lt_size e
  | xd fs=>obtain⟨_,⟨_,_,_,e,_⟩,_⟩:=x;exact Heap.lt_size e
  | rng lo hi=>obtain⟨_,_,_,e⟩:=x;exact Heap.lt_size e
  | frz ob u=>obtain⟨e,_⟩:=x;exact Heap.lt_size e
  | tbl ps=>exact Heap.lt_size (show h.get? a=some _ from x)
  | met f y=>exact Heap.lt_size (show h.get? a=some _ from x)
  | ext φ=>obtain⟨_,⟨_,e⟩,_⟩:=x;exact Heap.lt_size e
theorem Paired.mapP{α β:Type}{F G:α→β→Prop}:∀{l₁:List α} {l₂:List β},Paired F l₁ l₂→(∀a b,F a b→G a b)→Paired G l₁ l₂
  | _,_,.nil,_=>.nil
  | _,_,.cons r t,f=>.cons (f _ _ r) (Paired.mapP t f)
theorem ObjOk.stay(x:ObjOk P w H h a o)(k:∀b u,(b=a∨H b=some (.own a))→h.get? b=some u→h'.get? b=some u)
    (ho:∀b,H b=some (.own a)→H' b=some (.own a)) (ht:∀b xs,H b=some (.tup xs)→H' b=some (.tup xs)):ObjOk P w H' h' a o:=by
  induction o with
  | lst xs=>obtain⟨z,its,n,r,e⟩:=x;exact⟨z,its,n,r,k _ _ (.inl rfl) e⟩
  | tup xs=>obtain⟨z,its,r,⟨ob,e,c⟩,d⟩:=x;exact⟨z,its,r,⟨ob,k _ _ (.inl rfl) e,c⟩,fun nx=>let⟨o,e2,d2⟩:=d nx;⟨o,k _ _ (.inl rfl) e2,d2⟩⟩
  | dK kvs=>obtain⟨z,y,vs,r,ob,es,ep,e,c⟩:=x;exact⟨z,y,vs,r,ob,es,ep,k _ _ (.inl rfl) e,c⟩
  | dT kvs=>
    obtain⟨z,y,xs,r,ob,es,ep,e,c⟩:=x
    exact⟨z,y,xs,Paired.mapP r fun p q z=>⟨z.1,ht _ _ z.2.1,z.2.2⟩,ob,es,ep,k _ _ (.inl rfl) e,c⟩
  | set S n=>obtain⟨ob,es,ep,t,e,c⟩:=x;exact⟨ob,es,ep,t,k _ _ (.inl rfl) e,c⟩
  | ins C dx fs=>
    obtain⟨d,z,ne,e,mA,⟨od,es,ep,e2,c⟩,r⟩:=x
    exact⟨ho _ d,z,ne,k _ _ (.inl rfl) e,mA,⟨od,es,ep,k _ _ (.inr d) e2,c⟩,r⟩
  | own y=>obtain⟨ob,e⟩:=x;exact⟨ob,k _ _ (.inl rfl) e⟩
  | xd fs=>obtain⟨mA,⟨od,es,ep,e,c⟩,r⟩:=x;exact⟨mA,⟨od,es,ep,k _ _ (.inl rfl) e,c⟩,r⟩
  | rng lo hi=>obtain⟨t,u,v,e⟩:=x;exact⟨t,u,v,k _ _ (.inl rfl) e⟩
  | frz ob u ih=>obtain⟨e,q⟩:=x;exact⟨k _ _ (.inl rfl) e,ih q⟩
  | tbl ps=>
    have e:h.get? a=some { cls:=.none,data:=.fields ps }:=x
    show h'.get? a=some { cls:=.none,data:=.fields ps }
    exact k a _ (.inl rfl) e
  | met f y=>
    have e:h.get? a=some (PySem.W.methodObj (.ref f) (.ref y)):=x
    show h'.get? a=some (PySem.W.methodObj (.ref f) (.ref y))
    exact k a _ (.inl rfl) e
  | ext φ=>obtain⟨p,⟨o,e⟩,st⟩:=x;exact⟨st _ _ p fun o q=>k _ _ (.inl rfl) q,⟨o,k _ _ (.inl rfl) e⟩,st⟩
theorem HOk.lt(x:HOk P w H h)(e:H a=some o):a < h.objs.size:=(x a o e).lt
theorem HOk.fresh(x:HOk P w H h)(e:h.objs.size≤a):H a=none:=by
  cases q:H a with
  | none=>rfl
  | some u=>exact absurd (Nat.lt_of_lt_of_le (x.lt q) e) (Nat.lt_irrefl _)
theorem HOk.kept(x:HOk P w H h)(k:∀b u,h.get? b=some u→h'.get? b=some u):HOk P w H h':=fun a o e=>
  (x a o e).stay (fun b u _ q=>k b u q) (fun _ q=>q) fun _ _ q=>q
theorem HOk.laid(x:HOk P w H h)(k:∀b u,h.get? b=some u→h'.get? b=some u)(hp:h.objs.size≤a)(new:ObjOk P w (upd H a o) h' a o):HOk P w (upd H a o) h':=fun b u e=>by
  have hn:=x.fresh hp
  by_cases hb:b=a
  · subst hb;rw[a0c]at e;cases e;exact new
  · rw[a0w hb]at e
    exact(x b u e).stay (fun c v _ q=>k c v q) (fun c q=>by rw[a0w (a0t q hn)];exact q) fun c xs q=>by rw[a0w (a0t q hn)];exact q
end
def Rd(H:Hp)(a:Addr)(u:HO):Prop:=H a=some u∨∃o,H a=some (.frz o u)
theorem Rd.of{H:Hp}{a:Addr}{u:HO}(h:H a=some u):Rd H a u:=.inl h
theorem Rd.ok{P:Program}{w:World}{H:Hp}{h:Heap}{a:Addr}{u:HO}(r:Rd H a u)(x:HOk P w H h):ObjOk P w H h a u:=by
  rcases r with r | ⟨o,r⟩
  · exact x a u r
  · obtain⟨_,q⟩:=x a _ r
    exact q
def Mut:Option HO→Prop
  | some (.lst _)=>True
  | some (.dK _)=>True
  | some (.dT _)=>True
  | some (.set _ _)=>True
  | some (.ins _ _ _)=>True
  | some (.ext _)=>True
  | _=>False
section
variable{P:Program}{w:World}{H:Hp}{h h':Heap}{x e:Addr}{o':HO}
theorem HOk.write(ok:HOk P w H h)(mu:Mut (H x))(he:e=x∨H e=some (.own x))(k:∀b u,b≠e→h.get? b=some u→h'.get? b=some u)(heo:∃u,h'.get? e=some u)
    (new:ObjOk P w (upd H x o') h' x o'):HOk P w (upd H x o') h':=fun b u q=>by
  have nown:∀c y,H c=some (.own y)→c≠x:=fun c y r z=>by subst z;rw[r]at mu;exact mu
  have ntup:∀c xs,H c=some (.tup xs)→c≠x:=fun c xs r z=>by subst z;rw[r]at mu;exact mu
  by_cases hb:b=x
  · subst hb;rw[a0c]at q;cases q;exact new
  · rw[a0w hb]at q
    by_cases hbe:b=e
    · have q':H b=some (.own x):=by
        rcases he with z | z
        · exact absurd (hbe.trans z) hb
        · rw[hbe];exact z
      rw[q]at q';cases q'
      obtain⟨v,hv⟩:=heo
      exact⟨v,by rw[hbe];exact hv⟩
    · refine(ok b u q).stay (fun c v hc r=>k c v ?_ r) (fun c r=>by rw[a0w (nown c b r)];exact r) fun c xs r=>by rw[a0w (ntup c xs r)];exact r
      rcases hc with rfl | hc
      · exact hbe
      · rintro rfl
        rcases he with z | z
        · exact nown c b hc z
        · rw[hc]at z;cases z;exact hb rfl
end
structure Un(fs ex:List Addr)(H H':Hp)(h h':Heap):Prop where
  keep:∀b o,h.get? b=some o→H b=none→b ∉ fs→b ∉ ex→h'.get? b=some o
  slot:∀b o,h.get? b=some o→H b=none→b∈fs→b ∉ ex→∃sl,h'.get? b=some { o with slots:=sl }
  free:∀b o,h.get? b=some o→H b=none→b ∉ ex→H' b=none
  there:∀b o,h.get? b=some o→b ∉ ex→∃o',h'.get? b=some o'
  tups:∀b xs,H b=some (.tup xs)→H' b=some (.tup xs)
  frzs:∀b o u,H b=some (.frz o u)→H' b=some (.frz o u)
  tbls:∀b ps,H b=some (.tbl ps)→∃more,H' b=some (.tbl (ps++more))
section
variable{fs fs' ex ex':List Addr}{H H1 H2:Hp}{h h1 h2 h':Heap}{a x e:Addr}{o:HO}
theorem Un.any(u:Un fs ex H H1 h h1){b:Addr}{ob:Obj}(q:h.get? b=some ob)(n:H b=none)(hx:b ∉ ex):∃sl,h1.get? b=some { ob with slots:=sl }:=by
  by_cases hb:b∈fs
  · exact u.slot b ob q n hb hx
  · exact⟨ob.slots,u.keep b ob q n hb hx⟩
theorem Un.trans(a:Un fs ex H H1 h h1)(b:Un fs ex H1 H2 h1 h2):Un fs ex H H2 h h2 where
  keep:=fun c ob q n hc hx=>b.keep c ob (a.keep c ob q n hc hx) (a.free c ob q n hx) hc hx
  slot:=fun c ob q n hc hx=>by
    obtain⟨sl,e1⟩:=a.slot c ob q n hc hx
    obtain⟨sl',e2⟩:=b.slot c _ e1 (a.free c ob q n hx) hc hx
    exact⟨sl',e2⟩
  free:=fun c ob q n hx=>by
    obtain⟨o',e1⟩:=a.there c ob q hx
    exact b.free c o' e1 (a.free c ob q n hx) hx
  there:=fun c ob q hx=>by
    obtain⟨o',e1⟩:=a.there c ob q hx
    exact b.there c o' e1 hx
  tups:=fun c xs q=>b.tups c xs (a.tups c xs q)
  frzs:=fun c ob xs q=>b.frzs c ob xs (a.frzs c ob xs q)
  tbls:=fun c ps q=>by
    obtain⟨m1,e1⟩:=a.tbls c ps q
    obtain⟨m2,e2⟩:=b.tbls c _ e1
    exact⟨m1++m2,by rw[e2,Array.append_assoc]⟩
theorem Un.kept(k:∀b u,h.get? b=some u→h'.get? b=some u):Un fs ex H H h h':=
  ⟨fun b ob q _ _ _=>k b ob q,fun b ob q _ _ _=>⟨ob.slots,k b ob q⟩,fun _ _ _ n _=>n,fun b ob q _=>⟨ob,k b ob q⟩,fun _ _ q=>q,fun _ _ _ q=>q,fun _ ps q=>⟨#[],by rw[q];simp⟩⟩
theorem Un.refl:Un fs ex H H h h:=Un.kept fun _ _ q=>q
theorem Un.laid(k:∀b u,h.get? b=some u→h'.get? b=some u)(hp:h.objs.size≤a)(hn:H a=none):Un fs ex H (upd H a o) h h' where
  keep:=fun b u q _ _ _=>k b u q
  slot:=fun b u q _ _ _=>⟨u.slots,k b u q⟩
  free:=fun b u q n _=>by rw[a0w (Nat.ne_of_lt (Nat.lt_of_lt_of_le (Heap.lt_size q) hp))];exact n
  there:=fun b u q _=>⟨u,k b u q⟩
  tups:=fun b xs q=>by rw[a0w (a0t q hn)];exact q
  frzs:=fun b u xs q=>by rw[a0w (a0t q hn)];exact q
  tbls:=fun b ps q=>⟨#[],by rw[a0w (a0t q hn),q];simp⟩
theorem Un.write(mu:Mut (H x))(he:e=x∨H e=some (.own x))(k:∀b u,b≠e→h.get? b=some u→h'.get? b=some u)(heo:∃u,h'.get? e=some u):Un fs ex H (upd H x o) h h':=by
  have hx:∀b,H b=none→b≠x:=fun b n z=>by subst z;rw[n]at mu;exact mu
  have hb:∀b,H b=none→b≠e:=fun b n z=>by
    subst z
    rcases he with r | r
    · exact hx b n r
    · rw[n]at r;cases r
  have hm:∀b u,H b=some u→¬Mut (some u)→b≠x:=fun b u q nm z=>by subst z;rw[q]at mu;exact nm mu
  refine⟨fun b u q n _ _=>k b u (hb b n) q,fun b u q n _ _=>⟨u.slots,k b u (hb b n) q⟩,fun b u q n _=>by rw[a0w (hx b n)];exact n,fun b u q _=>?_,
    fun b xs q=>by rw[a0w (hm b _ q fun z=>z)];exact q,fun b u xs q=>by rw[a0w (hm b _ q fun z=>z)];exact q,fun b ps q=>⟨#[],by rw[a0w (hm b _ q fun z=>z),q];simp⟩⟩
  by_cases hbe:b=e
  · subst hbe;exact heo
  · exact⟨u,k b u hbe q⟩
theorem Un.mono(u:Un fs ex H H1 h h1)(hs:∀b∈fs,b∈fs')(hx:∀b∈ex,b∈ex'):Un fs' ex' H H1 h h1:=
  ⟨fun b ob q n hb he=>u.keep b ob q n (fun z=>hb (hs b z)) fun z=>he (hx b z),fun _ _ q n _ he=>u.any q n fun z=>he (hx _ z),fun b ob q n he=>u.free b ob q n fun z=>he (hx b z),fun b ob q he=>u.there b ob q fun z=>he (hx b z),u.tups,u.frzs,u.tbls⟩
end
def trk(h:Heap)(H:Hp):List Addr:=(List.range h.objs.size).filter fun a=>(H a).isSome
def hidT(h:Heap)(H:Hp):Heap:=PySem.W.hideAll h (trk h H)
theorem hidT_size(h:Heap)(H:Hp):(hidT h H).objs.size=h.objs.size:=PySem.W.hideAll_size _ _
theorem hidT_get{h:Heap}{H:Hp}{b:Addr}{o:Obj}(e:h.get? b=some o)(n:H b=none):(hidT h H).get? b=some o:=
  PySem.W.hideAll_get _ e fun hm=>by
    have q:(H b).isSome=true:=(List.mem_filter.mp hm).2
    rw[n]at q;simp at q
theorem of_hidT{h:Heap}{H:Hp}{b:Addr}{o:Obj}(e:(hidT h H).get? b=some o):h.get? b=some o∧H b=none:=by
  have e':h.get? b=some o:=PySem.W.of_hideAll (trk h H) e
  refine⟨e',?_⟩
  cases q:H b with
  | none=>rfl
  | some x=>
    have hm:b∈trk h H:=List.mem_filter.mpr ⟨List.mem_range.mpr (Heap.lt_size e'),by simp[q]⟩
    have z:(hidT h H).get? b=none:=PySem.W.hideAll_none (trk h H) hm
    rw[z]at e;cases e
def allNews(g h:Heap)(L:Addr):List (Addr × Obj):=(List.range h.objs.size).filterMap fun a=>if a=L∨(g.get? a).isSome=true then none else(h.get? a).map fun o=>(a,o)
def rest(g h:Heap)(L d:Addr):List (Addr × Obj):=(allNews g h L).filter fun p=>decide (p.1≠d)
end L2
namespace L2
open PySem PySem.Spec PyProof.Rows
structure Mod(K:PySem.W.Frag)(mg:Str→Option Value)(base:Heap):Prop where
  kin:K.In base
  glob:base.Ns mainGlobals mg
  blt:∃mb,base.Ns builtinsNs mb∧∀x:Str,x≠"__name__"→mb x=bootBuiltins x
  nolimit:base.NoLimit
  seer:base.NoSeer
set_option genInjectivity false in
set_option genSizeOfSpec false in
structure Cx where
  prog:Program
  w:World
  K:PySem.W.Frag
  mg:Str→Option Value
  base:Heap
  A:Around
  N:List Str
  s₀:Shared
  H₀:Hp
  env:Env
  outer:List Env
  stack:List Env
  ex:List Addr
  fn:Str→Bool
  calm:Bool
  pn:List (Addr × Obj)
  xe:Value→Shared→Prop
def frs(l:List Env):List Addr:=l.filterMap (·.frame)
abbrev Cx.fs(X:Cx):List Addr:=frs X.outer
def Vis(sc:Scope)(x:Str):Prop:=sc.names.lookup x=some .local∨sc.names.lookup x=some .cell∨sc.names.lookup x=some .free
def Loc(sc:Scope)(x:Str):Prop:=sc.names.lookup x=some .local∨sc.names.lookup x=some .cell
def Look(env:Env)(h:Heap)(m:Str→Option Value)(x:Str)(u:Value):Prop:=
  (env.kindOf x=some .local∧m x=some u)∨((env.kindOf x=some .cell∨env.kindOf x=some .free)∧∃c,env.cells.lookup x=some c∧h.IsCell c (some u))
structure Cx.Ok(X:Cx):Prop where
  mod:Mod X.K X.mg X.base
  kind:X.env.scope.kind=.function
  glob:X.env.globals=mainGlobals
  blt:X.env.builtins=builtinsNs
  above:X.s₀.heap.objs.size≤X.env.locals
  inj:∀x y c,X.env.cells.lookup x=some c→X.env.cells.lookup y=some c→x=y
  has:∀x,(X.env.kindOf x=some .cell∨X.env.kindOf x=some .free)→∃c,X.env.cells.lookup x=some c
  cab:∀x c,X.fn x=true→X.env.cells.lookup x=some c→X.s₀.heap.objs.size≤c
  hd:X.calm=true→X.A.handled=none
  frames:X.A.frames=some X.stack
  stk:X.stack=X.outer∨(X.stack=X.env::X.outer∧X.env.frame=some X.env.locals)
  exf:∀b∈X.ex,b≠X.env.locals∧∀x c,X.env.cells.lookup x=some c→c≠b
  bs:∀b o,X.base.get? b=some o→X.s₀.heap.get? b=some o∧X.H₀ b=none
  bsz:X.base.objs.size≤X.s₀.heap.objs.size
  noex:∀b o,X.base.get? b=some o→b ∉ X.ex
  exfs:∀b∈X.ex,b ∉ X.fs
  funs:X.s₀.heap.FunFrames X.base X.outer
  frf:∀b∈X.fs,X.H₀ b=none
structure Inv(X:Cx)(pins:List (Addr × Obj))(σ:List (Option V))(H:Hp)(s:Shared):Prop where
  ok:X.Ok
  os:s.os=X.s₀.os
  bare:AllBare s.gens
  base:Un X.fs X.ex X.H₀ H X.s₀.heap s.heap
  loc:∃m,s.heap.Ns X.env.locals m∧∀(i:Nat) (x:Str) (v:V),X.N[i]? = some x→σ[i]? = some (some v)→Vis X.env.scope x→∃u,RelV v u∧Look X.env s.heap m x u
  cell:∀x c,X.env.cells.lookup x=some c→∃v,s.heap.IsCell c v
  free:H X.env.locals=none
  freeC:∀x c,X.env.cells.lookup x=some c→H c=none
  pin:∀p∈X.pn++pins,s.heap.get? p.1=some p.2∧H p.1=none∧p.1≠X.env.locals∧p.1 ∉ X.fs∧∀v,p.2.data≠.cell v
  hok:HOk X.prog X.w H s.heap
  len:σ.length=X.N.length
section
variable{X:Cx}{pins:List (Addr × Obj)}{σ:List (Option V)}{H H':Hp}{s:Shared}{h':Heap}
theorem Cx.Ok.nofr(ok:X.Ok){b:Addr}{o:Obj}(e:X.base.get? b=some o):b ∉ X.fs:=fun hb=>by
  have:=(ok.funs.mem hb).1
  rw[e]at this;cases this
theorem Inv.bs(I:Inv X pins σ H s):∀b o,X.base.get? b=some o→s.heap.get? b=some o∧H b=none:=fun b o e=>
  ⟨I.base.keep b o (I.ok.bs b o e).1 (I.ok.bs b o e).2 (I.ok.nofr e) (I.ok.noex b o e),I.base.free b o (I.ok.bs b o e).1 (I.ok.bs b o e).2 (I.ok.noex b o e)⟩
theorem Inv.bk(I:Inv X pins σ H s):∀b o,X.base.get? b=some o→s.heap.get? b=some o:=fun b o e=>(I.bs b o e).1
theorem Inv.mod(I:Inv X pins σ H s):Mod X.K X.mg X.base:=I.ok.mod
theorem Inv.kIn(I:Inv X pins σ H s):X.K.In s.heap:=I.ok.mod.kin.keeps I.bk
theorem Inv.nolimit(I:Inv X pins σ H s):s.heap.NoLimit:=I.ok.mod.nolimit.keeps I.bk
theorem Inv.fr(I:Inv X pins σ H s):∃m,Fr X.base X.env.locals s.heap m:=
  let⟨m,hn,_⟩:=I.loc
  ⟨m,hn,I.bk,Nat.le_trans I.ok.bsz I.ok.above⟩
theorem Inv.lt(I:Inv X pins σ H s):X.env.locals < s.heap.objs.size:=let⟨_,hn,_⟩:=I.loc;hn.lt
theorem Inv.sz(I:Inv X pins σ H s):X.s₀.heap.objs.size≤s.heap.objs.size:=Nat.le_trans I.ok.above (Nat.le_of_lt I.lt)
theorem Inv.nofs(I:Inv X pins σ H s){a:Addr}(h:s.heap.objs.size≤a):a ∉ X.fs:=fun hb=>by
  obtain⟨_,o,ho,_⟩:=I.ok.funs.mem hb
  exact absurd (Nat.lt_of_lt_of_le (Heap.lt_size ho) (Nat.le_trans I.sz h)) (Nat.lt_irrefl _)
theorem Inv.cne(I:Inv X pins σ H s):∀x c,X.env.cells.lookup x=some c→c≠X.env.locals:=fun x c e z=>by
  obtain⟨v,o,ho,hd⟩:=I.cell x c e
  obtain⟨m,⟨o',es,ep,ho',hd',_⟩,_⟩:=I.loc
  rw[z,ho']at ho;cases ho;rw[hd']at hd;cases hd
theorem Inv.funs(I:Inv X pins σ H s):s.heap.FunFrames X.base X.outer:=by
  have all:∀(l:List Env),(∀b∈frs l,b∈X.fs)→X.s₀.heap.FunFrames X.base l→s.heap.FunFrames X.base l:=by
    intro l
    induction l with
    | nil=>intro _ _;trivial
    | cons env r ih=>
      intro hs hl
      obtain⟨hk,⟨L,o,hf,hn,ho,hd⟩,hr⟩:=hl
      have hL:L∈X.fs:=hs L (by unfold frs;rw[List.filterMap_cons,hf];exact List.mem_cons_self)
      obtain⟨sl,e⟩:=I.base.slot L o ho (I.ok.frf L hL) hL fun z=>I.ok.exfs L z hL
      exact⟨hk,⟨L,_,hf,hn,e,hd⟩,ih (fun b hb=>hs b (by unfold frs;rw[List.filterMap_cons,hf];exact List.mem_cons_of_mem _ hb)) hr⟩
  exact all X.outer (fun _ hb=>hb) I.ok.funs
theorem Inv.stack(I:Inv X pins σ H s):s.heap.FunFrames X.base X.stack:=by
  rcases I.ok.stk with e | ⟨e,hf⟩
  · rw[e];exact I.funs
  · rw[e]
    obtain⟨m,hn,_⟩:=I.loc
    refine .cons (by rw[I.ok.kind];decide) hf hn ?_ I.funs
    exact Heap.get?_none_of_le (Nat.le_trans I.ok.bsz I.ok.above)
theorem Inv.stkSub(I:Inv X pins σ H s):∀b∈frs X.stack,b∈X.env.locals::X.fs:=fun b hb=>by
  rcases I.ok.stk with e | ⟨e,hf⟩
  · rw[e]at hb;exact List.mem_cons_of_mem _ hb
  · rw[e]at hb
    unfold frs at hb
    rw[List.filterMap_cons,hf]at hb
    exact hb
theorem Inv.stkFree(I:Inv X pins σ H s):∀b∈frs X.stack,H b=none:=fun b hb=>by
  rcases List.mem_cons.mp (I.stkSub b hb)with e | hb
  · rw[e];exact I.free
  · obtain⟨_,o,ho,_⟩:=I.ok.funs.mem hb
    exact I.base.free b o ho (I.ok.frf b hb) fun z=>I.ok.exfs b z hb
theorem Inv.step{g':Array GenState}{t':Nat}{d':Drawn}{ch:List Addr}(I:Inv X pins σ H s)
    (hch:∀b∈ch,(b∈X.ex∨X.s₀.heap.objs.size≤b)∧b≠X.env.locals∧(∀x c,X.env.cells.lookup x=some c→c≠b)∧∀p∈X.pn++pins,p.1≠b)
    (keep:∀b o,b≠X.env.locals→b ∉ X.fs→b ∉ ch→s.heap.get? b=some o→H b=none→h'.get? b=some o)
    (slot:∀b o,b≠X.env.locals→b∈X.fs→b ∉ ch→s.heap.get? b=some o→H b=none→∃sl,h'.get? b=some { o with slots:=sl }) (free:∀b o,b ∉ ch→s.heap.get? b=some o→H b=none→H' b=none)
    (there:∀b o,b ∉ ch→s.heap.get? b=some o→∃o',h'.get? b=some o')
    (tups:∀b xs,H b=some (.tup xs)→H' b=some (.tup xs)) (frzs:∀b o u,H b=some (.frz o u)→H' b=some (.frz o u)) (tbls:∀b ps,H b=some (.tbl ps)→∃more,H' b=some (.tbl (ps++more)))
    (ns:∀m,s.heap.Ns X.env.locals m→h'.Ns X.env.locals m) (hok:HOk X.prog X.w H' h') (hg:AllBare g') :
    Inv X pins σ H' { s with heap:=h',gens:=g',drawn:=d',toks:=t' }:=by
  have neL:∀b o,X.s₀.heap.get? b=some o→b≠X.env.locals:=fun b o e=>Nat.ne_of_lt (Nat.lt_of_lt_of_le (Heap.lt_size e) I.ok.above)
  have neC:∀b o,X.s₀.heap.get? b=some o→b ∉ X.ex→b ∉ ch:=fun b o e hx hb=>by
    rcases(hch b hb).1 with z | z
    · exact hx z
    · exact absurd (Nat.lt_of_lt_of_le (Heap.lt_size e) z) (Nat.lt_irrefl _)
  have cellK:∀x c,X.env.cells.lookup x=some c→∀v,s.heap.IsCell c v→h'.IsCell c v:=fun x c e v ⟨o,ho,hd⟩=>by
    have nch:c ∉ ch:=fun z=>(hch c z).2.2.1 x c e rfl
    by_cases hc:c∈X.fs
    · obtain⟨sl,q⟩:=slot c o (I.cne x c e) hc nch ho (I.freeC x c e)
      exact⟨_,q,hd⟩
    · exact⟨o,keep c o (I.cne x c e) hc nch ho (I.freeC x c e),hd⟩
  refine⟨I.ok,I.os,hg,⟨fun b o e n hb hx=>?_,fun b o e n hb hx=>?_,fun b o e n hx=>?_,fun b o e hx=>?_,fun b xs e=>tups b xs (I.base.tups b xs e),fun b o xs e=>frzs b o xs (I.base.frzs b o xs e),fun b ps e=>?_⟩,?_,fun x c e=>?_,?_,fun x c e=>?_,fun p hp=>?_,hok,I.len⟩
  · exact keep b o (neL b o e) hb (neC b o e hx) (I.base.keep b o e n hb hx) (I.base.free b o e n hx)
  · obtain⟨sl,e1⟩:=I.base.slot b o e n hb hx
    obtain⟨sl',e2⟩:=slot b _ (neL b o e) hb (neC b o e hx) e1 (I.base.free b o e n hx)
    exact⟨sl',e2⟩
  · obtain⟨o',e1⟩:=I.base.there b o e hx
    exact free b o' (neC b o e hx) e1 (I.base.free b o e n hx)
  · obtain⟨o',e1⟩:=I.base.there b o e hx
    exact there b o' (neC b o e hx) e1
  · obtain⟨m1,e1⟩:=I.base.tbls b ps e
    obtain⟨m2,e2⟩:=tbls b _ e1
    exact⟨m1++m2,by rw[e2,Array.append_assoc]⟩
  · obtain⟨m,hn,hl⟩:=I.loc
    refine⟨m,ns m hn,fun i x v e1 e2 e3=>?_⟩
    obtain⟨u,r,l⟩:=hl i x v e1 e2 e3
    refine⟨u,r,?_⟩
    rcases l with l | ⟨k,c,e,z⟩
    · exact .inl l
    · exact .inr ⟨k,c,e,cellK x c e _ z⟩
  · obtain⟨v,z⟩:=I.cell x c e
    exact⟨v,cellK x c e v z⟩
  · obtain⟨m,⟨o,_,_,ho,_⟩,_⟩:=I.loc
    exact free _ o (fun z=>(hch _ z).2.1 rfl) ho I.free
  · obtain⟨v,o,ho,hd⟩:=I.cell x c e
    exact free c o (fun z=>(hch c z).2.2.1 x c e rfl) ho (I.freeC x c e)
  · obtain⟨e,n,ne,nf,d⟩:=I.pin p hp
    have nch:p.1 ∉ ch:=fun z=>(hch p.1 z).2.2.2 p hp rfl
    exact⟨keep p.1 p.2 ne nf nch e n,free p.1 p.2 nch e n,ne,nf,d⟩
theorem Inv.un{t':Nat}(I:Inv X pins σ H s)(u:Un X.fs [] H H' s.heap h')(hok:HOk X.prog X.w H' h'):Inv X pins σ H' { s with heap:=h',toks:=t' }:=by
  obtain⟨m,⟨o,es,ep,ho,r⟩,_⟩:=id I.loc
  obtain⟨sl,hL⟩:=u.any ho I.free (by simp)
  exact I.step (g':=s.gens) (d':=s.drawn) (ch:=[]) (fun _ z=>nomatch z) (fun b o _ hb _ e n=>u.keep b o e n hb (by simp)) (fun b o _ hb _ e n=>u.slot b o e n hb (by simp)) (fun b o _ e n=>u.free b o e n (by simp)) (fun b o _ e=>u.there b o e (by simp)) u.tups u.frzs u.tbls (fun m' hm=>by
    obtain⟨o',es',ep',ho',r'⟩:=hm
    rw[ho]at ho';cases ho'
    exact⟨_,es',ep',hL,r'⟩) hok I.bare
theorem Inv.call{g':Array GenState}{t':Nat}{d':Drawn}{ch:List Addr}(I:Inv X pins σ H s)(u:Un (frs X.stack) ch H H' s.heap h')(hok:HOk X.prog X.w H' h')(hg:AllBare g')
    (hch:∀b∈ch,(b∈X.ex∨X.s₀.heap.objs.size≤b)∧b≠X.env.locals∧(∀x c,X.env.cells.lookup x=some c→c≠b)∧∀p∈X.pn++pins,p.1≠b) :
    Inv X pins σ H' { s with heap:=h',gens:=g',drawn:=d',toks:=t' }:=by
  obtain⟨m,⟨o,es,ep,ho,r⟩,_⟩:=id I.loc
  obtain⟨sl,hL⟩:=u.any ho I.free fun z=>(hch _ z).2.1 rfl
  exact I.step (ch:=ch) hch (fun b o hL hb hc e n=>u.keep b o e n (fun z=>(List.mem_cons.mp (I.stkSub b z)).elim hL hb) hc) (fun b o _ _ hc e n=>u.any e n hc) (fun b o hc e n=>u.free b o e n hc) (fun b o hc e=>u.there b o e hc) u.tups u.frzs u.tbls (fun m' hm=>by
    obtain⟨o',es',ep',ho',r'⟩:=hm
    rw[ho]at ho';cases ho'
    exact⟨_,es',ep',hL,r'⟩) hok hg
theorem Inv.turned{t':Nat}{it:Addr}(I:Inv X pins σ H s)(k:∀b o,b≠it→s.heap.get? b=some o→h'.get? b=some o)(hn:H it=none)(hL:it≠X.env.locals)
    (h1:it∈X.ex∨X.s₀.heap.objs.size≤it) (h2:∀x c,X.env.cells.lookup x=some c→c≠it) (h3:∀p∈X.pn++pins,p.1≠it):Inv X pins σ H { s with heap:=h',toks:=t' }:=by
  have nit:∀b u,H b=some u→b≠it:=fun b u e z=>by rw[z,hn]at e;cases e
  refine I.step (g':=s.gens) (d':=s.drawn) (ch:=[it]) (fun b hb=>?_) (fun b o _ _ hc e _=>k b o (fun z=>hc (by simp[z])) e) (fun b o _ _ hc e _=>⟨o.slots,k b o (fun z=>hc (by simp[z])) e⟩) (fun _ _ _ _ n=>n)
    (fun b o hc e=>⟨o,k b o (fun z=>hc (by simp[z])) e⟩) (fun _ _ e=>e) (fun _ _ _ e=>e) (fun b ps e=>⟨#[],by rw[e];simp⟩) (fun m hm=>?_) (fun b u e=>?_) I.bare
  · have e:b=it:=by simpa using hb
    subst e
    exact⟨h1,hL,h2,h3⟩
  · obtain⟨o,es,ep,ho,r⟩:=hm
    exact⟨o,es,ep,k _ o (Ne.symm hL) ho,r⟩
  · refine(I.hok b u e).stay (fun c v hc q=>k c v ?_ q) (fun _ q=>q) fun _ _ q=>q
    rcases hc with z | z
    · rw[z];exact nit b u e
    · exact nit c _ z
theorem Inv.tok(I:Inv X pins σ H s)(t:Nat):Inv X pins σ H { s with toks:=t }:=I.un (h':=s.heap) (t':=t) Un.refl I.hok
theorem Inv.kept{t':Nat}(I:Inv X pins σ H s)(k:∀b u,s.heap.get? b=some u→h'.get? b=some u):Inv X pins σ H { s with heap:=h',toks:=t' }:=I.un (Un.kept k) (I.hok.kept k)
theorem Inv.laid{a:Addr}{o:HO}{t':Nat}(I:Inv X pins σ H s)(k:∀b u,s.heap.get? b=some u→h'.get? b=some u)(hp:s.heap.objs.size≤a)(new:ObjOk X.prog X.w (upd H a o) h' a o) :
    Inv X pins σ (upd H a o) { s with heap:=h',toks:=t' }:=I.un (Un.laid k hp (I.hok.fresh hp)) (I.hok.laid k hp new)
theorem Inv.write{x e:Addr}{o:HO}{t':Nat}(I:Inv X pins σ H s)(mu:Mut (H x))(he:e=x∨H e=some (.own x))(k:∀b u,b≠e→s.heap.get? b=some u→h'.get? b=some u)(heo:∃u,h'.get? e=some u)
    (new:ObjOk X.prog X.w (upd H x o) h' x o):Inv X pins σ (upd H x o) { s with heap:=h',toks:=t' }:=I.un (Un.write mu he k heo) (I.hok.write mu he k heo new)
theorem Inv.weak{σ':List (Option V)}(I:Inv X pins σ H s)(hl:σ'.length=σ.length)(w:∀(i:Nat) v,σ'[i]? = some (some v)→σ[i]? = some (some v)):Inv X pins σ' H s:=
  ⟨I.ok,I.os,I.bare,I.base,let⟨m,hn,hl'⟩:=I.loc;⟨m,hn,fun i x v e1 e2 e3=>hl' i x v e1 (w i v e2) e3⟩,I.cell,I.free,I.freeC,I.pin,I.hok,hl.trans I.len⟩
theorem Inv.pins_of{pins':List (Addr × Obj)}(I:Inv X pins σ H s)(h:∀p∈pins',s.heap.get? p.1=some p.2∧H p.1=none∧p.1≠X.env.locals∧p.1 ∉ X.fs∧∀v,p.2.data≠.cell v):Inv X pins' σ H s:=
  ⟨I.ok,I.os,I.bare,I.base,I.loc,I.cell,I.free,I.freeC,fun p hp=>(List.mem_append.mp hp).elim (fun z=>I.pin p (List.mem_append_left _ z)) (h p),I.hok,I.len⟩
theorem f0w{N:List Str}(hN:N.Nodup){i j:Nat}{x:Str}(a:N[i]? = some x)(b:N[j]? = some x):i=j:=by
  obtain⟨h1,e1⟩:=List.getElem?_eq_some_iff.mp a
  obtain⟨h2,e2⟩:=List.getElem?_eq_some_iff.mp b
  exact(List.getElem_inj hN).mp (e1.trans e2.symm)
theorem store_ok2{M:Model}{A:Around}{E:Value→Shared→Prop}{i:Nat}{x:Str}{v:V}{u:Value}{Q:Unit→Shared→Prop}(I:Inv X pins σ H s)(hN:X.N.Nodup)(hi:X.N[i]? = some x)(hx:Loc X.env.scope x)(r:RelV v u)
    (h:∀s',Inv X pins (σ.set i (some v)) H s'→(∃a,Heap.SameBut a s.heap s'.heap∧(a=X.env.locals∨X.env.cells.lookup x=some a))→Q () s') (hf:X.fn x=true∨X.env.scope.names.lookup x=some .local:=by first | exact .inl rfl | exact .inr rfl | assumption):wpAny M A (storeName X.env x u) Q E s:=by
  obtain⟨m,hn,hl⟩:=id I.loc
  have hcls:(X.env.scope.kind == .class || (X.env.scope.kind == .module && X.env.locals != X.env.globals))=false:=by rw[I.ok.kind];rfl
  have hiσ:i < σ.length:=by rw[I.len];exact(List.getElem?_eq_some_iff.mp hi).1
  have cne:=I.cne
  have tracked:∀{a:Addr} {h':Heap},(∃o,s.heap.get? a=some o∧H a=none)→Heap.SameBut a s.heap h'→HOk X.prog X.w H h':=fun{a h'} ha hs b ob e=>by
    obtain⟨_,_,hfree⟩:=ha
    refine(I.hok b ob e).stay (fun c w' hc q=>(hs.2 c ?_).trans q) (fun _ q=>q) fun _ _ q=>q
    rintro rfl
    rcases hc with rfl | hc
    · rw[hfree]at e;cases e
    · rw[hfree]at hc;cases hc
  rcases hx with hk | hk
  · refine wpAny_storeName_local hk hn (fun h' hn' hs=>?_) hcls
    obtain⟨oL,_,_,hoL,_⟩:=id hn
    refine h _ ⟨I.ok,I.os,I.bare,⟨fun b o e n hb hx=>?_,fun b o e n hb hx=>?_,I.base.free,fun b o e hx=>?_,I.base.tups,I.base.frzs,I.base.tbls⟩,⟨_,hn',fun j y v' e1 e2 e3=>?_⟩,fun y c e=>?_,I.free,I.freeC,fun p hp=>?_,tracked ⟨oL,hoL,I.free⟩ hs,by simpa using I.len⟩ ⟨_,hs,.inl rfl⟩
    · exact(hs.2 b (Nat.ne_of_lt (Nat.lt_of_lt_of_le (Heap.lt_size e) I.ok.above))).trans (I.base.keep b o e n hb hx)
    · obtain⟨sl,e1⟩:=I.base.slot b o e n hb hx
      exact⟨sl,(hs.2 b (Nat.ne_of_lt (Nat.lt_of_lt_of_le (Heap.lt_size e) I.ok.above))).trans e1⟩
    · obtain⟨o',e1⟩:=I.base.there b o e hx
      exact⟨o',(hs.2 b (Nat.ne_of_lt (Nat.lt_of_lt_of_le (Heap.lt_size e) I.ok.above))).trans e1⟩
    · by_cases hj:j=i
      · subst hj
        rw[hi]at e1;cases e1
        rw[List.getElem?_set_self hiσ]at e2
        cases e2
        exact⟨u,r,.inl ⟨hk,by simp⟩⟩
      · rw[List.getElem?_set_ne (Ne.symm hj)]at e2
        obtain⟨u',r',q⟩:=hl j y v' e1 e2 e3
        refine⟨u',r',?_⟩
        rcases q with ⟨k,e⟩ | ⟨k,c,e,z⟩
        · refine .inl ⟨k,?_⟩
          have:y≠x:=fun e=>hj (f0w hN e1 (e▸hi))
          simp[this,e]
        · exact .inr ⟨k,c,e,z.sameBut hs (cne y c e)⟩
    · obtain⟨w',z⟩:=I.cell y c e
      exact⟨w',z.sameBut hs (cne y c e)⟩
    · obtain⟨e,n,ne,nf,d⟩:=I.pin p hp
      exact⟨(hs.2 p.1 ne).trans e,n,ne,nf,d⟩
  · have hfn:X.fn x=true:=by
      rcases hf with z | z
      · exact z
      · rw[z]at hk;cases hk
    obtain⟨c,hc⟩:=I.ok.has x (.inl hk)
    obtain⟨w',z⟩:=I.cell x c hc
    refine wpAny_storeName_cell I.ok.kind hk hc z (fun h' hc' hs=>?_)
    obtain⟨oc,hoc,hocd⟩:=id z
    refine h { s with heap:=h' } ⟨I.ok,I.os,I.bare,⟨fun b o e n hb hx=>?_,fun b o e n hb hx=>?_,I.base.free,fun b o e hx=>?_,I.base.tups,I.base.frzs,I.base.tbls⟩,⟨m,hn.sameBut hs (Ne.symm (cne x c hc)),fun j y v' e1 e2 e3=>?_⟩,fun y c' e=>?_,I.free,I.freeC,fun p hp=>?_,tracked ⟨oc,hoc,I.freeC x c hc⟩ hs,by simpa using I.len⟩ ⟨c,hs,.inr hc⟩
    · exact(hs.2 b (Nat.ne_of_lt (Nat.lt_of_lt_of_le (Heap.lt_size e) (I.ok.cab x c hfn hc)))).trans (I.base.keep b o e n hb hx)
    · obtain⟨sl,e1⟩:=I.base.slot b o e n hb hx
      exact⟨sl,(hs.2 b (Nat.ne_of_lt (Nat.lt_of_lt_of_le (Heap.lt_size e) (I.ok.cab x c hfn hc)))).trans e1⟩
    · obtain⟨o',e1⟩:=I.base.there b o e hx
      exact⟨o',(hs.2 b (Nat.ne_of_lt (Nat.lt_of_lt_of_le (Heap.lt_size e) (I.ok.cab x c hfn hc)))).trans e1⟩
    · by_cases hj:j=i
      · subst hj
        rw[hi]at e1;cases e1
        rw[List.getElem?_set_self hiσ]at e2
        cases e2
        exact⟨u,r,.inr ⟨.inl hk,c,hc,hc'⟩⟩
      · rw[List.getElem?_set_ne (Ne.symm hj)]at e2
        obtain⟨u',r',q⟩:=hl j y v' e1 e2 e3
        refine⟨u',r',?_⟩
        rcases q with q | ⟨k,c',e,z'⟩
        · exact .inl q
        · refine .inr ⟨k,c',e,z'.sameBut hs ?_⟩
          rintro rfl
          exact hj (f0w hN e1 (I.ok.inj _ _ _ e hc▸hi))
    · by_cases hcc:c'=c
      · subst hcc;exact⟨_,hc'⟩
      · obtain⟨w2,z2⟩:=I.cell y c' e
        exact⟨w2,z2.sameBut hs hcc⟩
    · obtain⟨e,n,ne,nf,d⟩:=I.pin p hp
      refine⟨(hs.2 p.1 ?_).trans e,n,ne,nf,d⟩
      intro q
      rw[q,hoc]at e
      have q':oc=p.2:=Option.some.inj e
      exact d w' (by rw[← q'];exact hocd)
theorem d0i{M:Model}{A:Around}{E:Value→Shared→Prop}{i:Nat}{x:Str}{v:V}{u:Value}{Q:Unit→Shared→Prop}(I:Inv X pins σ H s)(hN:X.N.Nodup)(hi:X.N[i]? = some x)(hx:Loc X.env.scope x)(r:RelV v u)
    (h:∀s',Inv X pins (σ.set i (some v)) H s'→Q () s') (hf:X.fn x=true∨X.env.scope.names.lookup x=some .local:=by first | exact .inl rfl | exact .inr rfl | assumption):wpAny M A (storeName X.env x u) Q E s:=
  store_ok2 I hN hi hx r (fun s' I' _=>h s' I') hf
theorem Inv.call'{s':Shared}{ch:List Addr}(I:Inv X pins σ H s)(ho:s'.os=s.os)(u:Un (frs X.stack) ch H H' s.heap s'.heap)(hok:HOk X.prog X.w H' s'.heap)(hg:AllBare s'.gens)
    (hch:∀b∈ch,(b∈X.ex∨X.s₀.heap.objs.size≤b)∧b≠X.env.locals∧(∀x c,X.env.cells.lookup x=some c→c≠b)∧∀p∈X.pn++pins,p.1≠b):Inv X pins σ H' s':=by
  obtain⟨h',g',d',t',o'⟩:=s'
  have e:o'=s.os:=ho
  subst e
  exact I.call (g':=g') (t':=t') (d':=d') u hok hg hch
end
abbrev XK:=Value→Option Addr→Hp→Prop
abbrev St:=List (Option V)
abbrev VK:=V→Hp→Prop
abbrev TE:=St→Hp→VK→Prop
abbrev TT:=St→Hp→(Bool→Hp→Prop)→Prop
abbrev TA:=St→Hp→(List V→Hp→Prop)→Prop
structure Ends where
  nx:St→Hp→Prop
  rt:VK
  bk:St→Hp→Prop:=fun _ _=>False
  ct:St→Hp→Prop:=fun _ _=>False
abbrev TS:=Ends→St→Hp→Prop
def EP(X:Cx)(pins:List (Addr × Obj))(σ:St)(Q:VK)(u:Value)(s':Shared):Prop:=∃v H',Inv X pins σ H' s'∧RelV v u∧Q v H'
def TP(X:Cx)(pins:List (Addr × Obj))(σ:St)(Q:Bool→Hp→Prop)(b:Bool)(s':Shared):Prop:=∃H',Inv X pins σ H' s'∧Q b H'
def AP(X:Cx)(pins:List (Addr × Obj))(σ:St)(Q:List V→Hp→Prop)(us:List Value)(s':Shared):Prop:=∃vs H',Inv X pins σ H' s'∧Vals vs us∧Q vs H'
def SP(X:Cx)(pins:List (Addr × Obj))(D:Ends)(f:Flow)(s':Shared):Prop:=
  match f with
  | .next=>∃σ' H',Inv X pins σ' H' s'∧D.nx σ' H'
  | .brk=>∃σ' H',Inv X pins σ' H' s'∧D.bk σ' H'
  | .cont=>∃σ' H',Inv X pins σ' H' s'∧D.ct σ' H'
  | .ret u=>∃v σ' H',Inv X pins σ' H' s'∧RelV v u∧D.rt v H'
def PE(X:Cx)(e:Expr)(t:TE):Prop:=
  ∀(pins:List (Addr × Obj)) (s:Shared) (σ:St) (H:Hp) (Q:VK),Inv X pins σ H s→t σ H Q→wpAny (model X.prog X.w) X.A (eval e X.env) (EP X pins σ Q) X.xe s
def PT(X:Cx)(e:Expr)(t:TT):Prop:=
  ∀(pins:List (Addr × Obj)) (s:Shared) (σ:St) (H:Hp) (Q:Bool→Hp→Prop),Inv X pins σ H s→t σ H Q→wpAny (model X.prog X.w) X.A (isTrue e X.env (eval e X.env)) (TP X pins σ Q) X.xe s
def PW(X:Cx)(e:Expr)(t:TT):Prop:=
  ∀(whole:Sem Value) (pins:List (Addr × Obj)) (s:Shared) (σ:St) (H:Hp) (Q:Bool→Hp→Prop),Inv X pins σ H s→t σ H Q→wpAny (model X.prog X.w) X.A (isTrue e X.env whole) (TP X pins σ Q) X.xe s
theorem PW.pt{X:Cx}{e:Expr}{t:TT}(h:PW X e t):PT X e t:=h _
def PA(X:Cx)(es:List Expr)(t:TA):Prop:=
  ∀(pos:Pos) (pins:List (Addr × Obj)) (s:Shared) (σ:St) (H:Hp) (Q:List V→Hp→Prop),Inv X pins σ H s→t σ H Q→wpAny (model X.prog X.w) X.A (spliced (backTo pos (starEach es X.env))) (AP X pins σ Q) X.xe s
def PS(X:Cx)(st:Stmt)(t:TS):Prop:=
  ∀(pins:List (Addr × Obj)) (s:Shared) (σ:St) (H:Hp) (D:Ends),Inv X pins σ H s→t D σ H→wpAny (model X.prog X.w) X.A (exec st X.env) (SP X pins D) X.xe s
def PSs(X:Cx)(st:List Stmt)(t:TS):Prop:=
  ∀(pins:List (Addr × Obj)) (s:Shared) (σ:St) (H:Hp) (D:Ends),Inv X pins σ H s→t D σ H→wpAny (model X.prog X.w) X.A (execs st X.env) (SP X pins D) X.xe s
theorem thn{α:Type}{t:Sem α}{Q Q':α→Shared→Prop}{M:Model}{A:Around}{E:Value→Shared→Prop}{s:Shared}(h:wpAny M A t Q E s)(hQ:∀a s,Q a s→Q' a s):wpAny M A t Q' E s:=wpAny_mono h hQ fun _ _ x=>x
end L2
namespace L2
open PySem PySem.Spec PyProof.Rows
section
variable{X:Cx}
def tVar(i:Nat):TE:=fun σ H Q=>∃v,σ[i]? = some (some v)∧Q v H
def tC(v:V):TE:=fun _ H Q=>Q v H
theorem pe_var{i:Nat}{x:Str}{pos:Pos}(hN:X.N[i]? = some x)(hv:Vis X.env.scope x)(hd:(x == ("__debug__":Str))=false:=by decide)(hcd:(x == ("__classdict__":Str))=false:=by decide):PE X (.Name x pos) (tVar i):=by
  intro pins s σ H Q I h
  obtain⟨v,e,h⟩:=h
  obtain⟨m,hn,hl⟩:=I.loc
  obtain⟨u,r,l⟩:=hl i x v hN e hv
  have fin:EP X pins σ Q u s:=⟨v,H,I,r,h⟩
  rcases l with ⟨hk,hm⟩ | ⟨hk,c,hc,hcell⟩
  · exact wpAny_Name (wpAny_loadName_local I.ok.kind hk hn hm fin) hd
  · rcases hk with hk | hk
    · exact wpAny_Name (wpAny_loadName_cell I.ok.kind hk hc hcell fin) hd
    · exact wpAny_Name (wpAny_loadName_free I.ok.kind hk hc hcell fin hcd) hd
theorem a0f{i j pos}:PE X (.Constant (.int i) j pos) (tC (.int i)):=fun _ _ _ H _ I h=>wpAny_Constant_int ⟨.int i,H,I.tok _,⟨_,rfl⟩,h⟩
theorem g0o{b j pos}:PE X (.Constant (.bool b) j pos) (tC (.bl b)):=fun _ _ _ H _ I h=>Constant_bool ⟨.bl b,H,I,rfl,h⟩
theorem e0e{j pos}:PE X (.Constant .none j pos) (tC .non):=fun _ _ _ H _ I h=>Constant_none ⟨.non,H,I,rfl,h⟩
theorem a0m{x j pos}:PE X (.Constant (.str x) j pos) (tC (.str x)):=fun _ _ _ H _ I h=>Calls.Constant_str ⟨.str x,H,I.tok _,⟨_,rfl⟩,h⟩
def Gl(X:Cx)(x:Str):Prop:=X.env.kindOf x=some .globalImplicit
theorem f0j{E:Value→Shared→Prop}{pins:List (Addr × Obj)}{s:Shared}{σ:St}{H:Hp}{x:Str}{u:Value}{pos:Pos}{Q:Value→Shared→Prop}(I:Inv X pins σ H s)(hg:Gl X x)(hm:X.mg x=some u)(h:Q u s)
    (hd:(x == ("__debug__":Str))=false:=by decide):wpAny (model X.prog X.w) X.A (eval (.Name x pos) X.env) Q E s:=
  Calls.Name_function_global I.ok.kind hg (Calls.loadGlobal_global (by rw[I.ok.glob];exact I.mod.glob.keeps I.bk) hm h) hd
theorem i0x{E:Value→Shared→Prop}{pins:List (Addr × Obj)}{s:Shared}{σ:St}{H:Hp}{x:Str}{u:Value}{pos:Pos}{Q:Value→Shared→Prop}(I:Inv X pins σ H s)(hg:Gl X x)(hm:X.mg x=none)(hv:bootBuiltins x=some u)(h:Q u s)
    (hn:x≠"__name__":=by decide) (hd:(x == ("__debug__":Str))=false:=by decide):wpAny (model X.prog X.w) X.A (eval (.Name x pos) X.env) Q E s:=by
  obtain⟨mb,h1,h2⟩:=I.mod.blt
  exact Calls.Name_function_global I.ok.kind hg (Calls.loadGlobal_builtin (by rw[I.ok.glob];exact I.mod.glob.keeps I.bk) hm (by rw[I.ok.blt];exact h1.keeps I.bk) ((h2 x hn).trans hv) h) hd
theorem b0t{x:Str}{v:V}{u:Value}{pos:Pos}(hg:Gl X x)(hm:X.mg x=some u)(r:RelV v u)(hd:(x == ("__debug__":Str))=false:=by decide):PE X (.Name x pos) (tC v):=
  fun _ _ _ H _ I h=>f0j I hg hm ⟨v,H,I,r,h⟩ hd
theorem g0n{x:Str}{v:V}{u:Value}{pos:Pos}(hg:Gl X x)(hm:X.mg x=none)(hv:bootBuiltins x=some u)(r:RelV v u)(hn:x≠"__name__":=by decide)(hd:(x == ("__debug__":Str))=false:=by decide):PE X (.Name x pos) (tC v):=
  fun _ _ _ H _ I h=>i0x I hg hm hv ⟨v,H,I,r,h⟩ hn hd
variable{a b:Expr}{ta tb:TE}{pos:Pos}
def tB(t:TE):TT:=fun σ H Q=>t σ H fun x H1=>∃c,x=.bl c∧Q c H1
theorem e0d{e:Expr}{t:TE}(h:PE X e t)(he:∀whole,isTrue e X.env whole=(do let v ← whole;standAt e.pos;holding [v] (truthy v)):=by intro _;rfl):PT X e (tB t):=by
  intro pins s σ H Q I hw
  refine isTrue_plain (thn (h pins s σ H _ I hw) fun v s1 ⟨x,H1,I1,r1,q1⟩=>?_) (he _)
  obtain⟨d,rfl,q⟩:=q1
  cases r1
  exact wpAny_truthy_bool ⟨H1,I1,q⟩
variable{tA tB':TT}{rest:List Expr}
def tAnd(t u:TT):TT:=fun σ H Q=>t σ H fun c H1=>if c=true then u σ H1 Q else Q false H1
def tOr(t u:TT):TT:=fun σ H Q=>t σ H fun c H1=>if c=true then Q true H1 else u σ H1 Q
def tNot(t:TT):TT:=fun σ H Q=>t σ H fun c H1=>Q (!c) H1
theorem f0e(ha:PT X a tA):PW X (.BoolOp .And [a] pos) tA:=by
  intro wh pins s σ H Q I h
  refine isTrue_and (thn (ha pins s σ H Q I h) fun c s1 e=>?_)
  cases c with
  | true=>exact isTrue_and_nil e
  | false=>exact e
theorem d0v(ha:PT X a tA):PW X (.BoolOp .Or [a] pos) tA:=by
  intro wh pins s σ H Q I h
  refine isTrue_or (thn (ha pins s σ H Q I h) fun c s1 e=>?_)
  cases c with
  | false=>exact isTrue_or_nil e
  | true=>exact e
theorem g0v(ha:PT X a tA)(hb:PW X (.BoolOp .And (b::rest) pos) tB'):PW X (.BoolOp .And (a::b::rest) pos) (tAnd tA tB'):=by
  intro wh pins s σ H Q I h
  refine isTrue_and (thn (ha pins s σ H _ I h) fun c s1 ⟨H1,I1,q1⟩=>?_)
  cases c with
  | true=>exact hb wh pins s1 σ H1 Q I1 q1
  | false=>exact⟨H1,I1,q1⟩
theorem d0x(ha:PT X a tA)(hb:PW X (.BoolOp .Or (b::rest) pos) tB'):PW X (.BoolOp .Or (a::b::rest) pos) (tOr tA tB'):=by
  intro wh pins s σ H Q I h
  refine isTrue_or (thn (ha pins s σ H _ I h) fun c s1 ⟨H1,I1,q1⟩=>?_)
  cases c with
  | true=>exact⟨H1,I1,q1⟩
  | false=>exact hb wh pins s1 σ H1 Q I1 q1
theorem d0w(ha:PT X a tA):PT X (.UnaryOp .Not a pos) (tNot tA):=by
  intro pins s σ H Q I h
  exact isTrue_not (ha pins s σ H (fun c H1=>Q (!c) H1) I h)
def tAndV(ta tb:TE):TE:=fun σ H Q=>ta σ H fun x H1=>∃c,x=.bl c∧if c=true then tb σ H1 Q else Q (.bl false) H1
def tOrV(ta tb:TE):TE:=fun σ H Q=>ta σ H fun x H1=>∃c,x=.bl c∧if c=true then Q (.bl true) H1 else tb σ H1 Q
def tNotV(ta:TE):TE:=fun σ H Q=>ta σ H fun x H1=>∃c,x=.bl c∧Q (.bl (!c)) H1
theorem i0t{op}{t:TE}(h:PE X a t):PE X (.BoolOp op [a] pos) t:=fun pins s σ H Q I hw=>BoolOp_one (h pins s σ H Q I hw)
theorem pe_and(ha:PE X a ta)(hb:PE X (.BoolOp .And (b::rest) pos) tb):PE X (.BoolOp .And (a::b::rest) pos) (tAndV ta tb):=by
  intro pins s σ H Q I h
  refine BoolOp_and (thn (ha pins s σ H _ I h) fun v s1 ⟨x,H1,I1,r1,q1⟩=>?_)
  obtain⟨c,rfl,q1⟩:=q1
  cases r1
  refine wpAny_truthy_bool ?_
  cases c with
  | true=>exact hb pins s1 σ H1 Q I1 q1
  | false=>exact⟨.bl false,H1,I1,rfl,q1⟩
theorem j0m(ha:PE X a ta)(hb:PE X (.BoolOp .Or (b::rest) pos) tb):PE X (.BoolOp .Or (a::b::rest) pos) (tOrV ta tb):=by
  intro pins s σ H Q I h
  refine BoolOp_or (thn (ha pins s σ H _ I h) fun v s1 ⟨x,H1,I1,r1,q1⟩=>?_)
  obtain⟨c,rfl,q1⟩:=q1
  cases r1
  refine wpAny_truthy_bool ?_
  cases c with
  | false=>exact hb pins s1 σ H1 Q I1 q1
  | true=>exact⟨.bl true,H1,I1,rfl,q1⟩
theorem pe_not(ha:PE X a ta):PE X (.UnaryOp .Not a pos) (tNotV ta):=by
  intro pins s σ H Q I h
  refine UnaryOp_ (thn (ha pins s σ H _ I h) fun v s1 ⟨x,H1,I1,r1,q1⟩=>?_)
  obtain⟨c,rfl,q1⟩:=q1
  cases r1
  exact not_of (wpAny_truthy_bool ⟨.bl (!c),H1,I1,rfl,q1⟩)
def tIf(t:TT)(ta tb:TE):TE:=fun σ H Q=>t σ H fun c H1=>if c=true then ta σ H1 Q else tb σ H1 Q
theorem pe_ifExp{c:Expr}(hc:PT X c tA)(ha:PE X a ta)(hb:PE X b tb):PE X (.IfExp c a b pos) (tIf tA ta tb):=by
  intro pins s σ H Q I h
  refine wpAny_IfExp (thn (hc pins s σ H _ I h) fun d s1 ⟨H1,I1,q1⟩=>?_)
  cases d with
  | true=>exact ha pins s1 σ H1 Q I1 q1
  | false=>exact hb pins s1 σ H1 Q I1 q1
end
end L2
namespace L2
open PySem PySem.Spec PyProof.Rows
def SqL(K:PySem.W.Frag)(H:Hp)(a:Addr)(xs:List V):Prop:=
  Rd H a (.lst xs)∨
    ∃(o:Obj) (its:Array Value) (n:Nat),K.lookup a=some o∧o.cls=.type "list"∧o.dict=none∧o.data=.seq its n∧its.size≤sizeLine∧Vals xs its.toList
def SqT(K:PySem.W.Frag)(H:Hp)(a:Addr)(xs:List V):Prop:=
  Rd H a (.tup xs)∨
    ∃(o:Obj) (its:Array Value) (n:Nat),K.lookup a=some o∧o.cls=.type "tuple"∧o.data=.seq its n∧its.size≤sizeLine∧Vals xs its.toList
def absV:Value→Option V
  | .none=>some .non
  | .bool b=>some (.bl b)
  | .int i _=>some (.int i)
  | .str x _=>some (.str x)
  | .bytes b _=>some (.byt b)
  | .float b _=>some (.flt b)
  | .ref a=>some (.ref a)
  | .type n=>some (.ty n)
  | _=>none
theorem RelV.abs{x:V}{u:Value}(r:RelV x u):absV u=some x:=by
  cases x with
  | non=>cases r;rfl
  | bl _=>cases r;rfl
  | int _=>obtain⟨t,rfl⟩:=r;rfl
  | str _=>obtain⟨t,rfl⟩:=r;rfl
  | byt _=>obtain⟨t,rfl⟩:=r;rfl
  | flt _=>obtain⟨t,rfl⟩:=r;rfl
  | ref _=>cases r;rfl
  | ty _=>cases r;rfl
theorem RelV.inj{x y:V}{u:Value}(r:RelV x u)(q:RelV y u):x=y:=Option.some.inj (r.abs.symm.trans q.abs)
theorem Vals.inj:∀{xs ys:List V} {us:List Value},Vals xs us→Vals ys us→xs=ys
  | _,_,_,.nil,.nil=>rfl
  | _,_,_,.cons r t,.cons r' t'=>by rw[r.inj r',Vals.inj t t']
section
variable{X:Cx}{pins:List (Addr × Obj)}{σ:St}{H:Hp}{s:Shared}{a:Addr}{xs ys:List V}
theorem SqL.of{K:PySem.W.Frag}(h:H a=some (.lst xs)):SqL K H a xs:=.inl (.inl h)
theorem SqT.of{K:PySem.W.Frag}(h:H a=some (.tup xs)):SqT K H a xs:=.inl (.inl h)
theorem Inv.list(I:Inv X pins σ H s)(h:SqL X.K H a xs):∃its:List Value,Vals xs its∧PlainL s.heap a its.toArray∧xs.length≤sizeLine:=by
  rcases h with h | ⟨o,its,n,hk,hc,hd,hs,hz,r⟩
  · obtain⟨z,its,n,r,e⟩:=h.ok I.hok
    exact⟨its,r,⟨_,n,e,rfl,rfl,rfl⟩,z⟩
  · refine⟨its.toList,r,⟨o,n,I.kIn a o hk,hc,hd,by simpa using hs⟩,?_⟩
    have e:=r.length
    simp only[Array.length_toList]at e
    omega
theorem Inv.tuple(I:Inv X pins σ H s)(h:SqT X.K H a xs):∃its:List Value,Vals xs its∧IsTup s.heap a its.toArray∧xs.length≤sizeLine:=by
  rcases h with h | ⟨o,its,n,hk,hc,hs,hz,r⟩
  · obtain⟨z,its,r,p,_⟩:=h.ok I.hok
    exact⟨its,r,p,z⟩
  · refine⟨its.toList,r,⟨o,I.kIn a o hk,hc,n,by simpa using hs⟩,?_⟩
    have e:=r.length
    simp only[Array.length_toList]at e
    omega
theorem Inv.list_inj(I:Inv X pins σ H s)(h:SqL X.K H a xs)(h':SqL X.K H a ys):xs=ys:=by
  obtain⟨its,r,⟨o,n,e,_,_,d⟩,_⟩:=I.list h
  obtain⟨its',r',⟨o',n',e',_,_,d'⟩,_⟩:=I.list h'
  rw[e]at e';cases e'
  rw[d]at d'
  injection d' with d1 _
  have:its=its':=by simpa using congrArg Array.toList d1
  subst this
  exact r.inj r'
theorem Inv.tuple_inj(I:Inv X pins σ H s)(h:SqT X.K H a xs)(h':SqT X.K H a ys):xs=ys:=by
  obtain⟨its,r,⟨o,e,_,n,d⟩,_⟩:=I.tuple h
  obtain⟨its',r',⟨o',e',_,n',d'⟩,_⟩:=I.tuple h'
  rw[e]at e';cases e'
  rw[d]at d'
  injection d' with d1 _
  have:its=its':=by simpa using congrArg Array.toList d1
  subst this
  exact r.inj r'
end
abbrev Cx.wish(X:Cx)(E:Value→Shared→Prop):Cx:={ X with xe:=E }
abbrev Cx.nox(X:Cx):Cx:=X.wish fun _ _=>False
theorem Cx.Ok.wish{X:Cx}(ok:X.Ok)(E:Value→Shared→Prop):(X.wish E).Ok:=
  ⟨ok.mod,ok.kind,ok.glob,ok.blt,ok.above,ok.inj,ok.has,ok.cab,ok.hd,ok.frames,ok.stk,ok.exf,ok.bs,ok.bsz,ok.noex,ok.exfs,ok.funs,ok.frf⟩
theorem Cx.Ok.unwish{X:Cx}{E:Value→Shared→Prop}(ok:(X.wish E).Ok):X.Ok:=
  ⟨ok.mod,ok.kind,ok.glob,ok.blt,ok.above,ok.inj,ok.has,ok.cab,ok.hd,ok.frames,ok.stk,ok.exf,ok.bs,ok.bsz,ok.noex,ok.exfs,ok.funs,ok.frf⟩
section
variable{X:Cx}{pins:List (Addr × Obj)}{σ:St}{H:Hp}{s:Shared}{E:Value→Shared→Prop}
theorem Inv.wish(I:Inv X pins σ H s)(E:Value→Shared→Prop):Inv (X.wish E) pins σ H s:=⟨I.ok.wish E,I.os,I.bare,I.base,I.loc,I.cell,I.free,I.freeC,I.pin,I.hok,I.len⟩
theorem Inv.unwish(I:Inv (X.wish E) pins σ H s):Inv X pins σ H s:=⟨I.ok.unwish,I.os,I.bare,I.base,I.loc,I.cell,I.free,I.freeC,I.pin,I.hok,I.len⟩
theorem SP.unwish{D:Ends}{f:Flow}{s':Shared}(h:SP (X.wish E) pins D f s'):SP X pins D f s':=by
  cases f with
  | next=>obtain⟨σ',H',I,q⟩:=h;exact⟨σ',H',I.unwish,q⟩
  | brk=>obtain⟨σ',H',I,q⟩:=h;exact⟨σ',H',I.unwish,q⟩
  | cont=>obtain⟨σ',H',I,q⟩:=h;exact⟨σ',H',I.unwish,q⟩
  | ret u=>obtain⟨v,σ',H',I,r,q⟩:=h;exact⟨v,σ',H',I.unwish,r,q⟩
theorem PE.nox{e:Expr}{t:TE}(h:PE X.nox e t):PE X e t:=fun pins s σ H Q I hw=>
  wpAny_mono (h pins s σ H Q (I.wish _) hw) (fun _ _ ⟨v,H',I',r,q⟩=>⟨v,H',I'.unwish,r,q⟩) fun _ _ z=>False.elim z
theorem PT.nox{e:Expr}{t:TT}(h:PT X.nox e t):PT X e t:=fun pins s σ H Q I hw=>
  wpAny_mono (h pins s σ H Q (I.wish _) hw) (fun _ _ ⟨H',I',q⟩=>⟨H',I'.unwish,q⟩) fun _ _ z=>False.elim z
theorem PSs.nox{st:List Stmt}{t:TS}(h:PSs X.nox st t):PSs X st t:=fun pins s σ H D I hw=>
  wpAny_mono (h pins s σ H D (I.wish _) hw) (fun _ _ q=>q.unwish) fun _ _ z=>False.elim z
end
section
variable{X:Cx}{st:Stmt}{rest:List Stmt}{t u:TS}{e:Expr}{te:TE}{pos:Pos}
def tNext:TS:=fun D σ H=>D.nx σ H
def tSeq(t u:TS):TS:=fun D σ H=>t { D with nx:=u D } σ H
theorem a0n:PSs X [] tNext:=fun _ _ σ H _ I h=>wpAny_execs_nil ⟨σ,H,I,h⟩
theorem a0d(h1:PS X st t)(h2:PSs X rest u):PSs X (st::rest) (tSeq t u):=by
  intro pins s σ H D I h
  refine wpAny_execs_cons (thn (h1 pins s σ H { D with nx:=u D } I h) fun f s1 q=>?_)
  cases f with
  | next=>
    obtain⟨σ',H',I',q⟩:=q
    exact h2 pins s1 σ' H' D I' q
  | ret v=>exact q
  | brk=>exact q
  | cont=>exact q
theorem a0g(h1:PS X st t):PSs X [st] t:=by
  intro pins s σ H D I h
  refine wpAny_execs_cons (thn (h1 pins s σ H D I h) fun f s1 q=>?_)
  cases f with
  | next=>exact wpAny_execs_nil q
  | ret v=>exact q
  | brk=>exact q
  | cont=>exact q
theorem Inv.quiet{pins:List (Addr × Obj)}{σ:St}{H:Hp}{s:Shared}(I:Inv X pins σ H s):interactive X.env=false:=by simp[interactive,I.ok.kind]
def tDrop(te:TE):TS:=fun D σ H=>te σ H fun _ H1=>D.nx σ H1
theorem d0p(he:PE X e te)(hs:swapsWith e none pos.line X.env=pure false:=by rfl):PS X (.Expr e pos) (tDrop te):=by
  intro pins s σ H D I h
  exact wpAny_Expr_any (thn (he pins s σ H _ I h) fun v s1 ⟨x,H1,I1,r1,q1⟩=>⟨σ,H1,I1,q1⟩) I.quiet hs
def tRet(te:TE):TS:=fun D σ H=>te σ H D.rt
theorem a0o(he:PE X e te):PS X (.Return (some e) pos) (tRet te):=by
  intro pins s σ H D I h
  exact wpAny_Return_some (thn (he pins s σ H _ I h) fun v s1 ⟨x,H1,I1,r1,q1⟩=>⟨x,σ,H1,I1,r1,q1⟩)
def tIfS(c:TT)(t u:TS):TS:=fun D σ H=>c σ H fun b H1=>if b=true then t D σ H1 else u D σ H1
theorem a0y{c:Expr}{a b:List Stmt}{tc:TT}(hc:PT X c tc)(ha:PSs X a t)(hb:PSs X b u):PS X (.If c a b pos) (tIfS tc t u):=by
  intro pins s σ H D I h
  refine wpAny_If (thn (hc pins s σ H _ I h) fun d s1 ⟨H1,I1,q1⟩=>?_)
  cases d with
  | true=>exact ha pins s1 σ H1 D I1 q1
  | false=>exact hb pins s1 σ H1 D I1 q1
def tNever:TS:=fun _ _ _=>False
theorem ps_never:PS X st tNever:=fun _ _ _ _ _ _ h=>h.elim
end
abbrev TG:=V→St→Hp→(St→Hp→Prop)→Prop
abbrev TGs:=List V→St→Hp→(St→Hp→Prop)→Prop
def PG(X:Cx)(target:Expr)(t:TG):Prop:=
  ∀(pins:List (Addr × Obj)) (s:Shared) (σ:St) (H:Hp) (v:V) (u:Value) (Q:St→Hp→Prop),Inv X pins σ H s→RelV v u→t v σ H Q→
    wpAny (model X.prog X.w) X.A (assign target X.env u) (fun _ s'=>∃σ' H',Inv X pins σ' H' s'∧Q σ' H') X.xe s
def PGs(X:Cx)(ts:List Expr)(t:TGs):Prop:=
  ∀(pins:List (Addr × Obj)) (s:Shared) (σ:St) (H:Hp) (vs:List V) (us:List Value) (Q:St→Hp→Prop),Inv X pins σ H s→Vals vs us→t vs σ H Q→
    wpAny (model X.prog X.w) X.A (assignInOrder ((assignEach ts X.env).map (·.2)) us) (fun _ s'=>∃σ' H',Inv X pins σ' H' s'∧Q σ' H') X.xe s
abbrev TSet:=V→V→V→Hp→(Hp→Prop)→Prop
def PSet(X:Cx)(t:TSet):Prop:=
  ∀(pins:List (Addr × Obj)) (s:Shared) (σ:St) (H:Hp) (o i v:V) (ov iv u:Value) (Q:Hp→Prop),Inv X pins σ H s→RelV o ov→RelV i iv→RelV v u→t o i v H Q→
    wpAny (model X.prog X.w) X.A (setItem ov iv u) (fun _ s'=>∃H',Inv X pins σ H' s'∧Q H') X.xe s
abbrev TIp:=V→V→Hp→VK→Prop
def PIp(X:Cx)(op:Operator)(t:TIp):Prop:=
  ∀(pins:List (Addr × Obj)) (s:Shared) (σ:St) (H:Hp) (x y:V) (v u:Value) (Q:VK),Inv X pins σ H s→RelV x v→RelV y u→t x y H Q→
    wpAny (model X.prog X.w) X.A (inplaceOp op v u) (EP X pins σ Q) X.xe s
section
variable{X:Cx}{pos:Pos}
def b0l(i:Nat):TG:=fun v σ H Q=>Q (σ.set i (some v)) H
theorem b0i{i:Nat}{x:Str}(hN:X.N.Nodup)(hi:X.N[i]? = some x)(hx:Loc X.env.scope x)(hf:X.fn x=true∨X.env.scope.names.lookup x=some .local:=by first | exact .inl rfl | exact .inr rfl | assumption):PG X (.Name x pos) (b0l i):=by
  intro pins s σ H v u Q I r h
  exact wpAny_assign_Name (d0i I hN hi hx r (fun s' I'=>⟨_,H,I',h⟩) hf)
def gNil:TGs:=fun vs σ H Q=>vs=[]∧Q σ H
def gCons(t:TG)(u:TGs):TGs:=fun vs σ H Q=>∃v r,vs=v::r∧t v σ H fun σ' H'=>u r σ' H' Q
theorem pgs_nil:PGs X [] gNil:=by
  intro pins s σ H vs us Q I r h
  obtain⟨e,h⟩:=h
  subst e
  cases r
  exact assignInOrder_nil ⟨σ,H,I,h⟩
theorem f0q{e:Expr}{es:List Expr}{t:TG}{u:TGs}(h1:PG X e t)(h2:PGs X es u)
    (hs:(assignEach (e::es) X.env).map (·.2)=assign e X.env::(assignEach es X.env).map (·.2):=by rfl):PGs X (e::es) (gCons t u):=by
  intro pins s σ H vs us Q I r h
  obtain⟨v,vr,e1,h⟩:=h
  subst e1
  cases r with
  | cons r rr=>
    rw[hs]
    refine assignInOrder_cons (thn (h1 pins s σ H _ _ _ I r h) fun _ s1 ⟨σ1,H1,I1,q1⟩=>?_)
    exact h2 pins s1 σ1 H1 _ _ Q I1 rr q1
def gTup(K:PySem.W.Frag)(n:Nat)(t:TGs):TG:=fun v σ H Q=>∃a xs,v=.ref a∧SqT K H a xs∧xs.length=n∧t xs σ H Q
theorem pg_tup{es:List Expr}{k:Nat}{t:TGs}{n:Nat}(hc:X.calm=true)(h:PGs X es t)
    (hn:(assignEach es X.env).length=n:=by rfl) (hst:(assignEach es X.env).findIdx? (·.1)=none:=by rfl):PG X (.Tuple es k pos) (gTup X.K n t):=by
  intro pins s σ H v u Q I r hw
  obtain⟨a,xs,e1,hq,hl,hw⟩:=hw
  subst e1
  cases r
  obtain⟨its,rv,ht,hz⟩:=I.tuple hq
  refine assign_Tuple_tuple (I.ok.hd hc) ht (by simp[hn,← hl,rv.length]) hst fun h' hx=>?_
  have I1:Inv X pins σ H { s with heap:=h' }:=I.kept (t':=s.toks) fun b o e=>hx b o (Nat.ne_of_lt (Heap.lt_size e)) e
  exact h pins _ σ H xs _ Q I1 (by simpa using rv) hw
def gSub(to ti:TE)(t:TSet):TG:=fun v σ H Q=>to σ H fun o H1=>ti σ H1 fun i H2=>t o i v H2 fun H3=>Q σ H3
theorem pg_sub{o i:Expr}{to ti:TE}{t:TSet}(ho:PE X o to)(hi:PE X i ti)(hs:PSet X t)
    (ha:∀v,assign (.Subscript o i pos) X.env v=(do
      let ov ← holding [v] (eval o X.env)
      let iv ← holding [v,ov] (eval i X.env)
      standAt pos
      holding [v,ov,iv] (setItem ov iv v)
      release [v,ov,iv] []):=by intro _;rfl):PG X (.Subscript o i pos) (gSub to ti t):=by
  intro pins s σ H v u Q I r h
  rw[ha]
  refine wpAny_bind (wpAny_holding (thn (ho pins s σ H _ I h) fun ov s1 ⟨x,H1,I1,r1,q1⟩=>?_))
  refine wpAny_bind (wpAny_holding (thn (hi pins s1 σ H1 _ I1 q1) fun iv s2 ⟨y,H2,I2,r2,q2⟩=>?_))
  refine wpAny_bind (wpAny_standAt (wpAny_bind (wpAny_holding (thn (hs pins s2 σ H2 x y v ov iv u _ I2 r1 r2 r q2) fun _ s3 ⟨H3,I3,q3⟩=>?_))))
  exact wpAny_release ⟨σ,H3,I3,q3⟩
def tAsg(te:TE)(g:TG):TS:=fun D σ H=>te σ H fun x H1=>g x σ H1 D.nx
theorem ps_asg{tg e:Expr}{te:TE}{g:TG}(he:PE X e te)(hg:PG X tg g)(hs:swapsWithSole [tg] e pos.line X.env=pure false:=by rfl)(hw:swappedStores [tg] e X.env=pure none:=by rfl)
    (h1:(assignEach [tg] X.env).map (·.2)=[assign tg X.env]:=by rfl):PS X (.Assign [tg] e pos) (tAsg te g):=by
  intro pins s σ H D I h
  refine wpAny_Assign_stores (thn (he pins s σ H _ I h) fun v s1 ⟨x,H1,I1,r1,q1⟩=>?_) hs hw
  rw[h1]
  exact thn (hg pins s1 σ H1 x v _ I1 r1 q1) fun _ s2 q=>q
theorem a0q{i:Nat}{x:Str}{e:Expr}{te:TE}{pos':Pos}(hN:X.N.Nodup)(hi:X.N[i]? = some x)(hx:Loc X.env.scope x)(he:PE X e te)(hs:swapsWith e (some (.Name x pos')) pos.line X.env=pure false:=by rfl)(hf:X.fn x=true∨X.env.scope.names.lookup x=some .local:=by first | exact .inl rfl | exact .inr rfl | assumption) :
    PS X (.Assign [.Name x pos'] e pos) (tAsg te (b0l i)):=by
  intro pins s σ H D I h
  refine wpAny_Assign_Name (thn (he pins s σ H _ I h) fun v s1 ⟨y,H1,I1,r1,q1⟩=>?_) hs
  exact d0i I1 hN hi hx r1 (fun s2 I2=>⟨_,H1,I2,q1⟩) hf
def tPar(i j:Nat)(ta:TA):TS:=fun D σ H=>ta σ H fun vs H1=>∃v w,vs=[v,w]∧D.nx ((σ.set i (some v)).set j (some w)) H1
theorem ps_par{i j:Nat}{x y:Str}{a b:Expr}{ta:TA}{px py pt:Pos}{kt k2 pt2}(hc:X.calm=true)(hN:X.N.Nodup)(hi:X.N[i]? = some x)(hj:X.N[j]? = some y)(hij:i≠j)
    (hx:X.env.scope.names.lookup x=some .local) (hy:X.env.scope.names.lookup y=some .local) (ha:PA X [a,b] ta)
    (hw:swappedStores [.Tuple [.Name x px,.Name y py] kt pt] (.Tuple [a,b] k2 pt2) X.env=pure (some [x,y]))
    (hs:swapsWithSole [.Tuple [.Name x px,.Name y py] kt pt] (.Tuple [a,b] k2 pt2) pos.line X.env=pure false:=by rfl) :
    PS X (.Assign [.Tuple [.Name x px,.Name y py] kt pt] (.Tuple [a,b] k2 pt2) pos) (tPar i j ta):=by
  intro pins s σ H D I h
  rw[exec_Assign_arm]
  refine wpAny_bind (wpAny_standAt ?_)
  rw[hs]
  refine wpAny_bind (wpAny_pure ?_)
  rw[if_neg (by decide)]
  refine wpAny_bind (Tuple_ (thn (ha _ pins s σ H _ I h) fun us s1 ⟨vs,H1,I1,r1,q1⟩=>?_))
  obtain⟨v,w,e1,q1⟩:=q1
  subst e1
  obtain⟨u1,u2,rfl,rv,rw'⟩:∃u1 u2,us=[u1,u2]∧RelV v u1∧RelV w u2:=by
    cases r1 with
    | cons p q=>
      cases q with
      | cons p' q'=>
        cases q'
        exact⟨_,_,rfl,p,p'⟩
  refine wpAny_newObj_type ?_ (by show 2≤sizeLine;decide)
  have I2:Inv X pins σ H1 { s1 with heap:=s1.heap.push { cls:=.type "tuple",data:=.seq [u1,u2].toArray } }:=I1.kept (t':=s1.toks) fun b o e=>Heap.get?_push_of_some _ e
  rw[hw]
  refine wpAny_bind (wpAny_pure ?_)
  show wpAny (model X.prog X.w) X.A (do rule "assign.swapped-stores";let items ← unpackItems (.ref s1.heap.objs.size) 2 none;assignInOrder [fun v=>bindName X.env y v,fun v=>bindName X.env x v] items.reverse;pure Flow.next) _ _ _
  refine wpAny_bind (wpAny_rule (wpAny_bind (unpackItems_tuple (items:=#[u1,u2]) (I.ok.hd hc) (IsTup.new s1.heap _) fun h' hx'=>?_)))
  have I3:=I2.kept (h':=h') (t':=s1.toks) fun b o e=>hx' b o (Nat.ne_of_lt (Heap.lt_size e)) e
  show wpAny _ _ (assignInOrder [fun v=>bindName X.env y v,fun v=>bindName X.env x v] [u2,u1] >>= fun _=>pure Flow.next) _ _ _
  refine wpAny_bind (assignInOrder_cons (wpAny_bindName (d0i I3 hN hj (.inl hy) rw' (fun s2 I4=>?_) (.inr hy))))
  refine assignInOrder_cons (wpAny_bindName (d0i I4 hN hi (.inl hx) rv (fun s3 I5=>assignInOrder_nil (wpAny_pure ?_)) (.inr hx)))
  rw[List.set_comm _ _ (Ne.symm hij)]at I5
  exact⟨_,H1,I5,q1⟩
def tAug(i:Nat)(te:TE)(ti:TIp):TS:=fun D σ H=>∃x,σ[i]? = some (some x)∧te σ H fun y H1=>ti x y H1 fun z H2=>D.nx (σ.set i (some z)) H2
theorem ps_aug{i:Nat}{x:Str}{e:Expr}{te:TE}{op:Operator}{ti:TIp}{pos':Pos}(hN:X.N.Nodup)(hi:X.N[i]? = some x)(hx:Loc X.env.scope x)(he:PE X e te)(ho:PIp X op ti)(hf:X.fn x=true∨X.env.scope.names.lookup x=some .local:=by first | exact .inl rfl | exact .inr rfl | assumption) :
    PS X (.AugAssign (.Name x pos') op e pos) (tAug i te ti):=by
  intro pins s σ H D I h
  obtain⟨v,e1,h⟩:=h
  obtain⟨m,hn,hl⟩:=I.loc
  have vis:Vis X.env.scope x:=by rcases hx with k | k;exact .inl k;exact .inr (.inl k)
  obtain⟨u,r,l⟩:=hl i x v hi e1 vis
  refine wpAny_AugAssign_Name ?_
  have go:wpAny (model X.prog X.w) X.A (eval e X.env) (fun w s₂=>wpAny (model X.prog X.w) X.A (inplaceOp op u w) (fun r s₃=>wpAny (model X.prog X.w) X.A (storeName X.env x r) (fun _=>SP X pins D .next) X.xe s₃) X.xe s₂) X.xe s:=by
    refine thn (he pins s σ H _ I h) fun w s1 ⟨y,H1,I1,r1,q1⟩=>?_
    refine thn (ho pins s1 σ H1 v y u w _ I1 r r1 q1) fun z s2 ⟨zv,H2,I2,r2,q2⟩=>?_
    exact d0i I2 hN hi hx r2 (fun s3 I3=>⟨_,H2,I3,q2⟩) hf
  rcases l with ⟨hk,hm⟩ | ⟨hk,c,hc,hcell⟩
  · exact wpAny_loadName_local I.ok.kind hk hn hm go
  · rcases hk with hk | hk
    · exact wpAny_loadName_cell I.ok.kind hk hc hcell go
    · rcases hx with k | k
      · have:X.env.scope.names.lookup x=some .free:=hk
        rw[k]at this;cases this
      · have:X.env.scope.names.lookup x=some .free:=hk
        rw[k]at this;cases this
end
section
variable{X:Cx}{pos:Pos}
def tWhile(c:TT)(tb:TS):TS:=fun D σ H=>∃W:Nat→St→Hp→Prop,(∃m,W m σ H)∧∀m σ H,W m σ H→
  c σ H fun b H1=>if b=true then ∃N:St→Hp→Prop,(∀σ' H',N σ' H'→∃m',m' < m∧W m' σ' H')∧tb { D with nx:=N,ct:=N,bk:=D.nx } σ H1 else D.nx σ H1
theorem j0l{c:Expr}{body:List Stmt}{tc:TT}{tb:TS}(hp:PassesOwn (model X.prog X.w) X.A X.env X.xe)(hc:PT X c tc)(hb:PSs X body tb):PS X (.While c body [] pos) (tWhile tc tb):=by
  intro pins s σ H D I h
  obtain⟨W,⟨m0,w0⟩,turn⟩:=h
  refine wpAny_While (codeAny_whileLoop (fun n s'=>∃σ' H',Inv X pins σ' H' s'∧W n σ' H') ?_ m0 ⟨σ,H,I,w0⟩)
  rintro n s1 ⟨σ1,H1,I1,w1⟩
  refine wpAny_passesOwn hp (thn (hc pins s1 σ1 H1 _ I1 (turn n σ1 H1 w1)) fun b s2 ⟨H2,I2,q2⟩=>?_)
  cases b with
  | true=>
    obtain⟨N,hN,q2⟩:=q2
    rw[if_pos rfl]
    refine wpAny_passesOwn hp (thn (hb pins s2 σ1 H2 _ I2 q2) fun f s3 q3=>?_)
    cases f with
    | next=>
      obtain⟨σ3,H3,I3,n3⟩:=q3
      obtain⟨m',hm,w3⟩:=hN σ3 H3 n3
      exact⟨m',hm,σ3,H3,I3,w3⟩
    | cont=>
      obtain⟨σ3,H3,I3,n3⟩:=q3
      obtain⟨m',hm,w3⟩:=hN σ3 H3 n3
      exact⟨m',hm,σ3,H3,I3,w3⟩
    | brk=>exact q3
    | ret v=>exact q3
  | false=>
    rw[if_neg Bool.false_ne_true]
    exact wpAny_execs_nil ⟨σ1,H2,I2,q2⟩
end
structure It where
  go:Nat→Hp→Prop
  yld:Nat→Hp→V→Hp→Prop
  stop:Nat→Hp→Prop
def FpOk(X:Cx)(pins:List (Addr × Obj))(H:Hp)(b:Addr):Prop:=
  H b=none∧b≠X.env.locals∧b ∉ X.fs∧(b∈X.ex∨X.s₀.heap.objs.size≤b)∧(∀x c,X.env.cells.lookup x=some c→c≠b)∧∀p∈X.pn++pins,p.1≠b
theorem Inv.fpOk{X:Cx}{pins:List (Addr × Obj)}{σ:St}{H H':Hp}{s:Shared}{b:Addr}(I:Inv X pins σ H s)(hb:s.heap.objs.size≤b)(hn:H' b=none):FpOk X pins H' b:=by
  refine⟨hn,Nat.ne_of_gt (Nat.lt_of_lt_of_le I.lt hb),I.nofs hb,.inr (Nat.le_trans I.sz hb),fun x c e z=>?_,fun p hp z=>?_⟩
  · obtain⟨v,q⟩:=I.cell x c e
    exact absurd (Nat.lt_of_lt_of_le q.lt (by rw[z];exact hb)) (Nat.lt_irrefl _)
  · exact absurd (Nat.lt_of_lt_of_le (Heap.lt_size (I.pin p hp).1) (by rw[z];exact hb)) (Nat.lt_irrefl _)
structure Turn(P:Program)(w:World)(K:PySem.W.Frag)(tg:Expr)(J:It)(fp:List Addr)(it:Addr)(tn:Nat→Heap→Prop):Prop where
  mem:it∈fp
  obj:∀i h,tn i h→∀b∈fp,∃o,h.get? b=some o∧∀v,o.data≠.cell v
  keep:∀i h h',tn i h→(∀b∈fp,∀o,h.get? b=some o→h'.get? b=some o)→tn i h'
  item:∀(X:Cx),X.prog=P→X.w=w→X.K=K→X.calm=true→∀(i:Nat) (pins:List (Addr × Obj)) (s:Shared) (σ:St) (H:Hp) (E:Value→Shared→Prop),Inv X pins σ H s→(∀b∈fp,FpOk X pins H b)→tn i s.heap→J.go i H→
    wpAny (model P w) X.A (pyNext (.ref it)) (fun r s1=>∃u,r=some u∧
      wpAny (model P w) X.A (letOwnedTupleGo tg (.ref it) u) (fun _ s2=>∃x H',Inv X pins σ H' s2∧RelV x u∧J.yld i H x H'∧tn (i+1) s2.heap∧∀b∈fp,H' b=none) E s1) E s
  done:∀(X:Cx),X.prog=P→X.w=w→X.K=K→X.calm=true→∀(i:Nat) (pins:List (Addr × Obj)) (s:Shared) (σ:St) (H:Hp) (E:Value→Shared→Prop),Inv X pins σ H s→(∀b∈fp,FpOk X pins H b)→tn i s.heap→J.stop i H→
    wpAny (model P w) X.A (pyNext (.ref it)) (fun r s1=>r=none∧Inv X pins σ H s1) E s
  self:∀(A:Around) (i:Nat) (s:Shared) (Q:Value→Shared→Prop) (E:Value→Shared→Prop),tn i s.heap→Q (.ref it) s→wpAny (model P w) A (pyIter (.ref it)) Q E s
abbrev TI:=St→Hp→(It→Hp→Prop)→Prop
def PIE(X:Cx)(pins:List (Addr × Obj))(σ:St)(tg:Expr)(R:It→Hp→Prop)(itv:Value)(s2:Shared):Prop:=
  ∃(it:Addr) (fp:List Addr) (tn:Nat→Heap→Prop) (J:It) (H':Hp),itv=.ref it∧Inv X pins σ H' s2∧Turn X.prog X.w X.K tg J fp it tn∧tn 0 s2.heap∧(∀b∈fp,FpOk X pins H' b)∧R J H'
def PI(X:Cx)(tg iter:Expr)(wi:TI):Prop:=
  ∀(pins:List (Addr × Obj)) (s:Shared) (σ:St) (H:Hp) (R:It→Hp→Prop),Inv X pins σ H s→wi σ H R→
    wpAny (model X.prog X.w) X.A (eval iter X.env) (fun v s1=>wpAny (model X.prog X.w) X.A (pyIter v) (PIE X pins σ tg R) X.xe s1) X.xe s
theorem go_of{M:Model}{A:Around}{E:Value→Shared→Prop}{s:Shared}{tg:Expr}{it:Addr}{u:Value}{o:Obj}{n:String}{vs:Array Value}{Q:Unit→Shared→Prop}(ho:s.heap.get? it=some o)(hc:o.cls=.type n)(hd:o.data=.fields vs)
    (hn:["enumerate","zip","dict_itemiterator","dict_reverseitemiterator","odict_iterator","itertools.zip_longest","itertools.pairwise"].contains n=false) (hQ:Q () s):wpAny M A (letOwnedTupleGo tg (.ref it) u) Q E s:=by
  unfold letOwnedTupleGo
  cases tg <;>first
    | exact wpAny_pure hQ
    | (cases u <;>first
        | exact wpAny_pure hQ
        | (refine wpAny_bind (wpAny_load ho ?_)
           rw[hc,hd]
           show wpAny M A (if(["enumerate","zip","dict_itemiterator","dict_reverseitemiterator","odict_iterator","itertools.zip_longest","itertools.pairwise"].contains n && vs[0]? == some (rawInt _))=true then _ else _) Q E s
           rw[if_neg (by intro h;rw[hn,Bool.false_and]at h;cases h)]
           exact wpAny_pure hQ))
def Itl(K:PySem.W.Frag)(a:Addr):It:=
  ⟨fun i H=>∃xs x,SqL K H a xs∧xs[i]? = some x,fun i H x H'=>H'=H∧∀xs,SqL K H a xs→xs[i]? = some x,fun i H=>∃xs,SqL K H a xs∧xs.length≤i⟩
def Itt(K:PySem.W.Frag)(a:Addr):It:=
  ⟨fun i H=>∃xs x,SqT K H a xs∧xs[i]? = some x,fun i H x H'=>H'=H∧∀xs,SqT K H a xs→xs[i]? = some x,fun i H=>∃xs,SqT K H a xs∧xs.length≤i⟩
def Itr(lo:Int)(n:Nat):It:=⟨fun i _=>i < n,fun i H x H'=>H'=H∧x=.int (lo+i),fun i _=>n≤i⟩
theorem turn_list{P:Program}{w:World}{K:PySem.W.Frag}{tg:Expr}(a it:Addr):Turn P w K tg (Itl K a) [it] it (fun i h=>h.IsListIter it a i)where
  mem:=by simp
  obj:=fun i h st b hb=>by
    have e:b=it:=by simpa using hb
    subst e
    obtain⟨o,e,c,d⟩:=st
    exact⟨o,e,fun v z=>by rw[d]at z;cases z⟩
  keep:=fun i h h' st k=>st.at fun o e=>k it (by simp) o e
  item:=by
    intro X hP hw hK hc i pins s σ H E I hf st hg
    subst hP hw hK
    obtain⟨xs,x,hq,hx⟩:=hg
    obtain⟨its,rv,p,hz⟩:=I.list hq
    obtain⟨u,hu,ru⟩:=rv.get hx
    obtain⟨f0,f1,f2,f3,f4,f5⟩:=hf it (by simp)
    refine wpAny_pyNext_list_item st p.isList (x:=u) (by simpa using hu) fun h' st' sb=>?_
    have I1:Inv X pins σ H { s with heap:=h' }:=I.turned (t':=s.toks) (fun b o hb e=>(sb.2 b hb).trans e) f0 f1 f3 f4 f5
    obtain⟨o,e,c,d⟩:=id st'
    exact⟨u,rfl,go_of (s:={ s with heap:=h' }) e c d (by decide) ⟨x,H,I1,ru,⟨rfl,fun ys hy=>by rw[I.list_inj hy hq];exact hx⟩,st',fun b hb=>(hf b hb).1⟩⟩
  done:=by
    intro X hP hw hK hc i pins s σ H E I hf st hg
    subst hP hw hK
    obtain⟨xs,hq,hx⟩:=hg
    obtain⟨its,rv,p,hz⟩:=I.list hq
    obtain⟨f0,f1,f2,f3,f4,f5⟩:=hf it (by simp)
    have hl:=rv.length
    exact wpAny_pyNext_list_end (I.ok.hd hc) st p.isList (by simp;omega) fun h' eb=>⟨rfl,I.turned (t':=s.toks) (fun b o hb e=>eb b o hb e) f0 f1 f3 f4 f5⟩
  self:=fun _ _ _ _ _ st h=>wpAny_pyIter_listiter st h
theorem turn_tuple{P:Program}{w:World}{K:PySem.W.Frag}{tg:Expr}(a it:Addr):Turn P w K tg (Itt K a) [it] it (fun i h=>h.IsTupleIter it a i)where
  mem:=by simp
  obj:=fun i h st b hb=>by
    have e:b=it:=by simpa using hb
    subst e
    obtain⟨o,e,c,d⟩:=st
    exact⟨o,e,fun v z=>by rw[d]at z;cases z⟩
  keep:=fun i h h' st k=>st.at fun o e=>k it (by simp) o e
  item:=by
    intro X hP hw hK hc i pins s σ H E I hf st hg
    subst hP hw hK
    obtain⟨xs,x,hq,hx⟩:=hg
    obtain⟨its,rv,p,hz⟩:=I.tuple hq
    obtain⟨u,hu,ru⟩:=rv.get hx
    obtain⟨f0,f1,f2,f3,f4,f5⟩:=hf it (by simp)
    refine wpAny_pyNext_tuple_item st (show s.heap.IsTuple a its.toArray from p) (x:=u) (by simpa using hu) fun h' st' sb=>?_
    have I1:Inv X pins σ H { s with heap:=h' }:=I.turned (t':=s.toks) (fun b o hb e=>(sb.2 b hb).trans e) f0 f1 f3 f4 f5
    obtain⟨o,e,c,d⟩:=id st'
    exact⟨u,rfl,go_of (s:={ s with heap:=h' }) e c d (by decide) ⟨x,H,I1,ru,⟨rfl,fun ys hy=>by rw[I.tuple_inj hy hq];exact hx⟩,st',fun b hb=>(hf b hb).1⟩⟩
  done:=by
    intro X hP hw hK hc i pins s σ H E I hf st hg
    subst hP hw hK
    obtain⟨xs,hq,hx⟩:=hg
    obtain⟨its,rv,p,hz⟩:=I.tuple hq
    obtain⟨f0,f1,f2,f3,f4,f5⟩:=hf it (by simp)
    have hl:=rv.length
    exact wpAny_pyNext_tuple_end (I.ok.hd hc) st (show s.heap.IsTuple a its.toArray from p) (by simp;omega) fun h' eb=>⟨rfl,I.turned (t':=s.toks) (fun b o hb e=>eb b o hb e) f0 f1 f3 f4 f5⟩
  self:=fun _ _ _ _ _ st h=>wpAny_pyIter_tupleiter st h
theorem turn_range{P:Program}{w:World}{K:PySem.W.Frag}{tg:Expr}(it:Addr)(lo:Int)(n:Nat):Turn P w K tg (Itr lo n) [it] it (fun i h=>IsRangeIter h it (lo+(i:Nat) * 1) ((n:Int) - (i:Nat)) 1)where
  mem:=by simp
  obj:=fun i h st b hb=>by
    have e:b=it:=by simpa using hb
    subst e
    exact⟨_,st,fun v z=>by
      have z':Data.fields _=Data.cell v:=z
      cases z'⟩
  keep:=fun i h h' st k=>k it (by simp) _ st
  item:=by
    intro X hP hw hK hc i pins s σ H E I hf st hg
    subst hP hw hK
    obtain⟨f0,f1,f2,f3,f4,f5⟩:=hf it (by simp)
    have W:=Walks.range (prog:=X.prog) (w:=X.w) (I.ok.hd hc) it lo 1 n
    refine W.item i s _ _ hg st fun v h' tk hv st' kk=>?_
    obtain⟨t,rfl⟩:=hv
    have I1:Inv X pins σ H { s with heap:=h',toks:=tk }:=I.turned (fun b o hb e=>kk b o (by simpa using hb) e) f0 f1 f3 f4 f5
    refine⟨_,rfl,go_of (s:={ s with heap:=h',toks:=tk }) (n:="range_iterator") st' rfl rfl (by decide) ⟨.int (lo+i),H,I1,⟨t,?_⟩,⟨rfl,rfl⟩,st',fun b hb=>(hf b hb).1⟩⟩
    rw[Int.mul_one]
  done:=by
    intro X hP hw hK hc i pins s σ H E I hf st hg
    subst hP hw hK
    obtain⟨f0,f1,f2,f3,f4,f5⟩:=hf it (by simp)
    exact wpAny_pyNext_range_end (I.ok.hd hc) st (by have:n≤i:=hg;omega) fun h' eb=>⟨rfl,I.turned (t':=s.toks) (fun b o hb e=>eb b o hb e) f0 f1 f3 f4 f5⟩
  self:=fun _ _ _ _ _ st h=>wpAny_pyIter_rangeiter st h
end L2
namespace L2
open PySem PySem.Spec PyProof.Rows
section
variable{X:Cx}{tg:Expr}
def iList(K:PySem.W.Frag)(tl:TE):TI:=fun σ H R=>tl σ H fun x H1=>∃a,x=.ref a∧(∃xs,SqL K H1 a xs)∧R (Itl K a) H1
def iTup(K:PySem.W.Frag)(tl:TE):TI:=fun σ H R=>tl σ H fun x H1=>∃a,x=.ref a∧(∃xs,SqT K H1 a xs)∧R (Itt K a) H1
theorem f0f{l:Expr}{tl:TE}(hl:PE X l tl):PI X tg l (iList X.K tl):=by
  intro pins s σ H R I h
  refine thn (hl pins s σ H _ I h) fun v s1 ⟨x,H1,I1,r1,q1⟩=>?_
  obtain⟨a,e,⟨xs,hq⟩,q⟩:=q1
  subst e
  cases r1
  obtain⟨its,rv,p,hz⟩:=I1.list hq
  refine wpAny_pyIter_list p.isList ?_
  refine⟨s1.heap.objs.size,[s1.heap.objs.size],_,_,H1,rfl,I1.kept (t':=s1.toks) fun b o e=>Heap.get?_push_of_some _ e,turn_list a _,⟨_,Heap.get?_push_size _ rfl,rfl,rfl⟩,fun b hb=>?_,q⟩
  have e:b=s1.heap.objs.size:=by simpa using hb
  subst e
  exact I1.fpOk (Nat.le_refl _) (I1.hok.fresh (Nat.le_refl _))
theorem pi_tup{l:Expr}{tl:TE}(hl:PE X l tl):PI X tg l (iTup X.K tl):=by
  intro pins s σ H R I h
  refine thn (hl pins s σ H _ I h) fun v s1 ⟨x,H1,I1,r1,q1⟩=>?_
  obtain⟨a,e,⟨xs,hq⟩,q⟩:=q1
  subst e
  cases r1
  obtain⟨its,rv,p,hz⟩:=I1.tuple hq
  refine wpAny_pyIter_tuple (show s1.heap.IsTuple a its.toArray from p) ?_
  refine⟨s1.heap.objs.size,[s1.heap.objs.size],_,_,H1,rfl,I1.kept (t':=s1.toks) fun b o e=>Heap.get?_push_of_some _ e,turn_tuple a _,⟨_,Heap.get?_push_size _ rfl,rfl,rfl⟩,fun b hb=>?_,q⟩
  have e:b=s1.heap.objs.size:=by simpa using hb
  subst e
  exact I1.fpOk (Nat.le_refl _) (I1.hok.fresh (Nat.le_refl _))
theorem range_it{pins:List (Addr × Obj)}{σ:St}{H:Hp}{s:Shared}{R:It→Hp→Prop}{E:Value→Shared→Prop}{lo hi:Int}{t u v:Tok}{tk:Nat}(I:Inv X pins σ H s)(h1:-(2 ^ 62)≤lo)(h2:lo < 2 ^ 62)(h3:-(2 ^ 62)≤hi)(h4:hi < 2 ^ 62)
    (q:R (Itr lo (hi - lo).toNat) H):wpAny (model X.prog X.w) X.A (pyIter (.ref s.heap.objs.size)) (PIE X pins σ tg R) E { s with heap:=s.heap.push { cls:=.type "range",data:=.fields #[.int lo t,.int hi u,.int 1 v] },toks:=tk }:=by
  refine wpAny_pyIter_range (IsRange.new ..) (small_one h1 h2 h3 h4) ?_
  have I1:Inv X pins σ H { s with heap:=s.heap.push { cls:=.type "range",data:=.fields #[.int lo t,.int hi u,.int 1 v] },toks:=tk }:=I.kept fun b o e=>Heap.get?_push_of_some _ e
  refine⟨(s.heap.push { cls:=.type "range",data:=.fields #[.int lo t,.int hi u,.int 1 v] }).objs.size,[(s.heap.push { cls:=.type "range",data:=.fields #[.int lo t,.int hi u,.int 1 v] }).objs.size],_,_,H,rfl,
    I1.kept (t':=tk) fun b o e=>Heap.get?_push_of_some _ e,turn_range _ lo (hi - lo).toNat,?_,fun b hb=>?_,q⟩
  · have e1:lo+((0:Nat):Int) * 1=lo:=by simp
    have e2:(((hi - lo).toNat:Nat):Int) - ((0:Nat):Int)=Builtin.Range.rangeSize lo hi 1:=by rw[rangeSize_one];split <;>omega
    show IsRangeIter _ _ (lo+((0:Nat):Int) * 1) ((((hi - lo).toNat:Nat):Int) - ((0:Nat):Int)) 1
    rw[e1,e2]
    exact Heap.get?_push_size _ rfl
  · have e:b=(s.heap.push { cls:=.type "range",data:=.fields #[.int lo t,.int hi u,.int 1 v] }).objs.size:=by simpa using hb
    subst e
    exact I1.fpOk (Nat.le_refl _) (I1.hok.fresh (Nat.le_refl _))
def iRng1(ta:TA):TI:=fun σ H R=>ta σ H fun vs H1=>∃j:Int,vs=[.int j]∧-(2 ^ 62)≤j∧j < 2 ^ 62∧R (Itr 0 j.toNat) H1
theorem d0g{a:Expr}{ta:TA}{p pos:Pos}(hg:Gl X "range")(hm:X.mg "range"=none)(ha:PA X [a] ta)(hs:starEach [a] X.env=[(false,eval a X.env)]:=by rfl):PI X tg (.Call (.Name "range" p) [a] [] pos) (iRng1 ta):=by
  intro pins s σ H R I h
  refine Call_ (i0x I hg hm boot_range (PyProof.Rows.callWith_type1 (thn (ha pos pins s σ H _ I h) fun us s1 ⟨vs,H1,I1,r1,q1⟩=>?_) hs rfl))
  obtain⟨j,e,q1,q2,q⟩:=q1
  subst e
  cases r1 with
  | cons r rr=>
    cases rr
    obtain⟨t,rfl⟩:=r
    exact call_range_1 (range_it I1 (by omega) (by omega) q1 q2 (by simpa using q))
def tFor(wi:TI)(g:TG)(tb:TS):TS:=fun D σ H=>wi σ H fun J H1=>∃W:Nat→Nat→St→Hp→Prop,(∃m,W 0 m σ H1)∧∀i m σ H,W i m σ H→
  (J.stop i H∧D.nx σ H)∨(J.go i H∧∃N:St→Hp→Prop,(∀σ' H',N σ' H'→∃m',m' < m∧W (i+1) m' σ' H')∧∀x H',J.yld i H x H'→g x σ H' fun σ2 H2=>tb { D with nx:=N,ct:=N,bk:=D.nx } σ2 H2)
def pinsAt(fp:List Addr)(h:Heap):List (Addr × Obj):=fp.filterMap fun b=>(h.get? b).map fun o=>(b,o)
theorem c0i{fp:List Addr}{h:Heap}{b:Addr}{o:Obj}(hb:b∈fp)(e:h.get? b=some o):(b,o)∈pinsAt fp h:=List.mem_filterMap.mpr ⟨b,hb,by rw[e];rfl⟩
theorem of_pinsAt{fp:List Addr}{h:Heap}{p:Addr × Obj}(hp:p∈pinsAt fp h):p.1∈fp∧h.get? p.1=some p.2:=by
  obtain⟨b,hb,e⟩:=List.mem_filterMap.mp hp
  cases q:h.get? b with
  | none=>rw[q]at e;cases e
  | some o=>
    rw[q]at e
    have e':(b,o)=p:=Option.some.inj e
    subst e'
    exact⟨hb,q⟩
theorem Inv.pinned{pins:List (Addr × Obj)}{σ:St}{H:Hp}{s:Shared}{fp:List Addr}(I:Inv X pins σ H s)(hf:∀b∈fp,FpOk X pins H b)(ho:∀b∈fp,∃o,s.heap.get? b=some o∧∀v,o.data≠.cell v):Inv X (pins++pinsAt fp s.heap) σ H s:=
  I.pins_of fun p hp=>(List.mem_append.mp hp).elim (fun z=>I.pin p (List.mem_append_right _ z)) fun z=>by
    obtain⟨hb,e⟩:=of_pinsAt z
    obtain⟨f0,f1,f2,_⟩:=hf p.1 hb
    obtain⟨o,e',d⟩:=ho p.1 hb
    rw[e]at e';cases e'
    exact⟨e,f0,f1,f2,d⟩
theorem Inv.unpinned{pins pl:List (Addr × Obj)}{σ:St}{H:Hp}{s:Shared}(I:Inv X (pins++pl) σ H s):Inv X pins σ H s:=I.pins_of fun p hp=>I.pin p (List.mem_append_right _ (List.mem_append_left _ hp))
theorem g0w{iter:Expr}{body:List Stmt}{wi:TI}{g:TG}{tb:TS}{pos:Pos}(hp:PassesOwn (model X.prog X.w) X.A X.env X.xe)(hc:X.calm=true)(hi:PI X tg iter wi)(hg:PG X tg g)(hb:PSs X body tb)
    (hs:∀x,foldedSetIterable iter X.env x=pure x:=by intro _;rfl):PS X (.For tg iter body [] pos) (tFor wi g tb):=by
  intro pins s σ H D I h
  refine wpAny_For (thn (hi pins s σ H _ I h) fun v s1 h1=>thn h1 fun itv s2 h2=>?_) hs
  obtain⟨it,fp,tn,J,H2,e,I2,T,st2,f2,W,⟨m0,w0⟩,turn⟩:=h2
  subst e
  have stat:∀{H':Hp},(∀b∈fp,H' b=none)→∀b∈fp,FpOk X pins H' b:=fun hn b hb=>⟨hn b hb,(f2 b hb).2⟩
  refine codeAny_forLoop_any (fun n s'=>∃i σ' H',Inv X pins σ' H' s'∧tn i s'.heap∧(∀b∈fp,H' b=none)∧W i n σ' H') ?_ m0 ⟨0,σ,H2,I2,st2,fun b hb=>(f2 b hb).1,w0⟩
  rintro n s3 ⟨i,σ3,H3,I3,st3,fr3,w3⟩
  rcases turn i n σ3 H3 w3 with ⟨stop,qn⟩ | ⟨go,N,hN,step⟩
  · refine wpAny_passesOwn hp (thn (T.done X rfl rfl rfl hc i pins s3 σ3 H3 X.xe I3 (stat fr3) st3 stop) fun r s4 ⟨hr,I4⟩=>?_)
    subst hr
    exact wpAny_execs_nil ⟨σ3,H3,I4,qn⟩
  · refine wpAny_passesOwn hp (thn (T.item X rfl rfl rfl hc i pins s3 σ3 H3 X.xe I3 (stat fr3) st3 go) fun r s4 ⟨u,hr,h4⟩=>?_)
    subst hr
    refine wpAny_passesOwn hp (thn h4 fun _ s5 ⟨x,H5,I5,r5,y5,st5,fr5⟩=>?_)
    have I5':=I5.pinned (stat fr5) (T.obj _ _ st5)
    refine wpAny_passesOwn hp (thn (hg _ s5 σ3 H5 x u _ I5' r5 (step x H5 y5)) fun _ s6 ⟨σ6,H6,I6,q6⟩=>?_)
    refine wpAny_passesOwn hp (thn (hb _ s6 σ6 H6 _ I6 q6) fun f s7 q7=>?_)
    have again:∀{σ7:St} {H7:Hp},Inv X (pins++pinsAt fp s5.heap) σ7 H7 s7→N σ7 H7→∃m,m < n∧∃i σ' H',Inv X pins σ' H' s7∧tn i s7.heap∧(∀b∈fp,H' b=none)∧W i m σ' H':=fun{σ7 H7} I7 n7=>by
      obtain⟨m',hm,w7⟩:=hN σ7 H7 n7
      refine⟨m',hm,i+1,σ7,H7,I7.unpinned,T.keep _ _ _ st5 fun b hb o e=>(I7.pin (b,o) (List.mem_append_right _ (List.mem_append_right _ (c0i hb e)))).1,fun b hb=>?_,w7⟩
      obtain⟨o,e,d⟩:=T.obj _ _ st5 b hb
      exact(I7.pin (b,o) (List.mem_append_right _ (List.mem_append_right _ (c0i hb e)))).2.1
    cases f with
    | next=>obtain⟨σ7,H7,I7,n7⟩:=q7;exact again I7 n7
    | cont=>obtain⟨σ7,H7,I7,n7⟩:=q7;exact again I7 n7
    | brk=>obtain⟨σ7,H7,I7,q7⟩:=q7;exact⟨σ7,H7,I7.unpinned,q7⟩
    | ret v=>obtain⟨x7,σ7,H7,I7,r7,q7⟩:=q7;exact⟨x7,σ7,H7,I7.unpinned,r7,q7⟩
end
theorem h0e{K:PySem.W.Frag}{a:Addr}{xs:List V}{g:TG}{tb:TS}{D:Ends}{σ:St}{H:Hp}(Pv:Nat→St→Hp→Prop)(h0:Pv 0 σ H)(hl:∀i σ H,i≤xs.length→Pv i σ H→SqL K H a xs)
    (hs:∀i x σ H,xs[i]? = some x→Pv i σ H→g x σ H fun σ2 H2=>tb { D with nx:=Pv (i+1),ct:=Pv (i+1),bk:=D.nx } σ2 H2) (hd:∀σ H,Pv xs.length σ H→D.nx σ H) :
    ∃W:Nat→Nat→St→Hp→Prop,(∃m,W 0 m σ H)∧∀i m σ H,W i m σ H→
      ((Itl K a).stop i H∧D.nx σ H)∨((Itl K a).go i H∧∃N:St→Hp→Prop,(∀σ' H',N σ' H'→∃m',m' < m∧W (i+1) m' σ' H')∧∀x H',(Itl K a).yld i H x H'→g x σ H' fun σ2 H2=>tb { D with nx:=N,ct:=N,bk:=D.nx } σ2 H2):=by
  refine⟨fun i m σ H=>m=xs.length - i∧i≤xs.length∧Pv i σ H,⟨xs.length,by simp,Nat.zero_le _,h0⟩,?_⟩
  rintro i m σ H ⟨rfl,hi,p⟩
  have q:=hl i σ H hi p
  by_cases hlt:i < xs.length
  · refine .inr ⟨⟨xs,xs[i],q,by simp[hlt]⟩,Pv (i+1),fun σ' H' p'=>⟨xs.length - (i+1),by omega,rfl,hlt,p'⟩,fun x H' y=>?_⟩
    obtain⟨e,y⟩:=y
    subst e
    exact hs i x σ _ (y xs q) p
  · have e:i=xs.length:=by omega
    subst e
    exact .inl ⟨⟨xs,q,Nat.le_refl _⟩,hd σ H p⟩
theorem for_range{lo:Int}{n:Nat}{g:TG}{tb:TS}{D:Ends}{σ:St}{H:Hp}(Pv:Nat→St→Hp→Prop)(h0:Pv 0 σ H)
    (hs:∀i σ H,i < n→Pv i σ H→g (.int (lo+i)) σ H fun σ2 H2=>tb { D with nx:=Pv (i+1),ct:=Pv (i+1),bk:=D.nx } σ2 H2) (hd:∀σ H,Pv n σ H→D.nx σ H) :
    ∃W:Nat→Nat→St→Hp→Prop,(∃m,W 0 m σ H)∧∀i m σ H,W i m σ H→
      ((Itr lo n).stop i H∧D.nx σ H)∨((Itr lo n).go i H∧∃N:St→Hp→Prop,(∀σ' H',N σ' H'→∃m',m' < m∧W (i+1) m' σ' H')∧∀x H',(Itr lo n).yld i H x H'→g x σ H' fun σ2 H2=>tb { D with nx:=N,ct:=N,bk:=D.nx } σ2 H2):=by
  refine⟨fun i m σ H=>m=n - i∧i≤n∧Pv i σ H,⟨n,by simp,Nat.zero_le _,h0⟩,?_⟩
  rintro i m σ H ⟨rfl,hi,p⟩
  by_cases hlt:i < n
  · refine .inr ⟨hlt,Pv (i+1),fun σ' H' p'=>⟨n - (i+1),by omega,rfl,hlt,p'⟩,fun x H' y=>?_⟩
    obtain⟨e,y⟩:=y
    subst e y
    exact hs i σ _ hlt p
  · have e:i=n:=by omega
    subst e
    exact .inl ⟨Nat.le_refl _,hd σ H p⟩
end L2
namespace L2
open PySem PySem.Spec PyProof.Rows
abbrev R2:=V→V→Hp→VK→Prop
def OpR(X:Cx)(f:Value→Value→Sem Value)(r:R2):Prop:=
  ∀(pins:List (Addr × Obj)) (s:Shared) (σ:St) (H:Hp) (x y:V) (v u:Value) (Q:VK),Inv X pins σ H s→RelV x v→RelV y u→r x y H Q→
    wpAny (model X.prog X.w) X.A (f v u) (EP X pins σ Q) X.xe s
def UnR(X:Cx)(f:Value→Sem Value)(r:V→Hp→VK→Prop):Prop:=
  ∀(pins:List (Addr × Obj)) (s:Shared) (σ:St) (H:Hp) (x:V) (v:Value) (Q:VK),Inv X pins σ H s→RelV x v→r x H Q→
    wpAny (model X.prog X.w) X.A (f v) (EP X pins σ Q) X.xe s
def CallR(X:Cx)(f:Value)(r:List V→Hp→VK→Prop):Prop:=
  ∀(pins:List (Addr × Obj)) (s:Shared) (σ:St) (H:Hp) (xs:List V) (us:List Value) (Q:VK),Inv X pins σ H s→Vals xs us→r xs H Q→
    wpAny (model X.prog X.w) X.A (call f us) (EP X pins σ Q) X.xe s
def tOp(r:R2)(ta tb:TE):TE:=fun σ H Q=>ta σ H fun x H1=>tb σ H1 fun y H2=>r x y H2 Q
def tUn(r:V→Hp→VK→Prop)(ta:TE):TE:=fun σ H Q=>ta σ H fun x H1=>r x H1 Q
def rI(C:Int→Int→Prop)(g:Int→Int→V):R2:=fun x y H Q=>∃i j,x=.int i∧y=.int j∧C i j∧Q (g i j) H
def rI0(g:Int→Int→V):R2:=fun x y H Q=>∃i j,x=.int i∧y=.int j∧Q (g i j) H
def rU(g:Int→V):V→Hp→VK→Prop:=fun x H Q=>∃i,x=.int i∧Q (g i) H
section
variable{X:Cx}{a b c:Expr}{ta tb tc:TE}{pos:Pos}
theorem binT(ha:PE X a ta)(hb:PE X b tb){pins:List (Addr × Obj)}{s:Shared}{σ:St}{H:Hp}{R:V→V→Hp→Prop}(I:Inv X pins σ H s)
    (h:ta σ H fun x H1=>tb σ H1 fun y H2=>R x y H2) {Q:Value→Shared→Prop} {f:Value→Value→Sem Value}
    (hf:∀v u s2 x y H2,Inv X pins σ H2 s2→RelV x v→RelV y u→R x y H2→wpAny (model X.prog X.w) X.A (f v u) Q X.xe s2) :
    wpAny (model X.prog X.w) X.A (eval a X.env) (fun v s₁=>wpAny (model X.prog X.w) X.A (eval b X.env) (fun u s₂=>wpAny (model X.prog X.w) X.A (f v u) Q X.xe s₂) X.xe s₁) X.xe s:=by
  refine thn (ha pins s σ H _ I h) fun v s1 ⟨x,H1,I1,r1,q1⟩=>?_
  refine thn (hb pins s1 σ H1 _ I1 q1) fun u s2 ⟨y,H2,I2,r2,q2⟩=>?_
  exact hf v u s2 x y H2 I2 r1 r2 q2
theorem b0c{op:Operator}{r:R2}(ho:OpR X (binaryOp op) r)(ha:PE X a ta)(hb:PE X b tb):PE X (.BinOp a op b pos) (tOp r ta tb):=by
  intro pins s σ H Q I h
  exact wpAny_BinOp (binT ha hb I h fun v u s2 x y H2 I2 rx ry q=>ho pins s2 σ H2 x y v u Q I2 rx ry q)
theorem pe_un{op:UnaryOp}{r:V→Hp→VK→Prop}(ho:UnR X (unaryOp op) r)(ha:PE X a ta):PE X (.UnaryOp op a pos) (tUn r ta):=by
  intro pins s σ H Q I h
  exact UnaryOp_ (thn (ha pins s σ H _ I h) fun v s1 ⟨x,H1,I1,r1,q1⟩=>ho pins s1 σ H1 x v Q I1 r1 q1)
theorem opI{f:Value→Value→Sem Value}{C:Int→Int→Prop}{g:Int→Int→Int}
    (rule:∀(i j:Int) (t u:Tok) (s:Shared) (Q:Value→Shared→Prop) (E:Value→Shared→Prop),C i j→Q (.int (g i j) s.toks) { s with toks:=s.toks+1 }→wpAny (model X.prog X.w) X.A (f (.int i t) (.int j u)) Q E s) :
    OpR X f (rI C fun i j=>.int (g i j)):=by
  intro pins s σ H x y v u Q I rx ry h
  obtain⟨i,j,rfl,rfl,hc,q⟩:=h
  obtain⟨t,rfl⟩:=rx
  obtain⟨t',rfl⟩:=ry
  exact rule i j t t' s _ _ hc ⟨.int (g i j),H,I.tok _,⟨_,rfl⟩,q⟩
theorem opI0{f:Value→Value→Sem Value}{g:Int→Int→Int}
    (rule:∀(i j:Int) (t u:Tok) (s:Shared) (Q:Value→Shared→Prop) (E:Value→Shared→Prop),Q (.int (g i j) s.toks) { s with toks:=s.toks+1 }→wpAny (model X.prog X.w) X.A (f (.int i t) (.int j u)) Q E s) :
    OpR X f (rI0 fun i j=>.int (g i j)):=by
  intro pins s σ H x y v u Q I rx ry h
  obtain⟨i,j,rfl,rfl,q⟩:=h
  obtain⟨t,rfl⟩:=rx
  obtain⟨t',rfl⟩:=ry
  exact rule i j t t' s _ _ ⟨.int (g i j),H,I.tok _,⟨_,rfl⟩,q⟩
theorem opB0{f:Value→Value→Sem Value}{g:Int→Int→Bool}
    (rule:∀(i j:Int) (t u:Tok) (s:Shared) (Q:Value→Shared→Prop) (E:Value→Shared→Prop),Q (.bool (g i j)) s→wpAny (model X.prog X.w) X.A (f (.int i t) (.int j u)) Q E s) :
    OpR X f (rI0 fun i j=>.bl (g i j)):=by
  intro pins s σ H x y v u Q I rx ry h
  obtain⟨i,j,rfl,rfl,q⟩:=h
  obtain⟨t,rfl⟩:=rx
  obtain⟨t',rfl⟩:=ry
  exact rule i j t t' s _ _ ⟨.bl (g i j),H,I,rfl,q⟩
def CPow(i j:Int):Prop:=0≤j∧j≤1000000∧i.natAbs < 2 ^ 64
def CMul(i j:Int):Prop:=(-(2 ^ 64) < i∧i < 2 ^ 64)∨(-(2 ^ 64) < j∧j < 2 ^ 64)
theorem CMul.ok{i j:Int}(h:CMul i j):IntMulOk i j:=by
  rcases h with ⟨h1,h2⟩ | ⟨h1,h2⟩
  · exact .of_left (intBits_le_64 h1 h2)
  · exact .of_right (intBits_le_64 h1 h2)
theorem c0w:OpR X (binaryOp .Add) (rI0 fun i j=>.int (i+j)):=opI0 fun _ _ _ _ _ _ _ q=>add_int q
theorem i0u:OpR X (binaryOp .Mult) (rI CMul fun i j=>.int (i * j)):=opI fun _ _ _ _ _ _ _ hc q=>mul_int q hc.ok
theorem c0q:OpR X (binaryOp .Mod) (rI (fun _ j=>j≠0) fun i j=>.int (i.fmod j)):=opI fun _ _ _ _ _ _ _ hc q=>mod_int' hc q
theorem e0v:OpR X (binaryOp .Pow) (rI CPow fun i j=>.int (i ^ j.toNat)):=opI fun _ _ _ _ _ _ _ hc q=>pow_int_small hc.1 hc.2.1 hc.2.2 q
theorem unI{f:Value→Sem Value}{g:Int→Int}
    (rule:∀(i:Int) (t:Tok) (s:Shared) (Q:Value→Shared→Prop) (E:Value→Shared→Prop),Q (.int (g i) s.toks) { s with toks:=s.toks+1 }→wpAny (model X.prog X.w) X.A (f (.int i t)) Q E s) :
    UnR X f (rU fun i=>.int (g i)):=by
  intro pins s σ H x v Q I rx h
  obtain⟨i,rfl,q⟩:=h
  obtain⟨t,rfl⟩:=rx
  exact rule i t s _ _ ⟨.int (g i),H,I.tok _,⟨_,rfl⟩,q⟩
theorem un_neg:UnR X (unaryOp .USub) (rU fun i=>.int (-i)):=unI fun _ _ _ _ _ q=>neg_int q
end
def scal:V→V→Bool
  | .non,.non=>true | .non,.int _=>true | .int _,.non=>true | .non,.bl _=>true | .bl _,.non=>true | .non,.str _=>true | .str _,.non=>true
  | .int _,.int _=>true | .bl _,.bl _=>true | .str _,.str _=>true | .byt _,.byt _=>true
  | .int _,.str _=>true | .str _,.int _=>true | .bl _,.str _=>true | .str _,.bl _=>true
  | _,_=>false
def rEq:R2:=fun x y H Q=>scal x y=true∧Q (.bl (decide (x=y))) H
def rNe:R2:=fun x y H Q=>scal x y=true∧Q (.bl (!decide (x=y))) H
theorem dec_int{i j:Int}:decide (V.int i=V.int j)=(i == j):=by
  rw[Bool.eq_iff_iff]
  simp
theorem dec_bl{i j:Bool}:decide (V.bl i=V.bl j)=(i == j):=by
  rw[Bool.eq_iff_iff]
  simp
theorem dec_str{i j:Str}:decide (V.str i=V.str j)=(i == j):=by
  rw[Bool.eq_iff_iff]
  simp
theorem dec_byt{i j:Array UInt8}:decide (V.byt i=V.byt j)=(i.toList == j.toList):=by
  rw[Bool.eq_iff_iff]
  cases i
  cases j
  simp
section
variable{X:Cx}{a b c:Expr}{ta tb tc:TE}{pos:Pos}
theorem b0h{pins:List (Addr × Obj)}{σ:St}{H:Hp}{s:Shared}{Q:VK}{k k':Bool}(I:Inv X pins σ H s)(q:Q (.bl k) H)(e:k=k'):EP X pins σ Q (.bool k') s:=by
  subst e
  exact⟨.bl k,H,I,rfl,q⟩
theorem b0j:OpR X (compareOp .Eq) rEq:=by
  intro pins s σ H x y v u Q I rx ry h
  obtain⟨hs,q⟩:=h
  cases x with
  | non=>
    cases rx
    cases y with
    | non=>cases ry;exact PySem.EqNone.eq_none_none (b0h I q (by simp))
    | bl j=>cases ry;exact PySem.EqNone.eq_none_bool (b0h I q (by simp))
    | int j=>obtain⟨t',rfl⟩:=ry;exact PySem.EqNone.eq_none_int (b0h I q (by simp))
    | str j=>obtain⟨t',rfl⟩:=ry;exact PySem.EqNone.eq_none_str (b0h I q (by simp))
    | _=>exact absurd (show false=true from hs) Bool.false_ne_true
  | bl i=>
    cases rx
    cases y with
    | non=>cases ry;exact PySem.EqNone.eq_bool_none (b0h I q (by simp))
    | bl j=>cases ry;exact eq_bool (b0h I q dec_bl)
    | str j=>obtain⟨t',rfl⟩:=ry;exact PySem.EqMixed.eq_bool_str (b0h I q (by simp))
    | _=>exact absurd (show false=true from hs) Bool.false_ne_true
  | int i=>
    obtain⟨t,rfl⟩:=rx
    cases y with
    | non=>cases ry;exact PySem.EqNone.eq_int_none (b0h I q (by simp))
    | int j=>obtain⟨t',rfl⟩:=ry;exact eq_int (b0h I q dec_int)
    | str j=>obtain⟨t',rfl⟩:=ry;exact PySem.EqMixed.eq_int_str (b0h I q (by simp))
    | _=>exact absurd (show false=true from hs) Bool.false_ne_true
  | str i=>
    obtain⟨t,rfl⟩:=rx
    cases y with
    | non=>cases ry;exact PySem.EqNone.eq_str_none (b0h I q (by simp))
    | bl j=>cases ry;exact PySem.EqMixed.eq_str_bool (b0h I q (by simp))
    | int j=>obtain⟨t',rfl⟩:=ry;exact PySem.EqMixed.eq_str_int (b0h I q (by simp))
    | str j=>obtain⟨t',rfl⟩:=ry;exact eq_str (b0h I q dec_str)
    | _=>exact absurd (show false=true from hs) Bool.false_ne_true
  | byt i=>
    obtain⟨t,rfl⟩:=rx
    cases y with
    | byt j=>obtain⟨t',rfl⟩:=ry;exact PySem.W.eq_bytes (b0h I q dec_byt)
    | _=>exact absurd (show false=true from hs) Bool.false_ne_true
  | _=>cases y <;>exact absurd (show false=true from hs) Bool.false_ne_true
theorem e0f:OpR X (compareOp .NotEq) rNe:=by
  intro pins s σ H x y v u Q I rx ry h
  obtain⟨hs,q⟩:=h
  cases x with
  | non=>
    cases rx
    cases y with
    | non=>cases ry;exact PySem.EqNone.ne_none_none (b0h I q (by simp))
    | bl j=>cases ry;exact PySem.EqNone.ne_none_bool (b0h I q (by simp))
    | int j=>obtain⟨t',rfl⟩:=ry;exact PySem.EqNone.ne_none_int (b0h I q (by simp))
    | str j=>obtain⟨t',rfl⟩:=ry;exact PySem.EqNone.ne_none_str (b0h I q (by simp))
    | _=>exact absurd (show false=true from hs) Bool.false_ne_true
  | bl i=>
    cases rx
    cases y with
    | non=>cases ry;exact PySem.EqNone.ne_bool_none (b0h I q (by simp))
    | bl j=>cases ry;exact ne_bool (b0h I q (congrArg not dec_bl))
    | str j=>obtain⟨t',rfl⟩:=ry;exact PySem.EqMixed.ne_bool_str (b0h I q (by simp))
    | _=>exact absurd (show false=true from hs) Bool.false_ne_true
  | int i=>
    obtain⟨t,rfl⟩:=rx
    cases y with
    | non=>cases ry;exact PySem.EqNone.ne_int_none (b0h I q (by simp))
    | int j=>obtain⟨t',rfl⟩:=ry;exact ne_int (b0h I q (congrArg not dec_int))
    | str j=>obtain⟨t',rfl⟩:=ry;exact PySem.EqMixed.ne_int_str (b0h I q (by simp))
    | _=>exact absurd (show false=true from hs) Bool.false_ne_true
  | str i=>
    obtain⟨t,rfl⟩:=rx
    cases y with
    | non=>cases ry;exact PySem.EqNone.ne_str_none (b0h I q (by simp))
    | bl j=>cases ry;exact PySem.EqMixed.ne_str_bool (b0h I q (by simp))
    | int j=>obtain⟨t',rfl⟩:=ry;exact PySem.EqMixed.ne_str_int (b0h I q (by simp))
    | str j=>obtain⟨t',rfl⟩:=ry;exact ne_str (b0h I q (congrArg not dec_str))
    | _=>exact absurd (show false=true from hs) Bool.false_ne_true
  | byt i=>
    obtain⟨t,rfl⟩:=rx
    cases y with
    | byt j=>obtain⟨t',rfl⟩:=ry;exact PySem.W.ne_bytes (b0h I q (congrArg not dec_byt))
    | _=>exact absurd (show false=true from hs) Bool.false_ne_true
  | _=>cases y <;>exact absurd (show false=true from hs) Bool.false_ne_true
theorem op_lt:OpR X (compareOp .Lt) (rI0 fun i j=>.bl (decide (i < j))):=opB0 fun _ _ _ _ _ _ _ q=>lt_int q
theorem op_le:OpR X (compareOp .LtE) (rI0 fun i j=>.bl (decide (i≤j))):=opB0 fun _ _ _ _ _ _ _ q=>le_int q
theorem j0p:OpR X (compareOp .Gt) (rI0 fun i j=>.bl (decide (j < i))):=opB0 fun _ _ _ _ _ _ _ q=>gt_int q
theorem f0s:OpR X (compareOp .In) (fun x y H Q=>∃i j,x=.str i∧y=.str j∧Q (.bl (!(Builtin.Str.occurrences j i 0 j.length 1).isEmpty)) H):=by
  intro pins s σ H x y v u Q I rx ry h
  obtain⟨i,j,rfl,rfl,q⟩:=h
  obtain⟨t,rfl⟩:=rx
  obtain⟨t',rfl⟩:=ry
  exact in_str (b0h I q rfl)
theorem op_isN:OpR X (compareOp .Is) (fun x y H Q=>y=.non∧Q (.bl (decide (x=.non))) H):=by
  intro pins s σ H x y v u Q I rx ry h
  obtain⟨rfl,q⟩:=h
  cases ry
  refine is_none_gen (b0h I q ?_)
  cases x <;>first
    | (cases rx;rfl)
    | (obtain⟨t,rfl⟩:=rx;rfl)
theorem OpR.or{f:Value→Value→Sem Value}{r r':R2}(h:OpR X f r)(h':OpR X f r'):OpR X f (fun x y H Q=>r x y H Q∨r' x y H Q):=by
  intro pins s σ H x y v u Q I rx ry q
  rcases q with q | q
  · exact h pins s σ H x y v u Q I rx ry q
  · exact h' pins s σ H x y v u Q I rx ry q
theorem a0l(b:Expr){op:CmpOp}(h:op≠.In:=by decide)(h2:op≠.NotIn:=by decide):behindInMarks op b=false:=by
  have e1:(op == CmpOp.In)=false:=by cases op <;>first | rfl | exact absurd rfl h
  have e2:(op == CmpOp.NotIn)=false:=by cases op <;>first | rfl | exact absurd rfl h2
  cases b <;>simp[behindInMarks,e1,e2]
theorem c0p{op:CmpOp}{r:R2}(ho:OpR X (compareOp op) r)(ha:PE X a ta)(hb:PE X b tb)(hm:behindInMarks op b=false):PE X (.Compare a [op] [b] pos) (tOp r ta tb):=by
  intro pins s σ H Q I h
  exact wpAny_Compare1 (binT ha hb I h fun v u s2 x y H2 I2 rx ry q=>ho pins s2 σ H2 x y v u Q I2 rx ry q) hm
def tTest(t:TE):TT:=fun σ H Q=>t σ H fun x H'=>∃k,x=.bl k∧Q k H'
theorem a0j{op:CmpOp}{r:R2}(ho:OpR X (compareOp op) r)(ha:PE X a ta)(hb:PE X b tb)(hm:behindInMarks op b=false):PT X (.Compare a [op] [b] pos) (tTest (tOp r ta tb)):=by
  intro pins s σ H Q I h
  refine wpAny_isTrue_Compare1 (thn (ha pins s σ H _ I h) fun v s1 ⟨x,H1,I1,r1,q1⟩=>thn (hb pins s1 σ H1 _ I1 q1) fun u s2 ⟨y,H2,I2,r2,q2⟩=>
    thn (ho pins s2 σ H2 x y v u _ I2 r1 r2 q2) fun c s3 ⟨z,H3,I3,r3,k,e,q3⟩=>?_) hm
  subst e
  cases r3
  exact wpAny_truthy_bool ⟨H3,I3,q3⟩
def tChain(r r':R2)(ta tb tc:TE):TE:=fun σ H Q=>ta σ H fun x H1=>tb σ H1 fun y H2=>r x y H2 fun z H3=>∃k,z=.bl k∧
  (if k=true then tc σ H3 fun w' H4=>r' y w' H4 Q else Q (.bl false) H3)
theorem pe_chain{op op':CmpOp}{r r':R2}(ho:OpR X (compareOp op) r)(ho':OpR X (compareOp op') r')(ha:PE X a ta)(hb:PE X b tb)(hc:PE X c tc)
    (hm:lastMarks [op,op'] [b,c]=false:=by with_unfolding_all rfl):PE X (.Compare a [op,op'] [b,c] pos) (tChain r r' ta tb tc):=by
  intro pins s σ H Q I h
  refine Compare_chain (thn (ha pins s σ H _ I h) fun v s1 ⟨x,H1,I1,r1,q1⟩=>chain_link (thn (hb pins s1 σ H1 _ I1 q1) fun u s2 ⟨y,H2,I2,r2,q2⟩=>
    thn (ho pins s2 σ H2 x y v u _ I2 r1 r2 q2) fun d s3 ⟨z,H3,I3,r3,k,e,q3⟩=>?_)) hm
  subst e
  cases r3
  refine wpAny_truthy_bool ?_
  cases k with
  | false=>exact ite_ff ⟨.bl false,H3,I3,rfl,q3⟩
  | true=>exact ite_tt (chain_last (thn (hc pins s3 σ H3 _ I3 q3) fun w' s4 ⟨z',H4,I4,r4,q4⟩=>ho' pins s4 σ H4 y z' u w' Q I4 r2 r4 q4))
theorem pt_chain{op op':CmpOp}{r r':R2}(ho:OpR X (compareOp op) r)(ho':OpR X (compareOp op') r')(ha:PE X a ta)(hb:PE X b tb)(hc:PE X c tc)
    (hm:lastMarks [op,op'] [b,c]=false:=by with_unfolding_all rfl):PT X (.Compare a [op,op'] [b,c] pos) (tTest (tChain r r' ta tb tc)):=by
  intro pins s σ H Q I h
  refine isTrue_chain (thn (ha pins s σ H _ I h) fun v s1 ⟨x,H1,I1,r1,q1⟩=>test_link (thn (hb pins s1 σ H1 _ I1 q1) fun u s2 ⟨y,H2,I2,r2,q2⟩=>
    thn (ho pins s2 σ H2 x y v u _ I2 r1 r2 q2) fun d s3 ⟨z,H3,I3,r3,k,e,q3⟩=>?_)) hm
  subst e
  cases r3
  refine wpAny_truthy_bool ?_
  cases k with
  | false=>
    obtain⟨k',e',q'⟩:=q3
    cases e'
    exact ite_ff ⟨H3,I3,q'⟩
  | true=>
    refine ite_tt (test_last (thn (hc pins s3 σ H3 _ I3 q3) fun w' s4 ⟨z',H4,I4,r4,q4⟩=>thn (ho' pins s4 σ H4 y z' u w' _ I4 r2 r4 q4) fun d' s5 ⟨z2,H5,I5,r5,k2,e2,q5⟩=>?_))
    subst e2
    cases r5
    exact wpAny_truthy_bool ⟨H5,I5,q5⟩
theorem i0w:(sizeLine:Nat) < 2 ^ 63:=by rw[sizeLine_eq];decide
theorem c0h:OpR X (binaryOp .Add) (fun x y H Q=>∃i j,x=.str i∧y=.str j∧i.length+j.length≤sizeLine∧Q (.str (i++j)) H):=by
  intro pins s σ H x y v u Q I rx ry h
  obtain⟨i,j,rfl,rfl,hz,q⟩:=h
  obtain⟨t,rfl⟩:=rx
  obtain⟨t',rfl⟩:=ry
  exact add_str (fun t' tk=>⟨.str (i++j),H,I.tok _,⟨_,rfl⟩,q⟩) hz
theorem vals1{x:V}{us:List Value}(r:Vals [x] us):∃u,us=[u]∧RelV x u:=by
  cases r with
  | cons r1 r2=>cases r2;exact⟨_,rfl,r1⟩
theorem vals2{x y:V}{us:List Value}(r:Vals [x,y] us):∃u w',us=[u,w']∧RelV x u∧RelV y w':=by
  cases r with
  | cons r1 r2=>
    cases r2 with
    | cons r3 r4=>cases r4;exact⟨_,_,rfl,r1,r3⟩
theorem k0m:CallR X (.builtin "abs") (fun xs H Q=>∃i,xs=[.int i]∧Q (.int (if i < 0 then -i else i)) H):=by
  intro pins s σ H xs us Q I r h
  obtain⟨i,rfl,q⟩:=h
  obtain⟨u,rfl,t,rfl⟩:=vals1 r
  exact call_abs_int fun u tk=>⟨.int (if i < 0 then -i else i),H,I.tok _,⟨_,rfl⟩,q⟩
theorem call_max2(hc:X.calm=true):CallR X (.builtin "max") (fun xs H Q=>∃i j,xs=[.int i,.int j]∧Q (.int (if j > i then j else i)) H):=by
  intro pins s σ H xs us Q I r h
  obtain⟨i,j,rfl,q⟩:=h
  obtain⟨u,w',rfl,⟨t,rfl⟩,⟨t',rfl⟩⟩:=vals2 r
  refine max_two_ints (I.ok.hd hc) fun h' tk k=>⟨_,H,I.kept k,?_,q⟩
  by_cases hj:j > i
  · rw[if_pos hj,if_pos hj];exact⟨_,rfl⟩
  · rw[if_neg hj,if_neg hj];exact⟨_,rfl⟩
theorem call_min2(hc:X.calm=true):CallR X (.builtin "min") (fun xs H Q=>∃i j,xs=[.int i,.int j]∧Q (.int (if j < i then j else i)) H):=by
  intro pins s σ H xs us Q I r h
  obtain⟨i,j,rfl,q⟩:=h
  obtain⟨u,w',rfl,⟨t,rfl⟩,⟨t',rfl⟩⟩:=vals2 r
  refine min_two_ints (I.ok.hd hc) fun h' tk k=>⟨_,H,I.kept k,?_,q⟩
  by_cases hj:j < i
  · rw[if_pos hj,if_pos hj];exact⟨_,rfl⟩
  · rw[if_neg hj,if_neg hj];exact⟨_,rfl⟩
theorem g0f:CallR X (.type "int") (fun xs H Q=>(∃i,xs=[.int i]∧Q (.int i) H)∨∃k,xs=[.bl k]∧Q (.int (if k then 1 else 0)) H):=by
  intro pins s σ H xs us Q I r h
  rcases h with ⟨i,rfl,q⟩ | ⟨k,rfl,q⟩
  · obtain⟨u,rfl,t,rfl⟩:=vals1 r
    exact call_int_int ⟨.int i,H,I,⟨_,rfl⟩,q⟩
  · obtain⟨u,rfl,r1⟩:=vals1 r
    cases r1
    exact call_int_bool ⟨.int (if k then 1 else 0),H,I.tok _,⟨_,rfl⟩,q⟩
theorem d0e:CallR X (.type "str") (fun xs H Q=>∃i,xs=[.int i]∧i.natAbs.log2 < 1920∧Q (.str (toString i)) H):=by
  intro pins s σ H xs us Q I r h
  obtain⟨i,rfl,hz,q⟩:=h
  obtain⟨u,rfl,t,rfl⟩:=vals1 r
  exact PySem.P.str_of_int hz ⟨.str _,H,I.tok _,⟨_,rfl⟩,q⟩
def LenV(K:PySem.W.Frag)(x:V)(H:Hp)(n:Nat):Prop:=
  match x with
  | .str y=>y.length≤sizeLine∧n=y.length
  | .byt y=>y.size≤sizeLine∧n=y.size
  | .ref p=>(∃xs,SqL K H p xs∧n=xs.length)∨∃xs,SqT K H p xs∧n=xs.length
  | _=>False
theorem a0v:CallR X (.builtin "len") (fun xs H Q=>∃x n,xs=[x]∧LenV X.K x H n∧Q (.int n) H):=by
  intro pins s σ H xs us Q I r h
  obtain⟨x,n,rfl,e,q⟩:=h
  obtain⟨u,rfl,rx⟩:=vals1 r
  have hl:=i0w
  have hs:sizeLine=16777216:=sizeLine_eq
  cases x with
  | str y=>
    obtain⟨t,rfl⟩:=rx
    obtain⟨hy,e'⟩:y.length≤sizeLine∧n=y.length:=e
    subst e'
    exact len_str (by omega) ⟨.int _,H,I.tok _,⟨_,rfl⟩,q⟩
  | byt y=>
    obtain⟨t,rfl⟩:=rx
    obtain⟨hy,e'⟩:y.size≤sizeLine∧n=y.size:=e
    subst e'
    exact PySem.W.len_bytes (by omega) ⟨.int _,H,I.tok _,⟨_,rfl⟩,q⟩
  | ref p=>
    cases rx
    have e':(∃xs,SqL X.K H p xs∧n=xs.length)∨∃xs,SqT X.K H p xs∧n=xs.length:=e
    rcases e' with ⟨xs,hx,e'⟩ | ⟨xs,hx,e'⟩
    · subst e'
      obtain⟨its,r',pl,hz⟩:=I.list hx
      have hlen:=r'.length
      exact Calls.call_len_list pl.isList (by simp only[List.size_toArray];omega) ⟨.int xs.length,H,I.tok _,⟨_,by simp only[List.size_toArray];rw[hlen]⟩,q⟩
    · subst e'
      obtain⟨its,r',pl,hz⟩:=I.tuple hx
      have hlen:=r'.length
      exact len_tuple pl (by simp only[List.size_toArray];omega) ⟨.int xs.length,H,I.tok _,⟨_,by simp only[List.size_toArray];rw[hlen]⟩,q⟩
  | _=>exact(show False from e).elim
end
end L2
namespace L2
open PySem PySem.Spec PyProof.Rows
structure ObjM(h:Heap)(x dx C:Addr)(mA:Str→Option Value):Prop where
  obj:h.get? x=some (PySem.W.instObj C dx)
  ns:h.Ns1 dx mA
  ne:dx≠x
theorem lookIn_ns{h:Heap}{dx:Addr}{mA:Str→Option Value}(n:h.Ns1 dx mA):∃od,h.get? dx=some od∧∀name,PySem.W.lookIn name od=some (mA name):=by
  obtain⟨o,es,ep,ho,hd,hk,_,hm⟩:=n
  refine⟨o,ho,fun name=>?_⟩
  have e:=hm name
  unfold nsFind findBy at e
  rw[← Array.find?_toList]at e
  unfold PySem.W.lookIn
  rw[hd]
  dsimp only
  split
  · rename_i y q
    rw[q]at e
    exact congrArg some e
  · rename_i q
    rw[q]at e
    have a:es.toList.any (·.refKey)=false:=by
      rw[List.any_eq_false]
      intro y hy
      obtain⟨z,t,hkey⟩:=hk y (Array.mem_toList_iff.mp hy)
      simp[DictEntry.refKey,hkey]
    have a':¬es.toList.any (·.refKey)=true:=by rw[a];exact Bool.false_ne_true
    rw[if_neg a']
    exact congrArg some e
theorem ObjM.look{h:Heap}{x dx C:Addr}{mA:Str→Option Value}(I:ObjM h x dx C mA):∃od,PySem.W.InstAt h x (PySem.W.instObj C dx) C (some od)∧∀name,PySem.W.lookIn name od=some (mA name):=
  let⟨od,ho,hl⟩:=lookIn_ns I.ns
  ⟨od,⟨I.obj,rfl,rfl,ho⟩,hl⟩
section
variable{prog:Program}{w:World}{A:Around}{E:Value→Shared→Prop}{s:Shared}{K:PySem.W.Frag}{x dx C f:Addr}{mA:Str→Option Value}{name:Str}{v:Value}
theorem get_map{expr:Bool}{Q:Value→Shared→Prop}(X:K.In s.heap)(I:ObjM s.heap x dx C mA)(hg:PySem.W.plainGet K C name=true)(hh:PySem.W.hasDictIn K C=true)
    (ha:PySem.W.findIn K (.ref C) name=some none) (hv:mA name=some v) (hv':PySem.W.handedIn v=true) (h:Q v { s with toks:=s.toks+1 }) :
    wpAny (model prog w) A (getAttr (.ref x) name expr) Q E s:=by
  obtain⟨od,J,hl⟩:=I.look
  exact PySem.W.get_value X J (PySem.W.plainGet_of hg).1 (PySem.W.findObj_own hh ha rfl (by rw[hl,hv])) hv' h
theorem get_meth{pl:Sem Bool}{Q:Value × List Value→Shared→Prop}(X:K.In s.heap)(I:ObjM s.heap x dx C mA)(hg:PySem.W.plainGet K C name=true)
    (hf:PySem.W.findIn K (.ref C) name=some (some (.ref f))) (ht:PySem.W.isFn K (.ref f)=true) (hv:mA name=none) (h:Q (.ref f,[.ref x]) s) :
    wpAny (model prog w) A (getMethod (.ref x) name pl) Q E s:=by
  obtain⟨od,J,hl⟩:=I.look
  exact PySem.W.method_fn X J (PySem.W.plainGet_of hg).1 (PySem.W.plainGet_of hg).2 hf (beq_iff_eq.mp ht) (by show(PySem.W.lookIn name od).map (·.isSome)=some false;rw[hl,hv];rfl) h
theorem set_map{ns:List Str}{Q:Unit→Shared→Prop}(X:K.In s.heap)(I:ObjM s.heap x dx C mA)
    (hs:PySem.W.findIn K (.ref C) "__setattr__"=some (some (.builtin "object.__setattr__"))) (hp:PySem.W.plainOver K C=true) (ht:PySem.W.takerIn K C name=some none) (hh:PySem.W.hasDictIn K C=true)
    (hw:PySem.Within mA ns) (hsz:ns.length≤sizeLine)
    (h:∀h',ObjM h' x dx C (fun y=>if y=name then some v else mA y)→Heap.SameBut dx s.heap h'→Q () { s with heap:=h',toks:=s.toks+2 }) :
    wpAny (model prog w) A (setAttr (.ref x) name v) Q E s:=by
  obtain⟨od,J,hl⟩:=I.look
  refine PySem.W.set_plain X J hs (PySem.W.osa_open (s:={ s with toks:=s.toks+1 }) (r:=none) X J hp ht fun b=>?_)
  obtain⟨cd,hc,hd'⟩:=PySem.W.any_some hh
  have hx:s.heap.get? x=some ⟨.ref C,some dx,.plain,#[]⟩:=I.obj
  refine wpAny_bind (wpAny_pure (wpAny_bind (wpAny_bind (wpAny_loadPart hx (wpAny_bind (PySem.W.Looks.here (s:={ s with toks:=s.toks+1 }) (PySem.W.looks_clsIn X hc) ?_))))))
  rw[hd']
  refine wpAny_pure (a:=some dx) (wpAny_bind (wpAny_pure (wpAny_bind ?_)))
  refine wpAny_nsSet1 (s:={ s with toks:=s.toks+1 }) I.ns fun h' hn2 hs2=>?_
  obtain⟨oD,esD,epD,hoD,hdD,hcD⟩:=hn2.count (PySem.Within.cons name v hw)
  refine wpAny_bind (wpAny_lookBehind hoD (by rw[hdD];exact pastItsLine_dict (Nat.le_trans hcD (by rw[List.length_cons];omega))) ?_)
  exact wpAny_pure (h _ ⟨(hs2.2 _ (Ne.symm I.ne)).trans I.obj,hn2,I.ne⟩ hs2)
theorem make_map{R:Result→Shared→Prop}{vs:List Value}{kw:List (Str × Value)}(X:K.In s.heap)(hm:PySem.W.makesIn K C=true)
    (hi:PySem.W.findIn K (.ref C) "__init__"=some (some (.ref f))) (hf:PySem.W.typeIn K (.ref f)=some (.type "function"))
    (h:codeAny (model prog w) (A.under (.builtin "type.__call__" ⟨.ref C::vs,kw⟩)) (.call (.ref f) ⟨.ref (s.heap.objs.size+1)::vs,kw⟩) (PySem.W.InitBack (s.heap.objs.size+1) R)
      { s with heap:=(s.heap.push PySem.W.emptyDict).push (PySem.W.instObj C s.heap.objs.size) }) :
    codeAny (model prog w) A (.call (.ref C) ⟨vs,kw⟩) R s:=by
  obtain⟨hh,g,d,t,os⟩:=s
  exact PySem.W.make_core (PySem.W.makes_of X hm) (PySem.W.looks_findIn X hi) (fun self=>PySem.W.bind_fn X self hf) (.inl rfl) h
theorem make_map0{R:Result→Shared→Prop}(X:K.In s.heap)(hm:PySem.W.makesIn K C=true)
    (hi:PySem.W.findIn K (.ref C) "__init__"=some (some (.builtin "object.__init__")))
    (hb:∀self,PySem.W.Looks (model prog w) s.heap (bindSpecial (.builtin "object.__init__") self) (.builtin "object.__init__",[self]))
    (h:codeAny (model prog w) (A.under (.builtin "type.__call__" ⟨[.ref C],[]⟩)) (.call (.builtin "object.__init__") ⟨[.ref (s.heap.objs.size+1)],[]⟩) (PySem.W.InitBack (s.heap.objs.size+1) R)
      { s with heap:=(s.heap.push PySem.W.emptyDict).push (PySem.W.instObj C s.heap.objs.size) }) :
    codeAny (model prog w) A (.call (.ref C) ⟨[],[]⟩) R s:=by
  obtain⟨hh,g,d,t,os⟩:=s
  exact PySem.W.make_core (PySem.W.makes_of X hm) (PySem.W.looks_findIn X hi) hb (.inr ⟨rfl,rfl⟩) h
end
def putF(f:Str)(v:V):List (Str × V)→List (Str × V)
  | []=>[(f,v)]
  | (g,x)::r=>if g=f then(g,v)::r else(g,x)::putF f v r
theorem f0h(f g:Str)(v:V):∀fs:List (Str × V),(putF f v fs).lookup g=if g=f then some v else fs.lookup g
  | []=>by
    show List.lookup g [(f,v)]=_
    by_cases h:g=f
    · have hb:(g == f)=true:=beq_iff_eq.mpr h
      simp only[List.lookup,hb,if_pos h]
    · have hb:(g == f)=false:=beq_eq_false_iff_ne.mpr h
      simp only[List.lookup,hb,if_neg h]
  | (k,x)::r=>by
    have ih:=f0h f g v r
    rw[show putF f v ((k,x)::r)=(if k=f then(k,v)::r else(k,x)::putF f v r)from rfl]
    by_cases hk:k=f
    · rw[if_pos hk]
      by_cases h:g=k
      · have hb:(g == k)=true:=beq_iff_eq.mpr h
        simp only[List.lookup,hb,if_pos (h.trans hk)]
      · have hb:(g == k)=false:=beq_eq_false_iff_ne.mpr h
        simp only[List.lookup,hb,if_neg (fun e:g=f=>h (e.trans hk.symm))]
    · rw[if_neg hk]
      by_cases h:g=k
      · have hb:(g == k)=true:=beq_iff_eq.mpr h
        simp only[List.lookup,hb,if_neg (fun e:g=f=>hk (h.symm.trans e))]
      · have hb:(g == k)=false:=beq_eq_false_iff_ne.mpr h
        simp only[List.lookup,hb]
        exact ih
theorem h0y(f:Str)(v:V):∀fs:List (Str × V),f∈(putF f v fs).map (·.1)∧∀g,g∈fs.map (·.1)→g∈(putF f v fs).map (·.1)
  | []=>⟨by simp[putF],fun g h=>by simp at h⟩
  | (k,x)::r=>by
    obtain⟨i1,i2⟩:=h0y f v r
    rw[show putF f v ((k,x)::r)=(if k=f then(k,v)::r else(k,x)::putF f v r)from rfl]
    by_cases hk:k=f
    · rw[if_pos hk]
      subst hk
      exact⟨by simp,fun g h=>by simpa using h⟩
    · rw[if_neg hk]
      refine⟨?_,fun g h=>?_⟩
      · rw[List.map_cons]
        exact List.mem_cons_of_mem _ i1
      · rw[List.map_cons]at h ⊢
        rcases List.mem_cons.mp h with e | e
        · exact List.mem_cons.mpr (.inl e)
        · exact List.mem_cons_of_mem _ (i2 g e)
theorem h0x(f:Str)(v:V):∀fs:List (Str × V),(putF f v fs).length≤fs.length+1
  | []=>by simp[putF]
  | (k,x)::r=>by
    have ih:=h0x f v r
    rw[show putF f v ((k,x)::r)=(if k=f then(k,v)::r else(k,x)::putF f v r)from rfl]
    by_cases hk:k=f
    · rw[if_pos hk,List.length_cons,List.length_cons];omega
    · rw[if_neg hk,List.length_cons,List.length_cons];omega
theorem RelO.some_of{v:V}{o:Option Value}(r:RelO (some v) o):∃u,o=some u∧RelV v u:=by
  cases o with
  | none=>exact(show False from r).elim
  | some u=>exact⟨u,rfl,r⟩
theorem RelO.none_of{o:Option Value}(r:RelO none o):o=none:=by
  cases o with
  | none=>rfl
  | some u=>exact(show False from r).elim
theorem handed_of{v:V}{u:Value}(r:RelV v u):PySem.W.handedIn u=true:=by
  cases v with
  | non=>cases (show u=Value.none from r);rfl
  | bl b=>cases (show u=Value.bool b from r);rfl
  | int i=>obtain⟨t,e⟩:=(show ∃t,u=Value.int i t from r);cases e;rfl
  | str x=>obtain⟨t,e⟩:=(show ∃t,u=Value.str x t from r);cases e;rfl
  | byt b=>obtain⟨t,e⟩:=(show ∃t,u=Value.bytes b t from r);cases e;rfl
  | flt b=>obtain⟨t,e⟩:=(show ∃t,u=Value.float b t from r);cases e;rfl
  | ref a=>cases (show u=Value.ref a from r);rfl
  | ty n=>cases (show u=Value.type n from r);rfl
section
variable{P:Program}{w:World}{H H':Hp}{h h':Heap}{a C dx:Addr}{fs fs':List (Str × V)}
theorem k0f(hok:HOk P w H h)(e:H a=some (.ins C dx fs)):∃mA,ObjM h a dx C mA∧(∀f,RelO (fs.lookup f) (mA f))∧PySem.Within mA (fs.map (·.1))∧fs.length≤1000∧H dx=some (.own a):=by
  obtain⟨d,z,ne,ob,mA,n,r,q⟩:=(show ObjOk P w H h a (.ins C dx fs)from hok a _ e)
  exact⟨mA,⟨ob,n,ne⟩,r,q,z,d⟩
end
structure Cls(K:PySem.W.Frag)(C:Addr):Prop where
  pg:PySem.W.plainGet K C Str.empty=true
  hd:PySem.W.hasDictIn K C=true
  po:PySem.W.plainOver K C=true
  sa:PySem.W.findIn K (.ref C) "__setattr__"=some (some (.builtin "object.__setattr__"))
theorem Cls.get{K:PySem.W.Frag}{C:Addr}(c:Cls K C)(f:Str):PySem.W.plainGet K C f=true:=c.pg
def NoAttr(K:PySem.W.Frag)(C:Addr)(f:Str):Prop:=PySem.W.findIn K (.ref C) f=some none
theorem NoAttr.taker{K:PySem.W.Frag}{C:Addr}{f:Str}(n:NoAttr K C f):PySem.W.takerIn K C f=some none:=by
  unfold PySem.W.takerIn
  rw[show PySem.W.findIn K (.ref C) f=some none from n]
  rfl
structure Con(K:PySem.W.Frag)(C:Addr)(f:Str)(v:V)(u:Value):Prop where
  at_:PySem.W.findIn K (.ref C) f=some (some u)
  rel:RelV v u
  get:PySem.W.specialIn K u "__get__"=some none
  cp:PySem.W.copiedNames.contains f=false
structure Meth(K:PySem.W.Frag)(C:Addr)(m:Str)(f:Addr):Prop where
  at_:PySem.W.findIn K (.ref C) m=some (some (.ref f))
  fn:PySem.W.isFn K (.ref f)=true
  kp:PySem.W.keepIn K (.ref f)=true
section
variable{X:Cx}{pins:List (Addr × Obj)}{σ:St}{H:Hp}{s:Shared}{a C dx:Addr}{fs:List (Str × V)}{f:Str}{v:V}{A:Around}{E:Value→Shared→Prop}
theorem getattr_ok{b:Bool}{Q:Value→Shared→Prop}(I:Inv X pins σ H s)(e:H a=some (.ins C dx fs))(c:Cls X.K C)(n:NoAttr X.K C f)(l:fs.lookup f=some v)
    (h:∀u s',Inv X pins σ H s'→RelV v u→Q u s'):wpAny (model X.prog X.w) A (getAttr (.ref a) f b) Q E s:=by
  obtain⟨mA,O,r,_,_,_⟩:=k0f I.hok e
  obtain⟨u,hu,ru⟩:=RelO.some_of (v:=v) (o:=mA f) (by rw[← l];exact r f)
  exact get_map I.kIn O (c.get f) c.hd n hu (handed_of ru) (h u _ (I.tok _) ru)
theorem i0y{m:Str}{g:Addr}{pl:Sem Bool}{Q:Value × List Value→Shared→Prop}(I:Inv X pins σ H s)(e:H a=some (.ins C dx fs))(c:Cls X.K C)(k:Meth X.K C m g)(l:fs.lookup m=none)
    (h:Q (.ref g,[.ref a]) s):wpAny (model X.prog X.w) A (getMethod (.ref a) m pl) Q E s:=by
  obtain⟨mA,O,r,_,_,_⟩:=k0f I.hok e
  have hn:mA m=none:=RelO.none_of (by rw[← l];exact r m)
  exact get_meth I.kIn O (c.get m) k.at_ k.fn hn h
theorem setattr_ok{y:V}{u:Value}{Q:Unit→Shared→Prop}(I:Inv X pins σ H s)(e:H a=some (.ins C dx fs))(c:Cls X.K C)(n:NoAttr X.K C f)(hl:fs.length < 1000)(ry:RelV y u)
    (h:∀s',Inv X pins σ (upd H a (.ins C dx (putF f y fs))) s'→Q () s'):wpAny (model X.prog X.w) A (setAttr (.ref a) f u) Q E s:=by
  obtain⟨mA,O,r,wi,_,ho⟩:=k0f I.hok e
  have hz:(fs.map (·.1)).length≤sizeLine:=by rw[List.length_map,sizeLine_eq];omega
  refine set_map I.kIn O c.sa c.po n.taker c.hd wi hz fun h' O' sb=>h _ ?_
  have hd:∃o,h'.get? dx=some o:=let⟨o,_,_,e',_⟩:=O'.ns;⟨o,e'⟩
  refine I.write (x:=a) (e:=dx) (by rw[e];exact True.intro) (.inr ho) (fun b q hb z=>(sb.2 b hb).trans z) hd ?_
  refine⟨by rw[a0w O.ne];exact ho,?_,O.ne,O'.obj,_,O'.ns,fun g=>?_,fun g hg=>?_⟩
  · have:=h0x f y fs;omega
  · show RelO ((putF f y fs).lookup g) (if g=f then some u else mA g)
    rw[f0h]
    by_cases q:g=f
    · rw[if_pos q,if_pos q];exact ry
    · rw[if_neg q,if_neg q];exact r g
  · by_cases q:g=f
    · rw[q];exact(h0y f y fs).1
    · refine(h0y f y fs).2 g (wi g fun z=>hg ?_)
      show(if g=f then some u else mA g)=none
      rw[if_neg q];exact z
theorem Inv.made(I:Inv X pins σ H s):Inv X pins σ (upd (upd H s.heap.objs.size (.own (s.heap.objs.size+1))) (s.heap.objs.size+1) (.ins C s.heap.objs.size []))
    { s with heap:=(s.heap.push PySem.W.emptyDict).push (PySem.W.instObj C s.heap.objs.size) }:=by
  have e1:(s.heap.push PySem.W.emptyDict).get? s.heap.objs.size=some PySem.W.emptyDict:=Heap.get?_push_size s.heap rfl
  have e2:((s.heap.push PySem.W.emptyDict).push (PySem.W.instObj C s.heap.objs.size)).get? (s.heap.objs.size+1)=some (PySem.W.instObj C s.heap.objs.size):=by
    have:=Heap.get?_push_size (s.heap.push PySem.W.emptyDict) (o:=PySem.W.instObj C s.heap.objs.size) rfl
    rwa [Heap.size_push]at this
  have e3:(s.heap.push PySem.W.emptyDict).Ns s.heap.objs.size (fun _=>none):=⟨PySem.W.emptyDict,#[],_,e1,rfl,(fun e he=>absurd he (by simp)),fun _=>rfl⟩
  have I1:=I.laid (a:=s.heap.objs.size) (o:=.own (s.heap.objs.size+1)) (h':=s.heap.push PySem.W.emptyDict) (t':=s.toks) (fun b u q=>Heap.get?_push_of_some _ q) (Nat.le_refl _) ⟨_,e1⟩
  refine I1.laid (a:=s.heap.objs.size+1) (o:=.ins C s.heap.objs.size []) (t':=s.toks) (fun b u q=>Heap.get?_push_of_some _ q) (Nat.le_of_eq (Heap.size_push _ _)) ?_
  have ne:s.heap.objs.size≠s.heap.objs.size+1:=Nat.ne_of_lt (Nat.lt_succ_self _)
  refine⟨by rw[a0w ne,a0c],Nat.zero_le _,ne,e2,fun _=>none,(Heap.Ns1.of_empty e3).at fun o q=>Heap.get?_push_of_some _ q,fun _=>True.intro,fun y hy=>absurd rfl hy⟩
theorem attr_of{prog:Program}{w:World}{env:Env}{e:Expr}{f:Str}{pos:Pos}{s:Shared}{Q:Value→Shared→Prop}(hb:attributeBase e f env (eval e env)=eval e env)
    (h:wpAny (model prog w) A (eval e env) (fun o s₁=>wpAny (model prog w) A (getAttr o f true) Q E s₁) E s):wpAny (model prog w) A (eval (.Attribute e f pos) env) Q E s:=
  Attribute_any_ h (by rw[arm_eval_Attribute,hb])
end
def tFld(K:PySem.W.Frag)(ta:TE)(f:Str):TE:=fun σ H Q=>ta σ H fun x H1=>∃a C dx fs v,x=.ref a∧H1 a=some (.ins C dx fs)∧Cls K C∧NoAttr K C f∧fs.lookup f=some v∧Q v H1
def sFld(K:PySem.W.Frag)(ta tv:TE)(f:Str):TS:=fun D σ H=>tv σ H fun y H1=>ta σ H1 fun x H2=>∃a C dx fs,x=.ref a∧H2 a=some (.ins C dx fs)∧Cls K C∧NoAttr K C f∧fs.length < 1000∧
  D.nx σ (upd H2 a (.ins C dx (putF f y fs)))
section
variable{X:Cx}{o e value:Expr}{f:Str}{pos pos' tpos:Pos}{ta tv:TE}
theorem pe_fld(he:PE X e ta)(hb:attributeBase e f X.env (eval e X.env)=eval e X.env):PE X (.Attribute e f pos) (tFld X.K ta f):=by
  intro pins s σ H Q I h
  refine attr_of hb (thn (he pins s σ H _ I h) fun u s1 ⟨x,H1,I1,rx,a,C,dx,fs,v,ex,ea,c,n,l,q⟩=>?_)
  subst ex
  obtain rfl:u=Value.ref a:=rx
  exact getattr_ok I1 ea c n l fun u' s2 I2 ru=>⟨v,H1,I2,ru,q⟩
theorem ps_fld(ha:PE X o ta)(hv:PE X value tv)(hs:swapsWith value (some (.Attribute o f pos')) pos.line X.env=pure false):PS X (.Assign [.Attribute o f pos'] value pos) (sFld X.K ta tv f):=by
  intro pins s σ H D I h
  refine plainObj_wpAny_Assign_Attribute (thn (hv pins s σ H _ I h) fun u s1 ⟨y,H1,I1,ry,q⟩=>thn (ha pins s1 σ H1 _ I1 q) fun ov s2 ⟨x,H2,I2,rx,a,C,dx,fs,ex,ea,c,n,l,q2⟩=>?_) hs
  subst ex
  obtain rfl:ov=Value.ref a:=rx
  exact setattr_ok I2 ea c n l ry fun s3 I3=>⟨σ,_,I3,q2⟩
end
section
variable{X:Cx}{pins:List (Addr × Obj)}{σ:St}{H:Hp}{s:Shared}{A:Around}{E:Value→Shared→Prop}{Q:Value→Shared→Prop}{c:Value}{b:Bool}
inductive TyOf(K:PySem.W.Frag)(H:Hp):V→Value→Prop where
  | non:TyOf K H .non (.type "NoneType")
  | bl (x:Bool):TyOf K H (.bl x) (.type "bool")
  | int (i:Int):TyOf K H (.int i) (.type "int")
  | str (x:Str):TyOf K H (.str x) (.type "str")
  | flt (x:UInt64):TyOf K H (.flt x) (.type "float")
  | lst {a:Addr} {xs:List V} (e:H a=some (.lst xs)):TyOf K H (.ref a) (.type "list")
  | frz {a:Addr} {o:Obj} {xs:List V} (e:H a=some (.frz o (.lst xs))):TyOf K H (.ref a) (.type "list")
  | tup {a:Addr} {xs:List V} (e:H a=some (.tup xs)):TyOf K H (.ref a) (.type "tuple")
  | dK {a:Addr} {kvs:List (Key × V)} (e:H a=some (.dK kvs)):TyOf K H (.ref a) (.type "dict")
  | dT {a:Addr} {kvs:List (List Key × V)} (e:H a=some (.dT kvs)):TyOf K H (.ref a) (.type "dict")
  | ins {a C dx:Addr} {fs:List (Str × V)} (e:H a=some (.ins C dx fs)) (cl:Cls K C) (ha:PySem.W.findIn K (.ref C) "__class__"=some (some (.builtin "object.__class__")))
      (hn:PySem.W.specialIn K (.builtin "object.__class__") "__get__"=some (some (.builtin "getset_descriptor.__get__"))) (htk:PySem.W.takesIn K (.builtin "object.__class__")=some true)
      (hm:PySem.W.mroIn K C (.type "object")=some true):TyOf K H (.ref a) (.ref C)
theorem isinst_ok{x:V}{u t:Value}(I:Inv X pins σ H s)(rx:RelV x u)(ty:TyOf X.K H x t)(e:PySem.W.kitOne X.K t c=some b)(h:∀tk,Q (.bool b) { s with toks:=tk }) :
    wpAny (model X.prog X.w) A (call (.builtin "isinstance") [u,c]) Q E s:=by
  cases ty with
  | non=>cases (show u=Value.none from rx);exact PySem.W.kia_one PySem.W.kitx_none I.kIn True.intro e (fun z=>nomatch z) h
  | bl y=>cases (show u=Value.bool y from rx);exact PySem.W.kia_one PySem.W.kitx_bool I.kIn True.intro e (fun z=>nomatch z) h
  | int i=>obtain⟨t,q⟩:=(show ∃t,u=Value.int i t from rx);cases q;exact PySem.W.kia_one PySem.W.kitx_int I.kIn True.intro e (fun z=>nomatch z) h
  | str y=>obtain⟨t,q⟩:=(show ∃t,u=Value.str y t from rx);cases q;exact PySem.W.kia_one PySem.W.kitx_str I.kIn True.intro e (fun z=>nomatch z) h
  | flt y=>obtain⟨t,q⟩:=(show ∃t,u=Value.float y t from rx);cases q;exact PySem.W.kia_one PySem.W.kitx_float I.kIn True.intro e (fun z=>nomatch z) h
  | @lst a xs ea=>
    cases (show u=Value.ref a from rx)
    obtain⟨_,_,n,_,h1⟩:=(show ObjOk X.prog X.w H s.heap a (.lst xs)from I.hok a _ ea)
    exact PySem.W.kia_one PySem.W.kitx_list I.kIn ⟨_,h1,rfl⟩ e (fun z=>nomatch z) h
  | @frz a ob xs ea=>
    cases (show u=Value.ref a from rx)
    obtain⟨_,_,_,n,_,h1⟩:=(show ObjOk X.prog X.w H s.heap a (.frz ob (.lst xs))from I.hok a _ ea)
    exact PySem.W.kia_one PySem.W.kitx_list I.kIn ⟨_,h1,rfl⟩ e (fun z=>nomatch z) h
  | @tup a xs ea=>
    cases (show u=Value.ref a from rx)
    obtain⟨_,_,_,p,_⟩:=(show ObjOk X.prog X.w H s.heap a (.tup xs)from I.hok a _ ea)
    obtain⟨o,h1,h2,_⟩:=p
    exact PySem.W.kia_one PySem.W.kitx_tuple I.kIn ⟨o,h1,h2⟩ e (fun z=>nomatch z) h
  | @dK a kvs ea=>
    cases (show u=Value.ref a from rx)
    obtain⟨_,_,vs,_,p⟩:=(show ObjOk X.prog X.w H s.heap a (.dK kvs)from I.hok a _ ea)
    obtain⟨o,es,ep,h1,h2,_⟩:=p
    exact PySem.W.kia_one PySem.W.kitx_dict I.kIn ⟨o,h1,h2.1⟩ e (fun z=>nomatch z) h
  | @dT a kvs ea=>
    cases (show u=Value.ref a from rx)
    obtain⟨_,_,xs,_,o,es,ep,h1,h2,_⟩:=(show ObjOk X.prog X.w H s.heap a (.dT kvs)from I.hok a _ ea)
    exact PySem.W.kia_one PySem.W.kitx_dict I.kIn ⟨o,h1,h2.1⟩ e (fun z=>nomatch z) h
  | @ins a C dx fs ea cl ha hn htk hm=>
    cases (show u=Value.ref a from rx)
    obtain⟨mA,O,_⟩:=k0f I.hok ea
    obtain⟨od,J,_⟩:=O.look
    exact PySem.W.kia_one (PySem.W.kitx_own (cl.get _) cl.hd ha hn htk hm) I.kIn J e (fun z=>nomatch z) h
end
end L2
namespace L2
open PySem PySem.Spec PyProof.Rows
structure Room(k:Nat)(A:Around):Prop where
  hd:A.handled=none
  dp:A.depth+3 * k+5 < recursionLimit
  un:A.units+16 * k+200 < cLine
theorem Room.mono{j k:Nat}{A:Around}(r:Room k A)(h:j≤k):Room j A:=⟨r.hd,by have:=r.dp;omega,by have:=r.un;omega⟩
theorem Room.deeper{k:Nat}{A:Around}(r:Room (k+1) A)(env:Env):Room k (A.deeper env):=
  ⟨r.hd,by have:=r.dp;show A.depth+1+3 * k+5 < _;omega,by have:=r.un;show A.units+3+16 * k+200 < _;omega⟩
theorem Room.in1{k:Nat}{A:Around}(r:Room (k+1) A):Room k A.in1:=
  ⟨r.hd,by have:=r.dp;show A.depth+3 * k+5 < _;omega,by have:=r.un;show A.units+1+16 * k+200 < _;omega⟩
theorem make_depth{A:Around}{C:Addr}{us:List Value}{kw:List (Str × Value)}:(A.under (.builtin "type.__call__" ⟨.ref C::us,kw⟩)).depth=A.depth+1:=by
  first | rfl | simp[Around.under,Code.weight,Code.isCreation,Code.isGuard,Code.isCaller,Code.frames,Code.isFrame,guardIds]
theorem make_units{A:Around}{C:Addr}{us:List Value}{kw:List (Str × Value)}:(A.under (.builtin "type.__call__" ⟨.ref C::us,kw⟩)).units=A.units+1:=by
  first | rfl | simp[Around.under,Code.cUnits,Code.frames,Code.isFrame]
theorem Room.make{k:Nat}{A:Around}(r:Room (k+1) A)(C:Addr)(us:List Value)(kw:List (Str × Value)):Room k (A.under (.builtin "type.__call__" ⟨.ref C::us,kw⟩)):=
  ⟨r.hd,by have:=r.dp;rw[make_depth];omega,by have:=r.un;rw[make_units];omega⟩
theorem Room.depth{k:Nat}{A:Around}(r:Room k A):A.depth < recursionLimit:=by have:=r.dp;omega
theorem Room.units{k:Nat}{A:Around}(r:Room k A):A.units+64 < cLine:=by have:=r.un;omega
def tNil:TA:=fun _ H Q=>Q [] H
def tCons(ta:TE)(tr:TA):TA:=fun σ H Q=>ta σ H fun x H1=>tr σ H1 fun xs H2=>Q (x::xs) H2
section
variable{X:Cx}{e:Expr}{es:List Expr}{te:TE}{t:TA}{pos:Pos}
theorem a0b:PA X [] tNil:=fun _ _ _ _ H Q I h=>Calls.spliced_nil ⟨[],H,I,.nil,h⟩
theorem a0a(ha:PE X e te)(hr:PA X es t)(hs:starEach (e::es) X.env=(false,eval e X.env)::starEach es X.env:=by rfl):PA X (e::es) (tCons te t):=by
  intro pos pins s σ H Q I h
  rw[hs]
  show wpAny _ _ (spliced ((false,eval e X.env)::backTo pos (starEach es X.env))) _ _ s
  refine Calls.spliced_cons (thn (ha pins s σ H _ I h) fun u s1 ⟨x,H1,I1,r1,q1⟩=>?_)
  exact thn (hr pos pins s1 σ H1 _ I1 q1) fun us s2 ⟨xs,H2,I2,r2,q2⟩=>⟨x::xs,H2,I2,.cons r1 r2,q2⟩
def tTup(t:TA):TE:=fun σ H Q=>t σ H fun xs H1=>xs.length≤sizeLine∧∀p,H1 p=none→Q (.ref p) (upd H1 p (.tup xs))
def tLst(t:TA):TE:=fun σ H Q=>t σ H fun xs H1=>xs.length≤sizeLine∧∀p,H1 p=none→Q (.ref p) (upd H1 p (.lst xs))
theorem b0u{x1}(h:PA X es t):PE X (.Tuple es x1 pos) (tTup t):=by
  intro pins s σ H Q I hq
  refine wpAny_Tuple_spliced (thn (h pos pins s σ H _ I hq) fun us s1 ⟨xs,H1,I1,r,z,q⟩=>⟨by rw[← r.length];exact z,?_⟩)
  have hf:H1 s1.heap.objs.size=none:=I1.hok.fresh (Nat.le_refl _)
  refine⟨.ref s1.heap.objs.size,upd H1 s1.heap.objs.size (.tup xs),I1.laid (t':=s1.toks) (fun b u e=>Heap.get?_push_of_some _ e) (Nat.le_refl _) ?_,rfl,q _ hf⟩
  exact⟨z,us,r,⟨_,Heap.get?_push_size _ rfl,rfl,_,rfl⟩,fun _=>⟨_,Heap.get?_push_size _ rfl,rfl⟩⟩
theorem b0e(h:PA X es t):PE X (.List es pos) (tLst t):=by
  intro pins s σ H Q I hq
  refine wpAny_List_spliced (thn (h pos pins s σ H _ I hq) fun us s1 ⟨xs,H1,I1,r,z,q⟩=>⟨by rw[← r.length];exact z,?_⟩)
  have hf:H1 s1.heap.objs.size=none:=I1.hok.fresh (Nat.le_refl _)
  refine⟨.ref s1.heap.objs.size,upd H1 s1.heap.objs.size (.lst xs),I1.laid (t':=s1.toks) (fun b u e=>Heap.get?_push_of_some _ e) (Nat.le_refl _) ?_,rfl,q _ hf⟩
  exact⟨z,us,0,r,Heap.get?_push_size _ rfl⟩
end
abbrev Sp:=List V→Hp→VK→XK→Prop
abbrev CXT:=List Env→Hp→Shared→XK→Value→Shared→Prop
structure Env0(P:Program)(w:World)(K:PySem.W.Frag)(mg:Str→Option Value)(base:Heap)(A:Around)(outer:List Env)(s:Shared)(H:Hp):Prop where
  frames:A.frames=some outer
  mod:Mod K mg base
  bs:∀b o,base.get? b=some o→s.heap.get? b=some o∧H b=none
  bsz:base.objs.size≤s.heap.objs.size
  funs:s.heap.FunFrames base outer
  frf:∀b∈frs outer,H b=none
  hok:HOk P w H s.heap
  bare:AllBare s.gens
def CE(outer:List Env)(P:Program)(w:World)(H:Hp)(s:Shared)(Q:VK)(u:Value)(s':Shared):Prop:=
  ∃v H',s'.os=s.os∧AllBare s'.gens∧Un (frs outer) [] H H' s.heap s'.heap∧HOk P w H' s'.heap∧RelV v u∧Q v H'
def CR(CX:CXT)(outer:List Env)(P:Program)(w:World)(H:Hp)(s:Shared)(Q:VK)(E:XK)(r:Result)(s':Shared):Prop:=
  match r with
  | .ok (.ret u)=>CE outer P w H s Q u s'
  | .ok _=>False
  | .error e=>CX outer H s E e s'
structure FnOk(P:Program)(w:World)(K:PySem.W.Frag)(mg:Str→Option Value)(base:Heap)(CX:CXT)(k:Nat)(f:Addr)(fd:FuncData)(ps:List Str)(sp:Sp):Prop where
  len:∀vs H Q E,sp vs H Q E→vs.length=ps.length
  run:∀(A:Around) (outer:List Env) (s:Shared) (H:Hp) (args:Args) (us:List Value) (vs:List V) (Q:VK) (E:XK),Room k A→Env0 P w K mg base A outer s H→BindsTo s fd args (ps.zip us)→Vals vs us→sp vs H Q E→
    codeAny (model P w) A (.call (.ref f) args) (CR CX outer P w H s Q E) s
theorem FnOk.mono{P:Program}{w:World}{K:PySem.W.Frag}{mg:Str→Option Value}{base:Heap}{CX:CXT}{j k:Nat}{f:Addr}{fd:FuncData}{ps:List Str}{sp:Sp}(F:FnOk P w K mg base CX j f fd ps sp)(h:j≤k) :
    FnOk P w K mg base CX k f fd ps sp:=⟨F.len,fun A outer s H args us vs Q E hr=>F.run A outer s H args us vs Q E (hr.mono h)⟩
theorem FnOk.imp{P:Program}{w:World}{K:PySem.W.Frag}{mg:Str→Option Value}{base:Heap}{CX:CXT}{k:Nat}{f:Addr}{fd:FuncData}{ps:List Str}{sp sp':Sp}(F:FnOk P w K mg base CX k f fd ps sp)
    (h:∀vs H Q E,sp' vs H Q E→sp vs H Q E):FnOk P w K mg base CX k f fd ps sp':=
  ⟨fun vs H Q E q=>F.len vs H Q E (h _ _ _ _ q),fun A outer s H args us vs Q E hr he hb hv hs=>F.run A outer s H args us vs Q E hr he hb hv (h _ _ _ _ hs)⟩
theorem Env0.make{P:Program}{w:World}{K:PySem.W.Frag}{mg:Str→Option Value}{base:Heap}{A:Around}{outer:List Env}{s:Shared}{H:Hp}(e:Env0 P w K mg base A outer s H)(C:Addr)(us:List Value)(kw:List (Str × Value)) :
    Env0 P w K mg base (A.under (.builtin "type.__call__" ⟨.ref C::us,kw⟩)) outer s H:=⟨by first | exact e.frames | (simpa [Around.under,Code.envs,Code.isFrame,pushEnvs] using e.frames),e.mod,e.bs,e.bsz,e.funs,e.frf,e.hok,e.bare⟩
theorem Env0.in1{P:Program}{w:World}{K:PySem.W.Frag}{mg:Str→Option Value}{base:Heap}{A:Around}{outer:List Env}{s:Shared}{H:Hp}(e:Env0 P w K mg base A outer s H) :
    Env0 P w K mg base A.in1 outer s H:=⟨e.frames,e.mod,e.bs,e.bsz,e.funs,e.frf,e.hok,e.bare⟩
section
variable{X:Cx}{pins:List (Addr × Obj)}{σ:St}{H:Hp}{s s':Shared}
theorem Inv.env0(I:Inv X pins σ H s):Env0 X.prog X.w X.K X.mg X.base X.A X.stack s H:=
  ⟨I.ok.frames,I.ok.mod,I.bs,Nat.le_trans I.ok.bsz I.sz,I.stack,I.stkFree,I.hok,I.bare⟩
theorem Inv.after{Q:VK}{u:Value}(I:Inv X pins σ H s)(h:CE X.stack X.prog X.w H s Q u s'):EP X pins σ Q u s':=by
  obtain⟨v,H',os,bare,un,hok,r,q⟩:=h
  obtain⟨hh,g,d,t,os'⟩:=s'
  obtain rfl:os'=s.os:=os
  exact⟨v,H',I.call (h':=hh) (g':=g) (d':=d) (t':=t) (ch:=[]) un hok bare (fun b z=>absurd z (by simp)),r,q⟩
end
def tCall(sp:Sp)(dvs:List V)(E:XK)(t:TA):TE:=fun σ H Q=>t σ H fun vs H1=>sp (vs++dvs) H1 Q E
def tMeth(C:Addr)(m:Str)(sp:Sp)(dvs:List V)(E:XK)(ta:TE)(t:TA):TE:=fun σ H Q=>ta σ H fun x H1=>∃a dx fs,x=.ref a∧H1 a=some (.ins C dx fs)∧fs.lookup m=none∧
  t σ H1 fun vs H2=>sp (x::(vs++dvs)) H2 Q E
def tMake(C:Addr)(sp:Sp)(dvs:List V)(E:XK)(t:TA):TE:=fun σ H Q=>t σ H fun vs H1=>∀x dx,H1 x=none→H1 dx=none→dx≠x→
  sp (.ref x::(vs++dvs)) (upd (upd H1 dx (.own x)) x (.ins C dx [])) (fun v H2=>v=.non∧Q (.ref x) H2) E
def Binds(K:PySem.W.Frag)(fd:FuncData)(ps:List Str)(ds:List Value):Prop:=
  ∀(s:Shared) (us:List Value),K.In s.heap→(us++ds).length=ps.length→BindsTo s fd ⟨us,[]⟩ (ps.zip (us++ds))
theorem Binds.all{K:PySem.W.Frag}{fd:FuncData}{ps:List Str}(h:∀us:List Value,us.length=ps.length→bindArgs fd ⟨us,[]⟩=pure (ps.zip us)):Binds K fd ps []:=fun s us _ hl=>by
  rw[List.append_nil]at hl ⊢
  exact .of_eq (h us hl)
def j0a(CX:CXT)(X:Cx)(E:XK):Prop:=∀(pins:List (Addr × Obj)) (σ:St) (H:Hp) (s:Shared) (e:Value) (s':Shared),Inv X pins σ H s→CX X.stack H s E e s'→X.xe e s'
section
variable{X:Cx}{CX:CXT}{k:Nat}{f C:Addr}{fd:FuncData}{ps:List Str}{sp:Sp}{dvs:List V}{ds:List Value}{E:XK}{x m:Str}{p pos apos:Pos}{e o:Expr}{es:List Expr}{ta:TE}{t:TA}
theorem run_fn{pins:List (Addr × Obj)}{σ:St}{H:Hp}{s:Shared}{Q:VK}{us:List Value}{vs:List V}(F:FnOk X.prog X.w X.K X.mg X.base CX k f fd ps sp)(hr:Room k X.A)(hb:Binds X.K fd ps ds)(hd:Vals dvs ds)(hx:j0a CX X E)
    (I:Inv X pins σ H s) (r:Vals vs us) (h:sp (vs++dvs) H Q E):wpAny (model X.prog X.w) X.A (call (.ref f) us) (EP X pins σ Q) X.xe s:=by
  have r2:Vals (vs++dvs) (us++ds):=r.append hd
  have hl:(us++ds).length=ps.length:=by rw[← r2.length];exact F.len _ _ _ _ h
  refine wpAny_call (codeAny_mono (F.run X.A X.stack s H ⟨us,[]⟩ (us++ds) (vs++dvs) Q E hr I.env0 (hb s us I.kIn hl) r2 h) fun r s' hq=>?_)
  cases r with
  | error e=>exact hx pins σ H s e s' I hq
  | ok fl=>
    cases fl with
    | ret u=>exact I.after hq
    | next=>exact False.elim hq
    | brk=>exact False.elim hq
    | cont=>exact False.elim hq
theorem a0p(F:FnOk X.prog X.w X.K X.mg X.base CX k f fd ps sp)(hr:Room k X.A)(hg:Gl X x)(hm:X.mg x=some (.ref f))(hk:PySem.W.keepIn X.K (.ref f)=true)(hb:Binds X.K fd ps ds)(hd:Vals dvs ds)(hx:j0a CX X E)
    (ha:PA X (e::es) t) (hdb:(x == ("__debug__":Str))=false:=by decide) (he:starEach (e::es) X.env=(false,eval e X.env)::starEach es X.env:=by rfl) (hpl:(backTo pos (starEach es X.env)).any (·.1)=false:=by rfl) :
    PE X (.Call (.Name x p) (e::es) [] pos) (tCall sp dvs E t):=by
  intro pins s σ H Q I h
  refine wpAny_Call_Name_kw (f0j I hg hm ?_ hdb)
  refine PySem.W.callWith_K (h₀:=X.base) I.ok.mod.kin hk (thn (ha pos pins s σ H _ I h) fun us s1 ⟨vs,H1,I1,r,q⟩=>⟨I1.kIn,?_⟩) he hpl
  exact run_fn F hr hb hd hx I1 r q
theorem pe_meth{pl:Sem Bool}(he:PE X o ta)(c:Cls X.K C)(hm:Meth X.K C m f)(F:FnOk X.prog X.w X.K X.mg X.base CX k f fd ps sp)(hr:Room k X.A)(hb:Binds X.K fd ps ds)(hd:Vals dvs ds)(hx:j0a CX X E)(ha:PA X (e::es) t)
    (hst:starEach (e::es) X.env=(false,eval e X.env)::starEach es X.env:=by rfl) (hpl:(backTo pos (starEach es X.env)).any (·.1)=false:=by rfl)
    (ht:eval (.Call (.Attribute o m apos) (e::es) [] pos) X.env=(do
      let ov ← eval o X.env
      standAt apos.atName
      let(f,first) ← holding [ov] (getMethod ov m pl)
      callWith pos f first (backTo pos (starEach (e::es) X.env)) (backToKw pos (keywordEach [] X.env))):=by rfl) :
    PE X (.Call (.Attribute o m apos) (e::es) [] pos) (tMeth C m sp dvs E ta t):=by
  intro pins s σ H Q I h
  refine PySem.W.methodCall_KW (pl:=pl) (thn (he pins s σ H _ I h) fun u s1 ⟨x,H1,I1,rx,a,dx,fs,ex,ea,l,q⟩=>?_) ht
  subst ex
  obtain rfl:u=Value.ref a:=rx
  refine i0y I1 ea c hm l ?_
  refine PySem.W.callWith_K (first:=[.ref a]) (h₀:=X.base) I.ok.mod.kin hm.kp (thn (ha pos pins s1 σ H1 _ I1 q) fun us s2 ⟨vs,H2,I2,r,q2⟩=>⟨I2.kIn,?_⟩) hst hpl
  exact run_fn (us:=.ref a::us) (vs:=.ref a::vs) F hr hb hd hx I2 (.cons rfl r) q2
structure Mk(K:PySem.W.Frag)(C f:Addr):Prop where
  makes:PySem.W.makesIn K C=true
  init:PySem.W.findIn K (.ref C) "__init__"=some (some (.ref f))
  fn:PySem.W.isFn K (.ref f)=true
  kp:PySem.W.keepIn K (.ref C)=true
theorem run_make{pins:List (Addr × Obj)}{σ:St}{H:Hp}{s:Shared}{Q:VK}{us:List Value}{vs:List V}(M:Mk X.K C f)(F:FnOk X.prog X.w X.K X.mg X.base CX k f fd ps sp)(hr:Room (k+1) X.A)(hb:Binds X.K fd ps ds)(hd:Vals dvs ds)
    (hx:j0a CX X E) (I:Inv X pins σ H s) (r:Vals vs us)
    (h:∀x dx,H x=none→H dx=none→dx≠x→sp (.ref x::(vs++dvs)) (upd (upd H dx (.own x)) x (.ins C dx [])) (fun v H2=>v=.non∧Q (.ref x) H2) E) :
    wpAny (model X.prog X.w) X.A (call (.ref C) us) (EP X pins σ Q) X.xe s:=by
  have hq:=h (s.heap.objs.size+1) s.heap.objs.size (I.hok.fresh (Nat.le_succ _)) (I.hok.fresh (Nat.le_refl _)) (Nat.ne_of_lt (Nat.lt_succ_self _))
  have I2:=Inv.made (C:=C) I
  have r2:Vals (V.ref (s.heap.objs.size+1)::(vs++dvs)) (Value.ref (s.heap.objs.size+1)::(us++ds)):=.cons rfl (r.append hd)
  have hl:(Value.ref (s.heap.objs.size+1)::us++ds).length=ps.length:=by
    have e:=r2.length
    rw[F.len _ _ _ _ hq]at e
    exact e.symm
  refine wpAny_call (make_map (f:=f) I.kIn M.makes M.init (beq_iff_eq.mp M.fn) (codeAny_mono (F.run _ X.stack _ _ ⟨Value.ref (s.heap.objs.size+1)::us,[]⟩ (Value.ref (s.heap.objs.size+1)::(us++ds)) _ _ E (hr.make C us [])
    (I2.env0.make C us []) (hb _ (Value.ref (s.heap.objs.size+1)::us) I2.kIn hl) r2 hq) fun r s' hq'=>?_))
  cases r with
  | error e=>exact hx pins σ _ _ e s' I2 hq'
  | ok fl=>
    cases fl with
    | ret u=>
      obtain⟨v,H',I3,rv,ev,q3⟩:=I2.after hq'
      subst ev
      exact⟨rv,⟨V.ref (s.heap.objs.size+1),H',I3,rfl,q3⟩⟩
    | next=>exact False.elim hq'
    | brk=>exact False.elim hq'
    | cont=>exact False.elim hq'
theorem pe_make(M:Mk X.K C f)(F:FnOk X.prog X.w X.K X.mg X.base CX k f fd ps sp)(hr:Room (k+1) X.A)(hg:Gl X x)(hm:X.mg x=some (.ref C))(hb:Binds X.K fd ps ds)(hd:Vals dvs ds)(hx:j0a CX X E)
    (ha:PA X (e::es) t) (hdb:(x == ("__debug__":Str))=false:=by decide) (he:starEach (e::es) X.env=(false,eval e X.env)::starEach es X.env:=by rfl) (hpl:(backTo pos (starEach es X.env)).any (·.1)=false:=by rfl) :
    PE X (.Call (.Name x p) (e::es) [] pos) (tMake C sp dvs E t):=by
  intro pins s σ H Q I h
  refine wpAny_Call_Name_kw (f0j I hg hm ?_ hdb)
  refine PySem.W.callWith_K (h₀:=X.base) I.ok.mod.kin M.kp (thn (ha pos pins s σ H _ I h) fun us s1 ⟨vs,H1,I1,r,q⟩=>⟨I1.kIn,?_⟩) he hpl
  exact run_make M F hr hb hd hx I1 r q
end
section
variable{X:Cx}{CX:CXT}{k:Nat}{f C:Addr}{fd:FuncData}{ps ks:List Str}{sp:Sp}{E:XK}{x m:Str}{p pos apos kpos:Pos}{e o:Expr}{es:List Expr}{kws:List Keyword}{te ta:TE}{t tk:TA}{nm:Option Str}
structure KBinds(K:PySem.W.Frag)(fd:FuncData)(ps ks:List Str)(g:List Value→List Value→List Value)(gV:List V→List V→List V):Prop where
  to:∀(s:Shared) (us ws:List Value),K.In s.heap→(g us ws).length=ps.length→BindsTo s fd ⟨us,ks.zip ws⟩ (ps.zip (g us ws))
  rel:∀{vs:List V} {us:List Value} {zs:List V} {ws:List Value},Vals vs us→Vals zs ws→Vals (gV vs zs) (g us ws)
variable{g:List Value→List Value→List Value}{gV:List V→List V→List V}
end
structure a0u(N P:List Str)(sc:Scope):Prop where
  kind:sc.kind=.function
  co:sc.isCoroutine=false
  gen:sc.isGenerator=false
  nd:N.Nodup
  pre:N.take P.length=P
  par:∀x∈P,sc.names.lookup x=some .local∨sc.names.lookup x=some .cell
  nofree:∀y∈sc.names,y.2≠.free
theorem bindL_out{kindOf:Str→Option NameKind}{x:Str}:∀{binds:List (Str × Value)} {m:Str→Option Value},(∀v,(x,v) ∉ binds)→bindL kindOf binds m x=m x
  | [],_,_=>rfl
  | (n,v)::r,m,h=>by
    unfold bindL
    rw[bindL_out fun w hw=>h w (List.mem_cons_of_mem _ hw)]
    split
    · have:x≠n:=by rintro rfl;exact h v List.mem_cons_self
      simp[this]
    · rfl
theorem bindC_out{kindOf:Str→Option NameKind}{x:Str}:∀{binds:List (Str × Value)} {m:Str→Option Value},(∀v,(x,v) ∉ binds)→bindC kindOf binds m x=m x
  | [],_,_=>rfl
  | (n,v)::r,m,h=>by
    unfold bindC
    rw[bindC_out fun w hw=>h w (List.mem_cons_of_mem _ hw)]
    split
    · rfl
    · have:x≠n:=by rintro rfl;exact h v List.mem_cons_self
      simp[this]
theorem bindL_get{kindOf:Str→Option NameKind}{x:Str}{v:Value}:∀{P:List Str} {vs:List Value} {i:Nat} {m:Str→Option Value},P.Nodup→P[i]? = some x→vs[i]? = some v→kindOf x=some .local→
    bindL kindOf (P.zip vs) m x=some v
  | [],_,_,_,_,h,_,_=>by simp at h
  | _::_,[],_,_,_,_,h,_=>by simp at h
  | p::P,w::vs,0,m,nd,h1,h2,hk=>by
    simp at h1 h2;subst h1;subst h2
    show bindL kindOf ((p,w)::P.zip vs) m p=_
    unfold bindL
    rw[bindL_out fun v hv=>(List.nodup_cons.mp nd).1 (List.of_mem_zip hv).1,if_pos hk]
    simp
  | p::P,w::vs,i+1,m,nd,h1,h2,hk=>by
    show bindL kindOf ((p,w)::P.zip vs) m x=_
    unfold bindL
    exact bindL_get (i:=i) (List.nodup_cons.mp nd).2 (by simpa using h1) (by simpa using h2) hk
theorem bindC_get{kindOf:Str→Option NameKind}{x:Str}{v:Value}:∀{P:List Str} {vs:List Value} {i:Nat} {m:Str→Option Value},P.Nodup→P[i]? = some x→vs[i]? = some v→kindOf x≠some .local→
    bindC kindOf (P.zip vs) m x=some v
  | [],_,_,_,_,h,_,_=>by simp at h
  | _::_,[],_,_,_,_,h,_=>by simp at h
  | p::P,w::vs,0,m,nd,h1,h2,hk=>by
    simp at h1 h2;subst h1;subst h2
    show bindC kindOf ((p,w)::P.zip vs) m p=_
    unfold bindC
    rw[bindC_out fun v hv=>(List.nodup_cons.mp nd).1 (List.of_mem_zip hv).1,if_neg hk]
    simp
  | p::P,w::vs,i+1,m,nd,h1,h2,hk=>by
    show bindC kindOf ((p,w)::P.zip vs) m x=_
    unfold bindC
    exact bindC_get (i:=i) (List.nodup_cons.mp nd).2 (by simpa using h1) (by simpa using h2) hk
def start(N:List Str)(vs:List V):St:=vs.map some++List.replicate (N.length - vs.length) none
def cxOf(CX:CXT)(P:Program)(w:World)(K:PySem.W.Frag)(mg:Str→Option Value)(base:Heap)(N:List Str)(qual:Str)(scope:Scope)(f:Addr)(cd:Value)(A:Around)(outer:List Env)(s:Shared)(H:Hp)(E:XK):Cx where
  prog:=P
  w:=w
  K:=K
  mg:=mg
  base:=base
  A:=A.deeper (envOfC qual scope s.heap.objs.size f cd)
  N:=N
  s₀:=s
  H₀:=H
  env:=envOfC qual scope s.heap.objs.size f cd
  outer:=outer
  stack:=envOfC qual scope s.heap.objs.size f cd::outer
  ex:=[]
  calm:=true
  fn:=fun _=>true
  pn:=[]
  xe:=fun e s'=>wpAny (model P w) (A.deeper (envOfC qual scope s.heap.objs.size f cd)) (leaving (envOfC qual scope s.heap.objs.size f cd) e) (fun _ s''=>CX outer H s E e s'') (fun e' s''=>CX outer H s E e' s'') s'
theorem cell_has{sc:Scope}{n:Nat}{x:Str}(h:sc.names.lookup x=some .cell):∃c,(cellsFrom n sc.names []).lookup x=some c:=by
  have q:=PySem.W.cellsFrom_some sc.names n [] (.inl h)
  exact Option.isSome_iff_exists.mp q
theorem inv_start{CX:CXT}{P:Program}{w:World}{K:PySem.W.Frag}{mg:Str→Option Value}{base:Heap}{N ps:List Str}{qual:Str}{scope:Scope}{f:Addr}{cd:Value}{A:Around}{outer:List Env}{s s1:Shared}{H:Hp}{E:XK}{us:List Value}{vs:List V}
    (S:a0u N ps scope) (hd:A.handled=none) (e0:Env0 P w K mg base A outer s H) (hl:vs.length=ps.length) (r:Vals vs us)
    (x:InCallC s s.heap.objs.size (bindL (envOfC qual scope s.heap.objs.size f cd).kindOf (ps.zip us) fun _=>none) (cellsFrom (s.heap.objs.size+1) scope.names []) (bindC (envOfC qual scope s.heap.objs.size f cd).kindOf (ps.zip us) fun _=>none) s1) :
    Inv (cxOf CX P w K mg base N qual scope f cd A outer s H E) [] (start N vs) H s1:=by
  have hpl:ps.length≤N.length:=by have:=congrArg List.length S.pre;rw[List.length_take]at this;omega
  obtain⟨h1,tk,rfl,hk⟩:=x.done
  have noA:∀b:Addr,b ∉ (cxOf CX P w K mg base N qual scope f cd A outer s H E).ex:=fun b z=>absurd (show b∈([]:List Addr)from z) (by simp)
  refine⟨⟨e0.mod,S.kind,rfl,rfl,Nat.le_refl _,fun y z c h1 h2=>?_,fun y hy=>?_,fun y c _ h=>?_,fun _=>hd,Around.frames_deeper e0.frames,.inr ⟨rfl,rfl⟩,fun b z=>absurd z (noA b),e0.bs,e0.bsz,fun b _ _=>noA b,fun b z=>absurd z (noA b),e0.funs,e0.frf⟩,
    rfl,e0.bare,Un.kept hk,⟨_,x.toInCall.ns,fun i y v h1 h2 h3=>?_⟩,fun y c h=>⟨_,x.cell y c h⟩,e0.hok.fresh (Nat.le_refl _),fun y c h=>?_,fun p hp=>absurd (show p∈([]:List (Addr × Obj))from hp) (by simp),e0.hok.kept hk,?_⟩
  · exact name_of_addr x.apart (PySem.mem_of_lookup h1) (PySem.mem_of_lookup h2)
  · have hy:scope.names.lookup y=some .cell∨scope.names.lookup y=some .free:=hy
    rcases hy with hy | hy
    · exact cell_has hy
    · exact absurd rfl (S.nofree _ (PySem.mem_of_lookup hy))
  · exact Nat.le_of_lt (x.above y c (PySem.mem_of_lookup h))
  · have hi:i < vs.length:=by
      unfold start at h2
      by_cases hi:i < vs.length
      · exact hi
      · rw[List.getElem?_append_right (by simpa using hi)]at h2
        rw[List.getElem?_replicate]at h2
        split at h2 <;>cases h2
    have ha:vs[i]? = some v:=by
      unfold start at h2
      rw[List.getElem?_append_left (by simpa using hi),List.getElem?_map]at h2
      cases e:vs[i]? with
      | none=>rw[e]at h2;cases h2
      | some a=>rw[e]at h2;cases h2;rfl
    obtain⟨u,hu,rv⟩:=r.get ha
    have hp:ps[i]? = some y:=by
      rw[← S.pre,List.getElem?_take_of_lt (by omega)];exact h1
    have ndP:ps.Nodup:=by rw[← S.pre];exact S.nd.sublist (List.take_sublist _ _)
    refine⟨u,rv,?_⟩
    rcases S.par y (List.mem_of_getElem? hp)with k | k
    · exact .inl ⟨k,bindL_get ndP hp hu k⟩
    · obtain⟨c,e⟩:=cell_has (n:=s.heap.objs.size+1) k
      refine .inr ⟨.inl k,c,e,?_⟩
      have q:=x.cell y c e
      rw[bindC_get ndP hp hu (by show scope.names.lookup y≠_;rw[k];decide)]at q
      exact q
  · exact e0.hok.fresh (Nat.le_of_lt (x.above y c (PySem.mem_of_lookup h)))
  · unfold start
    show _=N.length
    rw[List.length_append,List.length_map,List.length_replicate]
    omega
theorem fn_of{CX:CXT}{P:Program}{w:World}{K:PySem.W.Frag}{mg:Str→Option Value}{base:Heap}{k:Nat}{f:Addr}{name qual:Str}{params:Arguments}{body:List Stmt}{scope:Scope}{dV kV doc pm cdv ct oc:Value}{an od:Option Addr}
    {osl:Array (Option Value)} {N ps:List Str} {sp:Sp} (lk:K.lookup f=some ⟨oc,od,.func (PySem.W.fnOf name qual params body scope dV kV doc pm an cdv ct),osl⟩) (hcd:PySem.W.codeIn K cdv qual=true) (S:a0u N ps scope)
    (len:∀vs H Q E,sp vs H Q E→vs.length=ps.length)
    (hbody:∀(A:Around) (outer:List Env) (s:Shared) (H:Hp) (vs:List V) (Q:VK) (E:XK),Room k (A.deeper (envOfC qual scope s.heap.objs.size f cdv))→sp vs H Q E→
      ∃t,PSs (cxOf CX P w K mg base N qual scope f cdv A outer s H E) body t∧t { nx:=fun _ H'=>Q .non H',rt:=Q } (start N vs) H) :
    FnOk P w K mg base CX (k+1) f (PySem.W.fnOf name qual params body scope dV kV doc pm an cdv ct) ps sp:=by
  refine⟨len,fun A outer s H args us vs Q E hr e0 hb r hsp=>?_⟩
  have hl:=len _ _ _ _ hsp
  have KX:K.In s.heap:=e0.mod.kin.keeps fun b o e=>(e0.bs b o e).1
  have lim:s.heap.NoLimit:=e0.mod.nolimit.keeps fun b o e=>(e0.bs b o e).1
  have hkind:∀y∈ps.zip us,scope.names.lookup y.1=some .local∨(scope.names.lookup y.1=some .cell∧((cellsFrom (s.heap.objs.size+1) scope.names []).lookup y.1).isSome=true):=fun⟨n,v⟩ hy=>by
    rcases S.par n (List.of_mem_zip hy).1 with q | q
    · exact .inl q
    · exact .inr ⟨q,PySem.W.cellsFrom_some _ _ _ (.inl q)⟩
  refine codeAny_call_function hr.depth (KX _ _ lk) rfl S.co S.gen rfl (PySem.W.codeRec_of KX hcd) (hb _ _ _ _ ?_)
  refine wpAny_newFunctionEnv_cells S.kind hkind fun env he s1 x=>?_
  subst he
  refine⟨lim.keeps x.toInCall.keep,codeAny_func ?_⟩
  obtain⟨t,ht,hq⟩:=hbody A outer s H vs Q E (hr.deeper _) hsp
  have I:Inv (cxOf CX P w K mg base N qual scope f cdv A outer s H E) [] (start N vs) H s1:=inv_start S hr.hd e0 hl r x
  refine wpAny_mono (ht [] s1 (start N vs) H _ I hq) (fun fl s' hs=>?_) fun e s' hs=>hs
  have fin:∀{σ':St} {H':Hp} {v:V} {u:Value},Inv (cxOf CX P w K mg base N qual scope f cdv A outer s H E) [] σ' H' s'→RelV v u→Q v H'→CE outer P w H s Q u s':=
    fun{σ' H' v u} J rv q=>⟨v,H',J.os,J.bare,J.base,J.hok,rv,q⟩
  cases fl with
  | ret u=>
    obtain⟨v,σ',H',J,rv,q⟩:=hs
    exact fin J rv q
  | next=>
    obtain⟨σ',H',J,q⟩:=hs
    exact fin (v:=V.non) (u:=Value.none) J rfl q
  | brk=>
    obtain⟨_,_,_,q⟩:=hs
    exact False.elim q
  | cont=>
    obtain⟨_,_,_,q⟩:=hs
    exact False.elim q
end L2
namespace L2
open PySem PySem.Spec PyProof.Rows
section
variable{X:Cx}{x:Str}{p pos:Pos}{e:Expr}{es:List Expr}{t:TA}{id T:String}{r:List V→Hp→VK→Prop}
def tCB(r:List V→Hp→VK→Prop)(t:TA):TE:=fun σ H Q=>t σ H fun vs H1=>r vs H1 Q
theorem a0k(hc:CallR X (.builtin id) r)(hg:Gl X x)(hm:X.mg x=none)(hv:bootBuiltins x=some (.builtin id))(ha:PA X (e::es) t)(hn:x≠"__name__":=by decide)(hdb:(x == ("__debug__":Str))=false:=by decide)
    (he:starEach (e::es) X.env=(false,eval e X.env)::starEach es X.env:=by rfl) (hpl:(backTo pos (starEach es X.env)).any (·.1)=false:=by rfl):PE X (.Call (.Name x p) (e::es) [] pos) (tCB r t):=by
  intro pins s σ H Q I h
  refine wpAny_Call_Name_kw (i0x I hg hm hv ?_ hn hdb)
  exact PyProof.Rows.callWith_builtin1 (thn (ha pos pins s σ H _ I h) fun us s1 ⟨vs,H1,I1,r1,q1⟩=>hc pins s1 σ H1 vs us Q I1 r1 q1) he hpl
theorem a0z(hc:CallR X (.type T) r)(hg:Gl X x)(hm:X.mg x=none)(hv:bootBuiltins x=some (.type T))(ha:PA X (e::es) t)(hn:x≠"__name__":=by decide)(hdb:(x == ("__debug__":Str))=false:=by decide)
    (he:starEach (e::es) X.env=(false,eval e X.env)::starEach es X.env:=by rfl) (hpl:(backTo pos (starEach es X.env)).any (·.1)=false:=by rfl):PE X (.Call (.Name x p) (e::es) [] pos) (tCB r t):=by
  intro pins s σ H Q I h
  refine wpAny_Call_Name_kw (i0x I hg hm hv ?_ hn hdb)
  exact PyProof.Rows.callWith_type1 (thn (ha pos pins s σ H _ I h) fun us s1 ⟨vs,H1,I1,r1,q1⟩=>hc pins s1 σ H1 vs us Q I1 r1 q1) he hpl
end
end L2
namespace HT
open PySem PyProof.Rows
section
open PySem.SeqAt
open PySem.AutoSeq1 (wpAny_loadPart')
open PySem.MeetsSeq PySem.MeetsSeq2 PySem.MeetsSeq3
end
section
variable{prog:Program}{w:World}{A:Around}{E:Value→Shared→Prop}{s:Shared}
def sIx(n d:Nat):Option Int→Nat
  | none=>d
  | some v=>if v < 0 then(v+(n:Int)).toNat else min v.toNat n
theorem j0h(n d:Nat):sIx n d none=d:=rfl
theorem j0i(n d k:Nat):sIx n d (some (k:Int))=min k n:=by
  show(if(k:Int) < 0 then((k:Int)+(n:Int)).toNat else min (k:Int).toNat n)=min k n
  rw[if_neg (by omega),Int.toNat_natCast]
end
end HT
namespace L2
open PySem PySem.Spec PyProof.Rows
abbrev TO:=St→Hp→(Option Int→Hp→Prop)→Prop
def PO(X:Cx)(e:Option Expr)(t:TO):Prop:=
  ∀(pins:List (Addr × Obj)) (s:Shared) (σ:St) (H:Hp) (Q:Option Int→Hp→Prop),Inv X pins σ H s→t σ H Q→
    wpAny (model X.prog X.w) X.A (evalPart e X.env) (fun u s'=>∃o H',Inv X pins σ H' s'∧IsPart u o∧Q o H') X.xe s
def tNoPart:TO:=fun _ H Q=>Q none H
def tPart(t:TE):TO:=fun σ H Q=>t σ H fun x H1=>∃i,x=.int i∧Q (some i) H1
section
variable{X:Cx}{e:Expr}{te:TE}{lo hi:Option Expr}{tl th:TO}{pos p2:Pos}
theorem c0c:PO X none tNoPart:=by
  intro pins s σ H Q I h
  rw[evalPart_none]
  exact wpAny_pure ⟨none,H,I,.none,h⟩
theorem b0s(h:PE X e te):PO X (some e) (tPart te):=by
  intro pins s σ H Q I hw
  rw[evalPart_some]
  refine thn (h pins s σ H _ I hw) fun u s1 ⟨x,H1,I1,r1,q1⟩=>?_
  obtain⟨i,rfl,q⟩:=q1
  obtain⟨t,rfl⟩:=r1
  exact⟨some i,H1,I1,.int i t,q⟩
def SlR(X:Cx)(r:V→Option Int→Option Int→Hp→VK→Prop):Prop:=
  ∀(pins:List (Addr × Obj)) (s:Shared) (σ:St) (H:Hp) (x:V) (v vl vu:Value) (lo hi:Option Int) (sl:Addr) (Q:VK),Inv X pins σ H s→RelV x v→s.heap.IsSliceOf sl vl vu .none→IsPart vl lo→IsPart vu hi→r x lo hi H Q→
    ∃T id,typeLookup (.type T) "__getitem__"=pure (some (.builtin id))∧s.TypeIs v T∧wpAny (model X.prog X.w) X.A (getItem v (.ref sl)) (EP X pins σ Q) X.xe s
theorem SlR.or{r r':V→Option Int→Option Int→Hp→VK→Prop}(h:SlR X r)(h':SlR X r'):SlR X (fun x lo hi H Q=>r x lo hi H Q∨r' x lo hi H Q):=by
  intro pins s σ H x v vl vu lo hi sl Q I rx hs pl pu q
  rcases q with q | q
  · exact h pins s σ H x v vl vu lo hi sl Q I rx hs pl pu q
  · exact h' pins s σ H x v vl vu lo hi sl Q I rx hs pl pu q
def tSl(r:V→Option Int→Option Int→Hp→VK→Prop)(te:TE)(tl th:TO):TE:=fun σ H Q=>te σ H fun x H1=>tl σ H1 fun l H2=>th σ H2 fun u H3=>r x l u H3 Q
theorem b0n{r:V→Option Int→Option Int→Hp→VK→Prop}(hr:SlR X r)(he:PE X e te)(hl:PO X lo tl)(hu:PO X hi th):PE X (.Subscript e (.Slice lo hi none p2) pos) (tSl r te tl th):=by
  intro pins s σ H Q I h
  refine Subscript_ (thn (he pins s σ H _ I h) fun v s1 ⟨x,H1,I1,r1,q1⟩=>?_)
  refine wpAny_Slice (thn (hl pins s1 σ H1 _ I1 q1) fun vl s2 ⟨l,H2,I2,pl,q2⟩=>thn (hu pins s2 σ H2 _ I2 q2) fun vu s3 ⟨u,H3,I3,pu,q3⟩=>?_)
  rw[evalPart_none]
  refine wpAny_pure ?_
  have I4:Inv X pins σ H3 { s3 with heap:=s3.heap.push { cls:=.type "slice",data:=.fields #[vl,vu,.none] } }:=I3.kept (t':=s3.toks) fun b ob q=>Heap.get?_push_of_some _ q
  obtain⟨T,id,hT,ht,hg⟩:=hr pins { s3 with heap:=s3.heap.push { cls:=.type "slice",data:=.fields #[vl,vu,.none] } } σ H3 x v vl vu l u s3.heap.objs.size Q I4 r1 (Heap.IsSliceOf.new ..) pl pu q3
  show wpAny (model X.prog X.w) X.A (subscriptTail e (.Slice lo hi none p2) v (.ref s3.heap.objs.size)) (EP X pins σ Q) X.xe { s3 with heap:=s3.heap.push { cls:=.type "slice",data:=.fields #[vl,vu,.none] } }
  exact tail_any (ops:=[.ref s3.heap.objs.size,v]) ht hT hg (by with_unfolding_all rfl)
def cutV(xs:List V)(lo hi:Option Int):List V:=(xs.drop (HT.sIx xs.length 0 lo)).take (HT.sIx xs.length xs.length hi - HT.sIx xs.length 0 lo)
theorem cutV_length(xs:List V)(lo hi:Option Int):(cutV xs lo hi).length≤xs.length:=by
  unfold cutV
  rw[List.length_take,List.length_drop]
  omega
end
end L2
namespace L2
open PySem PySem.Spec PyProof.Rows
def ixN(n:Nat)(i:Int):Option Nat:=if 0≤i then(if i < n then some i.toNat else none)else if -(n:Int)≤i then some (i+n).toNat else none
def atI{α:Type}(xs:List α)(i:Int):Option α:=(ixN xs.length i).bind fun j=>xs[j]?
theorem ixN_seq{n:Nat}{i:Int}{j:Nat}(h:ixN n i=some j):seqIndex? i n=some j∧j < n∧-(n:Int)≤i∧i < n:=by
  unfold ixN at h
  by_cases h0:0≤i
  · rw[if_pos h0]at h
    by_cases h1:i < n
    · rw[if_pos h1]at h
      have e:i.toNat=j:=Option.some.inj h
      exact⟨by rw[seqIndex_of h0 h1,e],by omega,by omega,h1⟩
    · rw[if_neg h1]at h;cases h
  · rw[if_neg h0]at h
    by_cases h1:-(n:Int)≤i
    · rw[if_pos h1]at h
      have e:(i+n).toNat=j:=Option.some.inj h
      exact⟨by rw[seqIndex_neg (by omega) h1,e],by omega,h1,by omega⟩
    · rw[if_neg h1]at h;cases h
theorem k0n{α:Type}{xs:List α}{i:Int}{v:α}(h:atI xs i=some v):∃j,seqIndex? i xs.length=some j∧xs[j]? = some v∧j < xs.length∧-(xs.length:Int)≤i∧i < xs.length:=by
  unfold atI at h
  cases e:ixN xs.length i with
  | none=>rw[e]at h;cases h
  | some j=>
    rw[e]at h
    obtain⟨h1,h2,h3,h4⟩:=ixN_seq e
    exact⟨j,h1,h,h2,h3,h4⟩
theorem c0k{α:Type}{xs:List α}{j:Nat}{v:α}(h:xs[j]? = some v):atI xs (j:Int)=some v:=by
  have hj:j < xs.length:=(List.getElem?_eq_some_iff.mp h).1
  have e:ixN xs.length (j:Int)=some j:=by
    unfold ixN
    rw[if_pos (by omega),if_pos (by omega)];simp
  unfold atI;rw[e];exact h
theorem atI_last{α:Type}(xs:List α)(v:α):atI (xs++[v]) (-1)=some v:=by
  have hl:(xs++[v]).length=xs.length+1:=by simp
  have e:ixN (xs++[v]).length (-1)=some xs.length:=by
    unfold ixN
    rw[hl,if_neg (by decide),if_pos (by omega)]
    congr 1
    omega
  unfold atI
  rw[e]
  show(xs++[v])[xs.length]? = some v
  simp
def PlainIx(b:Expr):Prop:=∀o i,subscripted b false o i=operate [o,i] (getItem o i)
def IxR(X:Cx)(r:R2):Prop:=
  ∀(value slice:Expr) (pins:List (Addr × Obj)) (s:Shared) (σ:St) (H:Hp) (x y:V) (v u:Value) (Q:VK),Inv X pins σ H s→RelV x v→RelV y u→r x y H Q→
    subscripted slice false v u=operate [v,u] (getItem v u)→wpAny (model X.prog X.w) X.A (subscriptTail value slice v u) (EP X pins σ Q) X.xe s
def MtR(X:Cx)(id:String)(r:V→List V→Hp→VK→Prop):Prop:=
  ∀(pins:List (Addr × Obj)) (s:Shared) (σ:St) (H:Hp) (x:V) (xs:List V) (v:Value) (us:List Value) (Q:VK),Inv X pins σ H s→RelV x v→Vals xs us→r x xs H Q→
    wpAny (model X.prog X.w) X.A (call (.builtin id) (v::us)) (EP X pins σ Q) X.xe s
section
variable{X:Cx}{a b:Expr}{ta tb:TE}{pos:Pos}
theorem IxR.or{r r':R2}(h:IxR X r)(h':IxR X r'):IxR X (fun x y H Q=>r x y H Q∨r' x y H Q):=by
  intro value slice pins s σ H x y v u Q I rx ry q hs
  rcases q with q | q
  · exact h value slice pins s σ H x y v u Q I rx ry q hs
  · exact h' value slice pins s σ H x y v u Q I rx ry q hs
theorem MtR.or{id:String}{r r':V→List V→Hp→VK→Prop}(h:MtR X id r)(h':MtR X id r'):MtR X id (fun x xs H Q=>r x xs H Q∨r' x xs H Q):=by
  intro pins s σ H x xs v us Q I rx rs q
  rcases q with q | q
  · exact h pins s σ H x xs v us Q I rx rs q
  · exact h' pins s σ H x xs v us Q I rx rs q
theorem b0d{r:R2}(hr:IxR X r)(ha:PE X a ta)(hb:PE X b tb)(hs:PlainIx b):PE X (.Subscript a b pos) (tOp r ta tb):=by
  intro pins s σ H Q I h
  exact Subscript_ (binT ha hb I h fun v u s2 x y H2 I2 rx ry q=>hr a b pins s2 σ H2 x y v u Q I2 rx ry q (hs _ _))
def rIxL(K:PySem.W.Frag):R2:=fun x y H Q=>∃p xs i v,x=.ref p∧y=.int i∧SqL K H p xs∧atI xs i=some v∧Q v H
def rIxT(K:PySem.W.Frag):R2:=fun x y H Q=>∃p xs i v,x=.ref p∧y=.int i∧SqT K H p xs∧atI xs i=some v∧Q v H
def rIxS:R2:=fun x y H Q=>∃z i c,x=.str z∧y=.int i∧z.length≤sizeLine∧atI z.cps.toList i=some c∧Q (.str ⟨#[c]⟩) H
theorem b0a:IxR X (rIxL X.K):=by
  intro value slice pins s σ H x y v u Q I rx ry h hs
  obtain⟨p,xs,i,z,rfl,rfl,hq,he,q⟩:=h
  cases rx
  obtain⟨t,rfl⟩:=ry
  obtain⟨its,r,pl,hz⟩:=I.list hq
  obtain⟨j,h1,h2,h3,h4,h5⟩:=k0n he
  obtain⟨w,ew,rw'⟩:=r.get h2
  have hl:=r.length
  have hn:=i0w
  have fin:EP X pins σ Q w s:=⟨z,H,I,rw',q⟩
  by_cases h0:0≤i
  · have hj:i.toNat=j:=by
      rw[seqIndex_of h0 h5]at h1
      exact Option.some.inj h1
    exact item_listR pl.isList h0 (by omega) (by rw[hj];simpa using ew) fin hs
  · have hj:(i+(its.toArray.size:Int)).toNat=j:=by
      rw[seqIndex_neg (by omega) h4]at h1
      rw[List.size_toArray,← hl]
      exact Option.some.inj h1
    exact subscriptTail_builtinR (x:=w) pl.isList.typeIs slot_list_getitem.lookup
      (wpAny_getItem_list_neg (Q:=fun r s'=>r=w∧EP X pins σ Q r s') pl.isList (by omega) (by rw[List.size_toArray] <;>omega) (by omega) (by rw[hj];simpa using ew) ⟨rfl,fin⟩) hs
theorem b0m:IxR X (rIxT X.K):=by
  intro value slice pins s σ H x y v u Q I rx ry h hs
  obtain⟨p,xs,i,z,rfl,rfl,hq,he,q⟩:=h
  cases rx
  obtain⟨t,rfl⟩:=ry
  obtain⟨its,r,pl,hz⟩:=I.tuple hq
  obtain⟨j,h1,h2,h3,h4,h5⟩:=k0n he
  obtain⟨w,ew,rw'⟩:=r.get h2
  have hl:=r.length
  have hn:=i0w
  have fin:EP X pins σ Q w s:=⟨z,H,I,rw',q⟩
  exact subscriptTail_builtinR (x:=w) pl.typeIs slot_tuple_getitem.lookup
    (getItem_tuple (j:=j) (Q:=fun r s'=>r=w∧EP X pins σ Q r s') pl (by omega) (by omega) (by rw[List.size_toArray,← hl];exact h1) (by simpa using ew) ⟨rfl,fin⟩) hs
theorem ix_str:IxR X rIxS:=by
  intro value slice pins s σ H x y v u Q I rx ry h hs
  obtain⟨z,i,c,rfl,rfl,hz,he,q⟩:=h
  obtain⟨t,rfl⟩:=rx
  obtain⟨t',rfl⟩:=ry
  obtain⟨j,h1,h2,h3,h4,h5⟩:=k0n he
  have hl:z.cps.toList.length=z.length:=by simp[Str.length]
  rw[hl]at h1 h4 h5
  have hn:=i0w
  exact tail_any (typeIs_str s z t) slot_str_getitem.lookup (getItem_str (c:=c) (by
    have e1:decide (i < -(2 ^ 63:Int))=false:=decide_eq_false (by omega)
    have e2:decide (i ≥ 2 ^ 63)=false:=decide_eq_false (by omega)
    rw[e1,e2,Bool.or_false]) (by rw[h1];simpa using h2) ⟨.str ⟨#[c]⟩,H,I.tok _,⟨_,rfl⟩,q⟩) hs
theorem mapSeq_set(its:List Value)(n j:Nat)(u:Value):Obj.mapSeq (·.setIfInBounds j u) { cls:=.type "list",data:=.seq its.toArray n }={ cls:=.type "list",data:=.seq (its.set j u).toArray n }:=by
  simp[Obj.mapSeq]
theorem Inv.lst{pins:List (Addr × Obj)}{σ:St}{H:Hp}{s:Shared}{p:Addr}{xs:List V}(I:Inv X pins σ H s)(h:H p=some (.lst xs)) :
    ∃(its:List Value) (n:Nat),Vals xs its∧s.heap.get? p=some { cls:=.type "list",data:=.seq its.toArray n }∧xs.length≤sizeLine:=by
  obtain⟨z,its,n,r,e⟩:=I.hok p _ h
  exact⟨its,n,r,e,z⟩
theorem Inv.lstUpd{pins:List (Addr × Obj)}{σ:St}{H:Hp}{s:Shared}{p:Addr}{xs ys:List V}{its its':List Value}{n n':Nat}{f:Obj→Obj}(I:Inv X pins σ H s)(h:H p=some (.lst xs))
    (ho:s.heap.get? p=some { cls:=.type "list",data:=.seq its.toArray n }) (hf:f { cls:=.type "list",data:=.seq its.toArray n }={ cls:=.type "list",data:=.seq its'.toArray n' }) (r:Vals ys its') (hz:ys.length≤sizeLine) (t:Nat) :
    Inv X pins σ (upd H p (.lst ys)) { s with heap:=s.heap.update p f,toks:=t }:=by
  have e:(s.heap.update p f).get? p=some { cls:=.type "list",data:=.seq its'.toArray n' }:=by
    rw[Heap.get?_update_self f ho (by rw[hf] <;>rfl),hf]
  refine I.write (x:=p) (e:=p) (by rw[h];trivial) (.inl rfl) (fun b u hb q=>(Heap.get?_update_other _ _ (Ne.symm hb)).trans q) ⟨_,e⟩ ?_
  exact⟨hz,its',n',r,e⟩
def rSetL:V→V→V→Hp→(Hp→Prop)→Prop:=fun o i v H Q=>∃p xs k j,o=.ref p∧i=.int k∧H p=some (.lst xs)∧ixN xs.length k=some j∧Q (upd H p (.lst (xs.set j v)))
theorem f0m:PSet X rSetL:=by
  intro pins s σ H o i v ov iv u Q I ro ri rv h
  obtain⟨p,xs,k,j,rfl,rfl,hp,hj,q⟩:=h
  cases ro
  obtain⟨t,rfl⟩:=ri
  obtain⟨its,n,r,ho,hz⟩:=I.lst hp
  obtain⟨h1,h2,h3,h4⟩:=ixN_seq hj
  have hl:=r.length
  have hn:=i0w
  have I':Inv X pins σ (upd H p (.lst (xs.set j v))) { s with heap:=s.heap.update p (Obj.mapSeq (·.setIfInBounds j u)) }:=
    I.lstUpd hp ho (mapSeq_set its n j u) (r.set rv j) (by rw[List.length_set];exact hz) s.toks
  by_cases h0:0≤k
  · have hk:k.toNat=j:=by
      rw[seqIndex_of h0 h4]at h1
      exact Option.some.inj h1
    exact PySem.W.ki_setAt ho h0 (by omega) (by rw[List.size_toArray,← hl];exact h4) (by rw[hk];exact⟨_,I',q⟩)
  · have hk:(k+(its.toArray.size:Int)).toNat=j:=by
      rw[seqIndex_neg (by omega) h3]at h1
      rw[List.size_toArray,← hl]
      exact Option.some.inj h1
    exact PySem.W.ki_setBack ho (by omega) (by rw[List.size_toArray,← hl];exact h3) (by omega) (by rw[hk];exact⟨_,I',q⟩)
theorem slice_bounds(lo hi:Option Int)(n:Nat):(sliceBounds lo hi none n).1=((HT.sIx n 0 lo:Nat):Int)∧(sliceBounds lo hi none n).2.1=((HT.sIx n n hi:Nat):Int)∧(sliceBounds lo hi none n).2.2=1:=by
  refine⟨?_,?_,rfl⟩
  · cases lo with
    | none=>simp[sliceBounds,HT.sIx]
    | some i=>
      simp only[sliceBounds,HT.sIx,Option.getD_none,show(1:Int) > 0 by decide,if_true]
      by_cases h:i < 0
      · simp only[h,if_true] <;>omega
      · simp only[h,if_false] <;>omega
  · cases hi with
    | none=>simp[sliceBounds,HT.sIx]
    | some i=>
      simp only[sliceBounds,HT.sIx,Option.getD_none,show(1:Int) > 0 by decide,if_true]
      by_cases h:i < 0
      · simp only[h,if_true] <;>omega
      · simp only[h,if_false] <;>omega
theorem j0b(its:List Value)(lo hi:Option Int):slicePick its.toArray lo hi none=((its.drop (HT.sIx its.length 0 lo)).take (HT.sIx its.length its.length hi - HT.sIx its.length 0 lo)).toArray:=by
  obtain⟨h1,h2,h3⟩:=slice_bounds lo hi its.toArray.size
  unfold slicePick
  rw[h1,h2,h3]
  simp only[sliceRange_one,pick_run,List.size_toArray] <;>rfl
def rSlL(K:PySem.W.Frag):V→Option Int→Option Int→Hp→VK→Prop:=fun x lo hi H Q=>∃a xs,x=.ref a∧SqL K H a xs∧∀p,H p=none→Q (.ref p) (upd H p (.lst (cutV xs lo hi)))
theorem e0y:SlR X (rSlL X.K):=by
  intro pins s σ H x v vl vu lo hi sl Q I rx hs pl pu h
  obtain⟨a,xs,rfl,hx,q⟩:=h
  cases rx
  obtain⟨its,r,ht,hz⟩:=I.list hx
  have hlen:=r.length
  refine⟨"list",_,slot_list_getitem.lookup,ht.isList.typeIs,?_⟩
  refine wpAny_getItem_list_slice ht.isList hs pl pu .none (by simp) ?_ (by rw[List.size_toArray] <;>omega)
  rw[j0b,← hlen]
  refine⟨.ref s.heap.objs.size,_,I.laid (t':=s.toks) (o:=.lst (cutV xs lo hi)) (fun b ob q=>Heap.get?_push_of_some _ q) (Nat.le_refl _) ?_,rfl,q _ (I.hok.fresh (Nat.le_refl _))⟩
  exact⟨Nat.le_trans (cutV_length xs lo hi) hz,_,0,(r.drop (HT.sIx xs.length 0 lo)).take (HT.sIx xs.length xs.length hi - HT.sIx xs.length 0 lo),Heap.get?_push_size _ rfl⟩
def flatV:V→Bool
  | .non=>true
  | .bl _=>true
  | .int _=>true
  | .str _=>true
  | _=>false
def eqV:V→V→Bool
  | .non,.non=>true
  | .bl a,.bl b=>a == b
  | .bl a,.int b=>(if a then 1 else 0) == b
  | .int a,.bl b=>a == (if b then 1 else 0)
  | .int a,.int b=>a == b
  | .str a,.str b=>a == b
  | _,_=>false
theorem eqAt_V{A:Around}{s:Shared}{y x:V}{u v:Value}(ry:RelV y u)(rx:RelV x v)(fy:flatV y=true)(fx:flatV x=true):SeqAt.EqAt A s u v (eqV y x):=by
  cases y with
  | non=>
    cases ry
    cases x with
    | non=>cases rx;exact SeqAt.EqAt.same _
    | bl b=>cases rx;exact SeqAt.EqAt.none_bool b
    | int b=>obtain⟨t,rfl⟩:=rx;exact SeqAt.EqAt.none_int b t
    | str b=>obtain⟨t,rfl⟩:=rx;exact SeqAt.EqAt.none_str b t
    | _=>exact absurd (show false=true from fx) Bool.false_ne_true
  | bl a=>
    cases ry
    cases x with
    | non=>cases rx;exact SeqAt.EqAt.bool_none a
    | bl b=>cases rx;exact SeqAt.EqAt.bool_bool a b
    | int b=>obtain⟨t,rfl⟩:=rx;exact SeqAt.EqAt.bool_int a b t
    | str b=>obtain⟨t,rfl⟩:=rx;exact SeqAt.EqAt.bool_str a b t
    | _=>exact absurd (show false=true from fx) Bool.false_ne_true
  | int a=>
    obtain⟨t',rfl⟩:=ry
    cases x with
    | non=>cases rx;exact SeqAt.EqAt.int_none a t'
    | bl b=>cases rx;exact SeqAt.EqAt.int_bool a t' b
    | int b=>obtain⟨t,rfl⟩:=rx;exact SeqAt.EqAt.int_int a t' b t
    | str b=>obtain⟨t,rfl⟩:=rx;exact SeqAt.EqAt.int_str a t' b t
    | _=>exact absurd (show false=true from fx) Bool.false_ne_true
  | str a=>
    obtain⟨t',rfl⟩:=ry
    cases x with
    | non=>cases rx;exact SeqAt.EqAt.str_none a t'
    | bl b=>cases rx;exact SeqAt.EqAt.str_bool a t' b
    | int b=>obtain⟨t,rfl⟩:=rx;exact SeqAt.EqAt.str_int a t' b t
    | str b=>obtain⟨t,rfl⟩:=rx;exact SeqAt.EqAt.str_str a t' b t
    | _=>exact absurd (show false=true from fx) Bool.false_ne_true
  | _=>exact absurd (show false=true from fy) Bool.false_ne_true
def eqU(x:V)(u:Value):Bool:=match u with
  | .none=>eqV .non x
  | .bool b=>eqV (.bl b) x
  | .int i _=>eqV (.int i) x
  | .str z _=>eqV (.str z) x
  | _=>false
theorem eqU_of{x y:V}{u:Value}(r:RelV y u)(f:flatV y=true):eqU x u=eqV y x:=by
  cases y with
  | non=>cases r;rfl
  | bl b=>cases r;rfl
  | int i=>obtain⟨t,rfl⟩:=r;rfl
  | str z=>obtain⟨t,rfl⟩:=r;rfl
  | _=>exact absurd (show false=true from f) Bool.false_ne_true
theorem any_eqU{x:V}:∀{xs:List V} {us:List Value},Vals xs us→xs.all flatV=true→us.any (eqU x)=xs.any fun y=>eqV y x
  | _,_,.nil,_=>rfl
  | y::xs,u::us,.cons r t,f=>by
    rw[List.all_cons,Bool.and_eq_true]at f
    rw[List.any_cons,List.any_cons,eqU_of r f.1,any_eqU t f.2]
theorem j0v{A:Around}{s:Shared}{x:V}{v:Value}(rx:RelV x v)(fx:flatV x=true):∀{xs:List V} {us:List Value},Vals xs us→xs.all flatV=true→∀u∈us,SeqAt.EqAt A s u v (eqU x u)
  | _,_,.nil,_=>fun u hu=>by cases hu
  | y::xs,u::us,.cons r t,f=>fun u' hu=>by
    rw[List.all_cons,Bool.and_eq_true]at f
    rcases List.mem_cons.mp hu with rfl | hu
    · rw[eqU_of r f.1];exact eqAt_V r rx f.1 fx
    · exact j0v rx fx t f.2 u' hu
def inV(x:V)(xs:List V):Bool:=xs.any fun y=>eqV y x
def rIn(K:PySem.W.Frag)(neg:Bool):R2:=fun x y H Q=>∃p xs,y=.ref p∧(SqL K H p xs∨SqT K H p xs)∧flatV x=true∧xs.all flatV=true∧Q (.bl (if neg then !inV x xs else inV x xs)) H
theorem op_in_seq:OpR X (compareOp .In) (rIn X.K false):=by
  intro pins s σ H x y v u Q I rx ry h
  obtain⟨p,xs,rfl,hq,fx,fs,q⟩:=h
  cases ry
  rcases hq with hq | hq
  · obtain⟨its,r,pl,hz⟩:=I.list hq
    refine SeqAt.in_listAt (eqU x) pl.isList (fun w hw=>j0v rx fx r fs w (by simpa using hw)) ⟨.bl _,H,I,rfl,?_⟩
    rw[show its.toArray.any (eqU x)=its.any (eqU x) by simp,any_eqU r fs]
    exact q
  · obtain⟨its,r,pl,hz⟩:=I.tuple hq
    refine SeqAt.in_tupleAt (eqU x) pl (fun w hw=>j0v rx fx r fs w (by simpa using hw)) ⟨.bl _,H,I,rfl,?_⟩
    rw[show its.toArray.any (eqU x)=its.any (eqU x) by simp,any_eqU r fs]
    exact q
theorem CallR.or{f:Value}{r r':List V→Hp→VK→Prop}(h:CallR X f r)(h':CallR X f r'):CallR X f (fun xs H Q=>r xs H Q∨r' xs H Q):=by
  intro pins s σ H xs us Q I rs q
  rcases q with q | q
  · exact h pins s σ H xs us Q I rs q
  · exact h' pins s σ H xs us Q I rs q
theorem b0g:CallR X (.type "tuple") (fun xs H Q=>∃p ys,xs=[.ref p]∧((SqL X.K H p ys∧∀l,H l=none→Q (.ref l) (upd H l (.tup ys)))∨(SqT X.K H p ys∧Q (.ref p) H))):=by
  intro pins s σ H xs us Q I r h
  obtain⟨p,ys,rfl,h⟩:=h
  obtain⟨u,rfl,rx⟩:=vals1 r
  cases rx
  rcases h with ⟨hq,q⟩ | ⟨hq,q⟩
  · obtain⟨its,r',pl,hz⟩:=I.list hq
    have hlen:=r'.length
    refine call_tuple_list pl.isList (fun h' kp=>?_) (by simp only[List.size_toArray] <;>omega)
    have I1:Inv X pins σ H { s with heap:=h' }:=I.kept (t':=s.toks) kp
    have I2:Inv X pins σ (upd H h'.objs.size (.tup ys)) { s with heap:=h'.push { cls:=.type "tuple",data:=.seq its.toArray } }:=
      I1.laid (t':=s.toks) (fun b o e=>Heap.get?_push_of_some _ e) (Nat.le_refl _) (show ObjOk X.prog X.w _ _ _ (.tup ys)from⟨hz,its,r',IsTup.new _ _,fun _=>⟨_,Heap.get?_push_size _ rfl,rfl⟩⟩)
    exact⟨.ref h'.objs.size,_,I2,rfl,q _ (I1.hok.fresh (Nat.le_refl _))⟩
  · obtain⟨its,r',pl,hz⟩:=I.tuple hq
    exact call_tuple_same pl ⟨.ref p,H,I,rfl,q⟩
def tyV(K:PySem.W.Frag)(T:String)(x:V)(H:Hp):Prop:=match x with
  | .str _=>T="str"
  | .int _=>T="int"
  | .ref p=>(T="list"∧∃xs,SqL K H p xs)∨(T="tuple"∧∃o,K.lookup p=some o∧o.cls=.type "tuple"∧o.dict=none)∨
      (T="dict"∧((∃kvs,H p=some (.dK kvs))∨∃kvs,H p=some (.dT kvs)))∨(T="set"∧∃S n,H p=some (.set S n))
  | _=>False
theorem tyV_is{pins:List (Addr × Obj)}{σ:St}{H:Hp}{s:Shared}{T:String}{x:V}{v:Value}(I:Inv X pins σ H s)(r:RelV x v)(ty:tyV X.K T x H) :
    s.TypeIs v T∧∀a,v=.ref a→∃ob,s.heap.get? a=some ob∧ob.dict=none:=by
  cases x with
  | str z=>
    obtain⟨t,rfl⟩:=r
    cases (show T="str" from ty)
    exact⟨typeIs_str s z t,fun _ e=>nomatch e⟩
  | int i=>
    obtain⟨t,rfl⟩:=r
    cases (show T="int" from ty)
    exact⟨typeIs_int s i t,fun _ e=>nomatch e⟩
  | ref p=>
    cases r
    rcases ty with ⟨rfl,xs,hq⟩ | ⟨rfl,o,hk,hc,hd⟩ | ⟨rfl,hk⟩ | ⟨rfl,S,n,hk⟩
    · obtain⟨its,_,pl,_⟩:=I.list hq
      refine⟨pl.isList.typeIs,fun a e=>?_⟩
      cases e
      obtain⟨o,n,e,c,hd,_⟩:=pl
      exact⟨o,e,hd⟩
    · refine⟨⟨o,I.kIn p o hk,hc⟩,fun a e=>?_⟩
      cases e
      exact⟨o,I.kIn _ o hk,hd⟩
    · have z:∃o,s.heap.get? p=some o∧o.ExactDict:=by
        rcases hk with ⟨kvs,hk⟩ | ⟨kvs,hk⟩
        · obtain⟨_,_,_,_,o,_,_,e,ex,_⟩:=I.hok p _ hk
          exact⟨o,e,ex⟩
        · obtain⟨_,_,_,_,o,_,_,e,ex,_⟩:=I.hok p _ hk
          exact⟨o,e,ex⟩
      obtain⟨o,e,ex⟩:=z
      refine⟨⟨o,e,ex.1⟩,fun a e2=>?_⟩
      cases e2
      exact⟨o,e,ex.2.1⟩
    · obtain⟨o,_,_,_,e,ex,_⟩:=I.hok p _ hk
      refine⟨⟨o,e,ex.1⟩,fun a e2=>?_⟩
      cases e2
      exact⟨o,e,ex.2.1⟩
  | _=>exact False.elim ty
def tBM(K:PySem.W.Frag)(T:String)(r:V→List V→Hp→VK→Prop)(to:TE)(t:TA):TE:=fun σ H Q=>to σ H fun x H1=>tyV K T x H1∧t σ H1 fun xs H2=>r x xs H2 Q
variable{o e:Expr}{es:List Expr}{to:TE}{t:TA}{name:Str}{apos cpos:Pos}{T id:String}{r:V→List V→Hp→VK→Prop}
theorem c0s(pa:PlainAttrs T)(slot:Slot T name id)(hty:typeOf (.builtin id)=pure (.type "method_descriptor"))(hm:MtR X id r)(ho:PE X o to)(ha:PA X (e::es) t)
    (hbase:attributeBase o name X.env (eval o X.env)=eval o X.env:=by rfl)
    (hfew:((backTo cpos (starEach (e::es) X.env)).all (fun x=>!x.1) && (backToKw cpos (keywordEach [] X.env)).all (fun x=>x.1.isSome)
      && decide ((e::es).length+([]:List Keyword).length+(if([]:List Keyword).isEmpty then 0 else 1) < 30))=true:=by rfl)
    (hline:(apos.endLine == cpos.line)=true:=by rfl) (hs:starEach (e::es) X.env=(false,eval e X.env)::starEach es X.env:=by rfl) (hplain:(backTo cpos (starEach es X.env)).any (·.1)=false:=by rfl) :
    PE X (.Call (.Attribute o name apos) (e::es) [] cpos) (tBM X.K T r to t):=by
  intro pins s σ H Q I h
  refine wpAny_Call_method_late hbase hfew hline rfl (thn (ho pins s σ H _ I h) fun v s1 ⟨x,H1,I1,r1,ty,q1⟩=>?_)
  obtain⟨h1,h2⟩:=tyV_is I1 r1 ty
  refine⟨T,id,pa,slot,hty,h1,h2,?_⟩
  have hA:=ha cpos pins s1 σ H1 _ I1 q1
  rw[hs]at hA ⊢
  refine Calls.callWith_builtin (by show(false || (backTo cpos (starEach es X.env)).any (·.1))=false;rw[hplain] <;>rfl) (Calls.evalArgs_plain ?_)
  exact thn hA fun us s2 ⟨vs,H2,I2,r2,q2⟩=>hm pins s2 σ H2 x vs v us Q I2 r1 r2 q2
end
end L2
namespace L2
open PySem PySem.Spec PyProof.Rows
def MtM(X:Cx)(id:String)(r:V→List V→Hp→VK→Prop):Prop:=
  ∀(pins:List (Addr × Obj)) (s:Shared) (σ:St) (H:Hp) (x:V) (xs:List V) (v:Value) (us:List Value) (Q:VK),Inv X pins σ H s→RelV x v→Vals xs us→r x xs H Q→
    wpAny (model X.prog X.w) X.A (call (.builtin id) (v::us)) (EP X pins σ Q) X.xe s
theorem Vals.one:∀{x:V} {us:List Value},Vals [x] us→∃u,us=[u]∧RelV x u
  | _,_,.cons r .nil=>⟨_,rfl,r⟩
theorem Vals.two:∀{x y:V} {us:List Value},Vals [x,y] us→∃u v,us=[u,v]∧RelV x u∧RelV y v
  | _,_,_,.cons r (.cons q .nil)=>⟨_,_,rfl,r,q⟩
theorem Vals.zero:∀{us:List Value},Vals [] us→us=[]
  | _,.nil=>rfl
theorem Vals.dropLast{xs:List V}{us:List Value}(h:Vals xs us):Vals xs.dropLast us.dropLast:=by
  induction h with
  | nil=>exact .nil
  | cons r t ih=>
    cases t with
    | nil=>exact .nil
    | cons q t'=>exact .cons r ih
theorem Vals.eraseIdx:∀{xs:List V} {us:List Value} (i:Nat),Vals xs us→Vals (xs.eraseIdx i) (us.eraseIdx i)
  | _,_,_,.nil=>.nil
  | _,_,0,.cons _ t=>t
  | _,_,i+1,.cons r t=>.cons r (Vals.eraseIdx i t)
theorem Vals.reverse{xs:List V}{us:List Value}(h:Vals xs us):Vals xs.reverse us.reverse:=by
  induction h with
  | nil=>exact .nil
  | cons r t ih=>rw[List.reverse_cons,List.reverse_cons];exact Vals.append ih (.cons r .nil)
theorem Vals.rep{xs:List V}{us:List Value}(h:Vals xs us):∀k:Nat,Vals (List.replicate k xs).flatten (List.replicate k us).flatten
  | 0=>.nil
  | k+1=>by
    rw[List.replicate_succ,List.replicate_succ,List.flatten_cons,List.flatten_cons]
    exact Vals.append h (Vals.rep h k)
theorem len_erase{α:Type}:∀(l:List α) (i:Nat),(l.eraseIdx i).length≤l.length
  | [],_=>Nat.le_refl _
  | _::_,0=>Nat.le_succ _
  | _::r,i+1=>Nat.succ_le_succ (len_erase r i)
theorem foldl_rep(its:List Value):∀(k:Nat) (acc:List Value),
    List.foldl (fun x1 x2=>x1++x2) acc.toArray (List.replicate k its.toArray)=(acc++(List.replicate k its).flatten).toArray
  | 0,acc=>by simp
  | k+1,acc=>by
    have e:acc.toArray++its.toArray=(acc++its).toArray:=by simp
    have e2:(acc++its)++(List.replicate k its).flatten=acc++(List.replicate (k+1) its).flatten:=by
      rw[List.replicate_succ,List.flatten_cons,List.append_assoc]
    rw[← e2,← foldl_rep its k (acc++its),← e,List.replicate_succ,List.foldl_cons]
section
variable{X:Cx}{pins:List (Addr × Obj)}{σ:St}{H:Hp}{s:Shared}{l b:Addr}{xs ys zs:List V}
theorem Inv.lset{its its':List Value}{n:Nat}{f:Array Value→Array Value}{t':Nat}(I:Inv X pins σ H s)(hH:H l=some (.lst xs))
    (e:s.heap.get? l=some { cls:=.type "list",data:=.seq its.toArray n }) (hf:f its.toArray=its'.toArray) (hv:Vals ys its') (hz:ys.length≤sizeLine) :
    Inv X pins σ (upd H l (.lst ys)) { s with heap:=s.heap.update l (Obj.mapSeq f),toks:=t' }:=by
  have q:=PySem.IsL.update e f
  rw[hf]at q
  refine I.write (x:=l) (e:=l) (by rw[hH];exact trivial) (.inl rfl) (fun b' u hb hu=>(Heap.get?_update_other s.heap (Obj.mapSeq f) (Ne.symm hb)).trans hu) ⟨_,q⟩ ?_
  exact⟨hz,its',_,hv,q⟩
theorem Inv.lnew{its:List Value}{t':Nat}(I:Inv X pins σ H s)(hv:Vals ys its)(hz:ys.length≤sizeLine) :
    Inv X pins σ (upd H s.heap.objs.size (.lst ys)) { s with heap:=s.heap.push { cls:=.type "list",data:=.seq its.toArray },toks:=t' }:=
  I.laid (fun _ _ q=>Heap.get?_push_of_some _ q) (Nat.le_refl _) ⟨hz,its,0,hv,Heap.get?_push_size _ rfl⟩
theorem Inv.fresh(I:Inv X pins σ H s):H s.heap.objs.size=none:=I.hok.fresh (Nat.le_refl _)
theorem Inv.lstM(I:Inv X pins σ H s)(hH:H l=some (.lst xs)):xs.length≤sizeLine∧∃(its:List Value) (n:Nat),Vals xs its∧xs.length=its.length∧s.heap.get? l=some { cls:=.type "list",data:=.seq its.toArray n }:=by
  obtain⟨z,its,n,r,e⟩:=I.hok l _ hH
  exact⟨z,its,n,r,r.length,e⟩
theorem notLongL{n:Nat}(h:n≤sizeLine):Builtin.List.listTooLong n=false:=by
  unfold Builtin.List.listTooLong
  exact decide_eq_false (by omega)
end
section
variable{X:Cx}
def rAppend:V→List V→Hp→VK→Prop:=fun x vs H Q=>∃l xs y,x=.ref l∧vs=[y]∧H l=some (.lst xs)∧xs.length < sizeLine∧Q .non (upd H l (.lst (xs++[y])))
theorem f0x:MtM X "list.append" rAppend:=by
  intro pins s σ H x vs v us Q I rx rv h
  obtain⟨l,xs,y,rfl,rfl,hH,hz,q⟩:=h
  cases rx
  obtain⟨u,rfl,ru⟩:=rv.one
  obtain⟨z,its,n,r,hl,e⟩:=I.lstM hH
  refine call_meets F.slot_list_append ⟨_,e,rfl⟩ F.entry_list_append (F.args_list_append_2 _ _) (PySem.list_append l its.toArray n u (by rw[List.size_toArray];omega)) ⟨e,?_⟩
  refine⟨.non,_,I.lset (its':=its++[u]) hH e (by simp) (r.append (.cons ru .nil)) ?_,rfl,q⟩
  rw[List.length_append,List.length_singleton]
  omega
def rPopAt:V→List V→Hp→VK→Prop:=fun x vs H Q=>∃l xs i k y,x=.ref l∧vs=[.int i]∧H l=some (.lst xs)∧-(2 ^ 63)≤i∧i < 2 ^ 63∧seqIndex? i xs.length=some k∧xs[k]? = some y∧Q y (upd H l (.lst (xs.eraseIdx k)))
theorem mt_popAt:MtM X "list.pop" rPopAt:=by
  intro pins s σ H x vs v us Q I rx rv h
  obtain⟨l,xs,i,k,y,rfl,rfl,hH,h1,h2,hk,hy,q⟩:=h
  cases rx
  obtain⟨u,rfl,ru⟩:=rv.one
  obtain⟨t,rfl⟩:=ru
  obtain⟨z,its,n,r,hl,e⟩:=I.lstM hH
  obtain⟨w,hw,rw'⟩:=r.get hy
  refine call_meets F.slot_list_pop ⟨_,e,rfl⟩ F.entry_list_pop (F.args_list_pop_2 _ _)
    (MeetsSeq.list_pop_at l its.toArray n i t k w (fitsIndex_both h1 h2) (by rw[List.size_toArray,← hl];exact hk) (by rw[← Array.getElem?_toList];exact hw) (by rw[List.size_toArray];omega)) ⟨e,?_⟩
  refine⟨y,_,I.lset (its':=its.eraseIdx k) hH e ?_ (r.eraseIdx k) ?_,rw',q⟩
  · show its.toArray.eraseIdxIfInBounds k=(its.eraseIdx k).toArray
    rw[List.eraseIdxIfInBounds_toArray]
  · have:=len_erase xs k
    omega
def rCat:R2:=fun x y H Q=>∃l b xs zs,x=.ref l∧y=.ref b∧H l=some (.lst xs)∧H b=some (.lst zs)∧xs.length+zs.length≤sizeLine∧∀p,H p=none→Q (.ref p) (upd H p (.lst (xs++zs)))
theorem op_cat:OpR X (binaryOp .Add) rCat:=by
  intro pins s σ H x y v u Q I rx ry h
  obtain⟨l,b,xs,zs,rfl,rfl,hH,hB,hz,q⟩:=h
  cases rx
  cases ry
  obtain⟨z,its,n,r,hl,e⟩:=I.lstM hH
  obtain⟨z2,its2,n2,r2,hl2,e2⟩:=I.lstM hB
  refine PySem.P.add_list e e2 ?_ (by rw[List.size_toArray,List.size_toArray];omega)
  have ea:its.toArray++its2.toArray=(its++its2).toArray:=by simp
  rw[ea]
  exact⟨.ref _,_,I.lnew (t':=s.toks) (r.append r2) (by rw[List.length_append];omega),rfl,q _ I.fresh⟩
def rRep:R2:=fun x y H Q=>∃l k xs,x=.ref l∧y=.int k∧H l=some (.lst xs)∧-(2 ^ 63)≤k∧k < 2 ^ 63∧xs.length * k.toNat≤sizeLine∧
  ∀p,H p=none→Q (.ref p) (upd H p (.lst (List.replicate k.toNat xs).flatten))
theorem len_rep{α:Type}(xs:List α)(k:Nat):(List.replicate k xs).flatten.length=k * xs.length:=by
  induction k with
  | zero=>simp
  | succ k ih=>rw[List.replicate_succ,List.flatten_cons,List.length_append,ih,Nat.succ_mul,Nat.add_comm]
theorem op_rep:OpR X (binaryOp .Mult) rRep:=by
  intro pins s σ H x y v u Q I rx ry h
  obtain⟨l,k,xs,rfl,rfl,hH,h1,h2,hz,q⟩:=h
  cases rx
  obtain⟨t,rfl⟩:=ry
  obtain⟨z,its,n,r,hl,e⟩:=I.lstM hH
  have hlen:its.toArray.size * k.toNat≤sizeLine:=by rw[List.size_toArray,← hl];exact hz
  have hcap:¬its.toArray.size * k.toNat > (2 ^ 63 - 1) / 8:=by
    have:(sizeLine:Nat)≤(2 ^ 63 - 1) / 8:=by decide
    omega
  have hfit:¬(!Builtin.List.listFitsIndex k)=true:=by
    rw[fitsIndex_both h1 h2]
    exact Bool.false_ne_true
  have hlong:¬Builtin.List.listTooLong (its.toArray.size * k.toNat)=true:=by
    rw[notLongL hlen]
    exact Bool.false_ne_true
  have hnew:List.foldl (fun x1 x2=>x1++x2) #[] (List.replicate (if its.toArray.isEmpty=true then 0 else k.toNat) its.toArray)=(List.replicate k.toNat its).flatten.toArray:=by
    have f0:∀m:Nat,List.foldl (fun x1 x2=>x1++x2) #[] (List.replicate m its.toArray)=(List.replicate m its).flatten.toArray:=fun m=>by
      have:=foldl_rep its m []
      rw[List.nil_append]at this
      exact this
    rw[f0]
    cases its with
    | nil=>simp
    | cons a r'=>rw[if_neg (by simp)]
  refine wpAny_binaryOp_repeat_ref (T:="list") (U:="int") (by decide) ⟨_,e,rfl⟩ (fun s'=>typeIs_int s' k t) noFill_list_mul F.fills_int_mul F.slot_int_rmul repeat_list F.slot_int_index.lookup
    (call_meets F.slot_int_rmul (typeIs_int s k t) F.entry_int_rmul (F.args_int_rmul_2 _ _) (int___rmul___int_list k t l its.toArray n)
      ⟨e,rfl,⟨_,e,rfl⟩,call_meets F.slot_list_mul ⟨_,e,rfl⟩ F.entry_list_mul (F.args_list_mul_2 _ _) (AutoListH.list___mul___list_int_3 l its.toArray n k t hfit hcap hlong) ⟨e,?_⟩⟩)
  rw[hnew]
  exact⟨.ref _,_,I.lnew (t':=s.toks) (r.rep k.toNat) (by rw[len_rep,Nat.mul_comm];exact hz),rfl,q _ I.fresh⟩
end
section
variable{prog:Program}{w:World}{A:Around}{E:Value→Shared→Prop}{s:Shared}
set_option maxRecDepth 100000 in
end
section
variable{X:Cx}
end
end L2
namespace Att
open PySem PySem.W PySem.Calls PyProof.Rows
theorem i0a{P:Params}{h:Heap}:∀(ns:List Int) (vs:List Value),WellAll P h vs (ns.map WData.int)→IntsAre vs ns:=by
  intro ns
  induction ns with
  | nil=>
    intro vs w
    rw[List.map_nil]at w
    cases w
    exact .nil
  | cons n ns ih=>
    intro vs w
    rw[List.map_cons]at w
    cases w with
    | cons a b=>
      cases a
      exact .cons _ _ (ih _ b)
theorem script_of{l:OpenLaw}{n:Nat}(hn:l.most=some n){P:Params}{h:Heap}{args:List WData}{vals:List Value}
    (hpre:l.row.toRowW.claim.pre args=true) (hwl:WellAll P h vals args) :
    ∃a vs ns,vals=[Value.ref a]∧args=[WData.list (ns.map WData.int)]∧h.get? a=some { cls:=.type "list",data:=.seq vs.toArray }∧IntsAre vs ns∧ns.length≤n:=by
  have hsh:WShape.hasAll [] args [.list .int]=true:=(pre_splitW hpre).1
  have hc:l.pre.holds [] { args:=args }=true:=(pre_splitW hpre).2
  obtain⟨d,r,rfl,h1,h2⟩:=hasAllW_cons hsh
  obtain rfl:=hasAllW_nil h2
  obtain⟨xs,rfl,h3⟩:=hasW_list h1
  obtain⟨ns,rfl⟩:=items_int h3
  have hlen:ns.length≤n:=by
    unfold OpenLaw.pre at hc
    have h4:(WTm.not (.lt (.lit (.int (n:Int))) (.len (.arg 0)))).holds [] { args:=[.list (ns.map .int)] }=true:=by
      have h4:=(holds_andW hc).1
      rw[hn]at h4
      exact h4
    have h5:=condW_of h4 (w_not (w_lt w_lit (w_len_list (w_arg rfl))))
    rw[List.length_map]at h5
    refine Nat.le_of_not_lt fun q=>?_
    have q':(n:Int) < ((ns.length:Nat):Int):=by omega
    first
      | (rw[decide_eq_true q']at h5;exact absurd h5 (by decide))
      | (simp at h5;omega)
  cases hwl with
  | cons w1 w2=>
    cases w2
    cases w1 with
    | list ho hall=>exact⟨_,_,ns,rfl,rfl,ho,i0a ns _ hall,hlen⟩
theorem post_true(l:OpenLaw)(args:List WData):l.row.toRowW.claim.post args (.bool true) args=true:=
  postW_of (r:=l.row.toRowW) (X:=(true == true))
    (show WShape.has [] (.bool true) .bool=true by first | rfl | decide | simp[WShape.has,WShape.arms,WShape.armsAll])
    (show(WTm.eq .res (.lit (.bool true))).value [] { args:=args,res:=some (.bool true),after:=args }=some (.bool (true == true))from w_eq_bool (w_res rfl) w_lit) rfl
theorem attach_call{l:OpenLaw}{n:Nat}{q:Program}{loose:List Str}{XP:(Str→Option Value)→Heap→Prop}{YP:World→Heap→Prop}{d:DefRec}
    (hn:l.most=some n) (hdf:d.params.defaults=[])
    (call:∀(w:World) (s₀ s₁:Shared) (mg mb:Str→Option Value) (fa:Addr) (o:Obj) (pm cd doc:Value) (a:Addr) (vs:List Value) (ns:List Int),
      Ground q loose [] XP w s₀ mg mb s₁.heap→YP w s₁.heap→
      s₁.heap.get? fa=some o→o.data=.func (docDef d.name d.params d.body d.scope pm cd doc)→s₁.heap.CodeRec cd d.name→mg d.name=some (.ref fa)→
      s₁.heap.get? a=some { cls:=.type "list",data:=.seq vs.toArray }→IntsAre vs ns→ns.length≤n→s₁.gens=#[]→
      codeAny (model l.prog w) callerA (.call (.ref fa) ⟨[.ref a],[]⟩) (fun r s'=>r=.ok (.ret (.bool true))∧OldK s₁.heap s'.heap∧s'.os=s₁.os∧AllBare s'.gens) s₁) :
    WalkO q loose XP YP l.row.toRowW d [] (fun f vs=>PySem.call f vs):=by
  intro w s₀ s₁ mg mb G Y fa o pm cd doc dV kV ho hd hcd hD hmg hg args vals as hpre hlay hrd hwl hlo
  obtain rfl:dV=.none:=Dflts.none hD hdf
  obtain rfl:kV=.none:=Dflts.noKw hD
  obtain⟨a,vs,ns,rfl,rfl,hobj,hints,hlen⟩:=script_of hn hpre hwl
  refine enter_call (codeAny_mono (call w s₀ s₁ mg mb fa o pm cd doc a vs ns G Y ho (fd_plain hd) hcd hmg hobj hints hlen hg) fun r s' hq=>?_)
  obtain⟨rfl,h2,h3,h4⟩:=hq
  exact⟨.inl ⟨.bool true,.bool true,[],rfl,fun _=>rfl,.bool true,post_true l _,fun _=>⟨List.Pairwise.nil,fun _ hm=>(nomatch hm)⟩⟩,h2,h3,h4⟩
section
variable{prog:Program}{w:World}{A:Around}{E:Value→Shared→Prop}{s:Shared}{K:Frag}
def ledger(h:Heap)(L d:Addr):List (Addr × Obj):=(List.range h.objs.size).filterMap fun a=>if a=L∨a=d then none else(h.get? a).map fun o=>(a,o)
end
end Att
namespace L2
open PySem PySem.Spec PyProof.Rows
theorem vals_ints:∀{vs:List Value} {ns:List Int},IntsAre vs ns→Vals (ns.map V.int) vs
  | _,_,.nil=>.nil
  | _,_,.cons n t h=>.cons ⟨t,rfl⟩ (vals_ints h)
def Only(H:Hp):Prop:=∀b,H b=none∨∃o xs,H b=some (.frz o (.lst xs))
theorem law_call{P:Program}{w:World}{K:PySem.W.Frag}{mg mb:Str→Option Value}{CX:CXT}{k:Nat}{fa a:Addr}{fd:FuncData}{x:Str}{sp:Sp}{s₁:Shared}{vs:List Value}{ns:List Int}
    (KX:K.In s₁.heap) (hns:s₁.heap.Ns mainGlobals mg) (hb:s₁.heap.Ns builtinsNs mb) (hbb:∀x:Str,x≠"__name__"→mb x=bootBuiltins x) (hlim:s₁.heap.NoLimit) (hsee:s₁.heap.NoSeer) (hg:s₁.gens=#[])
    (ha:s₁.heap.get? a=some { cls:=.type "list",data:=.seq vs.toArray }) (hi:IntsAre vs ns) (hl:ns.length≤sizeLine) (hr:Room k callerA)
    (F:∀base:Heap,K.In base→base.Ns mainGlobals mg→FnOk P w K mg base CX k fa fd [x] sp) (hbind:∀(s:Shared) (u:Value),BindsTo s fd ⟨[u],[]⟩ [(x,u)])
    (hsp:∀H:Hp,Only H→SqL K H a (ns.map V.int)→sp [.ref a] H (fun v _=>v=.bl true) fun _ _ _=>False)
    (hCX:∀H e s',CX [] H s₁ (fun _ _ _=>False) e s'→False) :
    codeAny (model P w) callerA (.call (.ref fa) ⟨[.ref a],[]⟩) (fun r s'=>r=.ok (.ret (.bool true))∧OldK s₁.heap s'.heap∧s'.os=s₁.os∧AllBare s'.gens) s₁:=by
  have rv:=vals_ints hi
  have lenV:=hi.length
  have core:∀H:Hp,Only H→SqL K H a (ns.map V.int)→HOk P w H s₁.heap→(∀b,H b≠none→b=a)→(H a≠none→K.lookup a=none)→
      codeAny (model P w) callerA (.call (.ref fa) ⟨[.ref a],[]⟩) (fun r s'=>r=.ok (.ret (.bool true))∧OldK s₁.heap s'.heap∧s'.os=s₁.os∧AllBare s'.gens) s₁:=by
    intro H hO hS hok hA hK
    have base_of:∀{b:Addr} {o:Obj},s₁.heap.get? b=some o→H b=none→(hidT s₁.heap H).get? b=some o:=fun e n=>hidT_get e n
    have noA:∀{b:Addr} {o:Obj} {es:Array DictEntry} {ep:Nat},s₁.heap.get? b=some o→o.data=.dict es ep→H b=none:=fun{b o es ep} e d=>by
      cases q:H b with
      | none=>rfl
      | some u=>
        have e':b=a:=hA b (by rw[q];simp)
        subst e'
        rw[ha]at e;cases e
        have d':Data.seq vs.toArray _=Data.dict es ep:=d
        cases d'
    have nsK:∀{b:Addr} {m:Str→Option Value},s₁.heap.Ns b m→(hidT s₁.heap H).Ns b m:=fun{b m} ⟨o,es,ep,e,d,r⟩=>⟨o,es,ep,base_of e (noA e d),d,r⟩
    have hKb:K.In (hidT s₁.heap H):=fun b o e=>base_of (KX b o e) (by
      cases q:H b with
      | none=>rfl
      | some u=>
        have e':b=a:=hA b (by rw[q];simp)
        subst e'
        rw[hK (by rw[q];simp)]at e;cases e)
    have hM:Mod K mg (hidT s₁.heap H):=⟨hKb,nsK hns,⟨mb,nsK hb,hbb⟩,let⟨mc,h1,h2⟩:=hlim;⟨mc,nsK h1,h2⟩,
      ⟨let⟨mc,h1,h2⟩:=hsee.statics;⟨mc,nsK h1,h2⟩,let⟨mc,h1,h2⟩:=hsee.mods;⟨mc,nsK h1,h2⟩,let⟨mc,h1,h2⟩:=hsee.imp;⟨mc,nsK h1,h2⟩,by
        obtain⟨mg',bm,ob,n1,n2,n3,n4,n5⟩:=hsee.main
        refine⟨mg',bm,ob,nsK n1,n2,base_of n3 ?_,n4,n5⟩
        cases q:H bm with
        | none=>rfl
        | some u=>
          have e':bm=a:=hA bm (by rw[q];simp)
          subst e'
          rw[ha]at n3;cases n3
          exact absurd (show Value.type "list"=Value.type "module" from n4) (fun z=>by injection z with z;exact absurd z (by decide))⟩⟩
    have e0:Env0 P w K mg (hidT s₁.heap H) callerA [] s₁ H:=⟨rfl,hM,fun b o e=>of_hidT e,Nat.le_of_eq (hidT_size _ _),trivial,fun b hb=>absurd (show b∈([]:List Addr)from hb) (by simp),hok,.of_eq hg⟩
    refine codeAny_mono ((F _ hKb (nsK hns)).run callerA [] s₁ H ⟨[.ref a],[]⟩ [.ref a] [.ref a] _ _ hr e0 (hbind s₁ (.ref a)) (.cons rfl .nil) (hsp H hO hS)) fun r s' h=>?_
    cases r with
    | error e=>exact(hCX H e s' h).elim
    | ok fl=>
      cases fl with
      | next=>exact False.elim h
      | brk=>exact False.elim h
      | cont=>exact False.elim h
      | ret u=>
        obtain⟨v,H',os,bare,un,hok',r',q⟩:=h
        have q':v=.bl true:=q
        subst q'
        obtain rfl:u=Value.bool true:=r'
        refine⟨rfl,OldK.of_keep fun b o e=>?_,os,bare⟩
        cases q:H b with
        | none=>exact un.keep b o e q (by intro z;exact absurd (show b∈([]:List Addr)from z) (by simp)) (by simp)
        | some u=>
          rcases hO b with z | ⟨ob,xs,z⟩
          · rw[q]at z;cases z
          · have z2:=un.frzs b ob _ z
            obtain⟨e1,_⟩:=hok b _ z
            obtain⟨e2,_⟩:=hok' b _ z2
            rw[e]at e1;cases e1
            exact e2
  cases hk:K.lookup a with
  | some o=>
    have e:=KX a o hk
    rw[ha]at e
    cases e
    refine core (fun _=>none) (fun _=>.inl rfl) (.inr ⟨_,vs.toArray,_,hk,rfl,rfl,rfl,by rw[List.size_toArray,lenV];exact hl,by simpa using rv⟩) (fun b u z=>by have z':(none:Option HO)=some u:=z;cases z') (fun b z=>absurd rfl z) fun z=>absurd rfl z
  | none=>
    refine core (fun b=>if b=a then some (.frz { cls:=.type "list",data:=.seq vs.toArray } (.lst (ns.map V.int)))else none) (fun b=>?_) (.inl (.inr ⟨{ cls:=.type "list",data:=.seq vs.toArray },if_pos rfl⟩)) (fun b u z=>?_) (fun b z=>?_) fun _=>hk
    · by_cases hb:b=a
      · exact .inr ⟨_,_,if_pos hb⟩
      · exact .inl (if_neg hb)
    · by_cases hb:b=a
      · have z':=(if_pos hb).symm.trans z
        cases z'
        subst hb
        exact⟨ha,by rw[List.length_map];exact hl,vs,_,rv,ha⟩
      · have z':=(if_neg hb).symm.trans z
        cases z'
    · by_cases hb:b=a
      · exact hb
      · exact absurd (if_neg hb) z
end L2
namespace L2
open PySem PySem.Spec PyProof.Rows
abbrev KOf{K:PySem.W.Frag}{h:Heap}(_:K.In h):PySem.W.Frag:=K
theorem walk_of{l:PySem.W.OpenLaw}{n k:Nat}{q:Program}{loose:List Str}{XP:(Str→Option Value)→Heap→Prop}{YP:World→Heap→Prop}{d:DefRec}{K:Params→PySem.W.Frag}{CX:World→CXT}{sp:World→Sp}{x:Str}
    (hn:l.most=some n) (hn2:n≤sizeLine) (hdf:d.params.defaults=[]) (hr:Room k callerA) (hq:importsNone q=true)
    (hY:∀(w:World) (h:Heap),YP w h→(K w.params).In h)
    (F:∀(w:World) (mg:Str→Option Value) (fa:Addr) (h:Heap),(K w.params).In h→h.Ns mainGlobals mg→mg d.name=some (.ref fa)→
      ∃fd:FuncData,(∀(s:Shared) (u:Value),BindsTo s fd ⟨[u],[]⟩ [(x,u)])∧
        ∀base:Heap,(K w.params).In base→base.Ns mainGlobals mg→FnOk l.prog w (K w.params) mg base (CX w) k fa fd [x] (sp w))
    (hsp:∀(w:World) (H:Hp) (a:Addr) (ns:List Int),ns.length≤n→Only H→SqL (K w.params) H a (ns.map V.int)→sp w [.ref a] H (fun v _=>v=.bl true) fun _ _ _=>False)
    (hCX:∀(w:World) (H:Hp) (s:Shared) (e:Value) (s':Shared),CX w [] H s (fun _ _ _=>False) e s'→False) :
    PySem.W.WalkO q loose XP YP l.row.toRowW d [] (fun f vs=>PySem.call f vs):=by
  refine Att.attach_call hn hdf fun w s₀ s₁ mg mb fa o pm cd doc a vs ns G Y ho hd hcd hmg hobj hints hlen hg=>?_
  have KX:=hY w _ Y
  obtain⟨fd,hb,hF⟩:=F w mg fa _ KX G.T.g hmg
  exact law_call KX G.T.g G.T.b G.T.builtins G.T.nolimit (G.T.seer hq) hg hobj hints (Nat.le_trans hlen hn2) hr hF hb (fun H hO hS=>hsp w H a ns hlen hO hS) fun H e s'=>hCX w H s₁ e s'
theorem walk_ofK{l:PySem.W.OpenLaw}{n k:Nat}{q:Program}{loose:List Str}{XP:(Str→Option Value)→Heap→Prop}{YP:World→Heap→Prop}{d:DefRec}{K:Params→PySem.W.Frag}{CX:CXT}{sp:PySem.W.Frag→Sp}{x:Str}
    (hn:l.most=some n) (hn2:n≤sizeLine) (hdf:d.params.defaults=[]) (hr:Room k callerA) (hq:importsNone q=true)
    (hY:∀(w:World) (h:Heap),YP w h→(K w.params).In h)
    (F:∀(w:World) (mg:Str→Option Value) (fa:Addr) (h:Heap),(K w.params).In h→h.Ns mainGlobals mg→mg d.name=some (.ref fa)→
      ∃fd:FuncData,(∀(s:Shared) (u:Value),BindsTo s fd ⟨[u],[]⟩ [(x,u)])∧
        ∀base:Heap,(K w.params).In base→base.Ns mainGlobals mg→FnOk l.prog w (K w.params) mg base CX k fa fd [x] (sp (K w.params)))
    (hsp:∀(K:PySem.W.Frag) (H:Hp) (a:Addr) (ns:List Int),ns.length≤n→Only H→SqL K H a (ns.map V.int)→sp K [.ref a] H (fun v _=>v=.bl true) fun _ _ _=>False)
    (hCX:∀(H:Hp) (s:Shared) (e:Value) (s':Shared),CX [] H s (fun _ _ _=>False) e s'→False) :
    PySem.W.WalkO q loose XP YP l.row.toRowW d [] (fun f vs=>PySem.call f vs):=
  walk_of (K:=K) (CX:=fun _=>CX) (sp:=fun w=>sp (K w.params)) hn hn2 hdf hr hq hY F (fun w H a ns h1 h2 h3=>hsp (K w.params) H a ns h1 h2 h3) fun _ H s e s'=>hCX H s e s'
end L2
namespace L2
open PySem PySem.Spec PyProof.Rows
def a0h(s:Stmt)(j:Nat):Stmt:=match s with
  | .ClassDef _ _ _ body _ _ _ _ _ _ _=>body.getD j (.Pass ⟨0,0,0,0⟩)
  | _=>.Pass ⟨0,0,0,0⟩
def c0j(s:Stmt):Arguments:=match s with
  | .FunctionDef _ a _ _ _ _ _ _ _ _=>a
  | _=>{ posonlyargs:=[],args:=[],vararg:=none,kwonlyargs:=[],kw_defaults:=[],kwarg:=none,defaults:=[] }
def b0z(s:Stmt):List Stmt:=match s with
  | .FunctionDef _ _ b _ _ _ _ _ _ _=>b
  | _=>[]
def a0i(s:Stmt):Scope:=match s with
  | .FunctionDef _ _ _ _ _ _ sc _ _ _=>sc
  | _=>{ kind:=.function,names:=[],isGenerator:=false,isCoroutine:=false }
abbrev CX0:CXT:=fun _ _ _ _ _ _=>False
abbrev E0:XK:=fun _ _ _=>False
theorem b0b{X:Cx}:j0a CX0 X E0:=fun _ _ _ _ _ _ _ h=>h.elim
structure Fun(K:PySem.W.Frag)(x qual:Str)(st:Stmt)(f:Addr)(fd:FuncData):Prop where
  ex:∃(oc:Value) (od:Option Addr) (kV doc pm:Value) (an:Option Addr) (cdv ct:Value) (osl:Array (Option Value)),
    fd=PySem.W.fnOf x qual (c0j st) (b0z st) (a0i st) .none kV doc pm an cdv ct∧K.lookup f=some ⟨oc,od,.func fd,osl⟩∧PySem.W.codeIn K cdv qual=true
  kp:PySem.W.keepIn K (.ref f)=true
section
variable{P:Program}{w:World}{K:PySem.W.Frag}{mg:Str→Option Value}{base:Heap}
theorem Fun.ok{x qual:Str}{st:Stmt}{f:Addr}{fd:FuncData}{N ps:List Str}{k:Nat}{sp:Sp}(F:Fun K x qual st f fd)(S:a0u N ps (a0i st))(len:∀vs H Q E,sp vs H Q E→vs.length=ps.length)
    (hbody:∀(cdv:Value) (A:Around) (outer:List Env) (s:Shared) (H:Hp) (vs:List V) (Q:VK) (E:XK),Room k (A.deeper (envOfC qual (a0i st) s.heap.objs.size f cdv))→sp vs H Q E→
      ∃t,PSs (cxOf CX0 P w K mg base N qual (a0i st) f cdv A outer s H E).nox (b0z st) t∧t { nx:=fun _ H'=>Q .non H',rt:=Q } (start N vs) H):FnOk P w K mg base CX0 (k+1) f fd ps sp:=by
  obtain⟨oc,od,kV,doc,pm,an,cdv,ct,osl,rfl,lk,hcd⟩:=F.ex
  refine fn_of lk hcd S len fun A outer s H vs Q E hr hsp=>?_
  obtain⟨t,h,q⟩:=hbody cdv A outer s H vs Q E hr hsp
  exact⟨t,h.nox,q⟩
theorem Fun.binds{x qual:Str}{st:Stmt}{f:Addr}{fd:FuncData}{ps:List Str}(F:Fun K x qual st f fd)
    (h:∀(kV doc pm:Value) (an:Option Addr) (cdv ct:Value) (us:List Value),us.length=ps.length→bindArgs (PySem.W.fnOf x qual (c0j st) (b0z st) (a0i st) .none kV doc pm an cdv ct) ⟨us,[]⟩=pure (ps.zip us)):Binds K fd ps []:=by
  obtain⟨oc,od,kV,doc,pm,an,cdv,ct,osl,rfl,lk,hcd⟩:=F.ex
  exact .all (h kV doc pm an cdv ct)
theorem fun_mk{x qual:Str}{st:Stmt}{f:Addr}{oc:Value}{od an:Option Addr}{osl:Array (Option Value)}{kV doc pm cdv ct:Value}(l:K.lookup f=some ⟨oc,od,.func (PySem.W.fnOf x qual (c0j st) (b0z st) (a0i st) .none kV doc pm an cdv ct),osl⟩)
    (c:PySem.W.codeIn K cdv qual=true) (k:PySem.W.keepIn K (.ref f)=true):Fun K x qual st f (PySem.W.fnOf x qual (c0j st) (b0z st) (a0i st) .none kV doc pm an cdv ct):=⟨⟨oc,od,kV,doc,pm,an,cdv,ct,osl,rfl,l,c⟩,k⟩
end
section
variable{X:Cx}
theorem pv(i:Nat){x:Str}{pos:Pos}(hN:X.N[i]? = some x:=by rfl)(hv:Vis X.env.scope x:=by first | exact Or.inl rfl | exact Or.inr (Or.inl rfl) | exact Or.inr (Or.inr rfl))(hd:(x == ("__debug__":Str))=false:=by decide)
    (hcd:(x == ("__classdict__":Str))=false:=by decide):PE X (.Name x pos) (tVar i):=pe_var hN hv hd hcd
end
theorem iteF{A B:Prop}(h:B):if false=true then A else B:=by
  rw[if_neg Bool.false_ne_true]
  exact h
theorem iteT{A B:Prop}(h:A):if true=true then A else B:=by
  rw[if_pos rfl]
  exact h
def Same(H H':Hp):Prop:=∀b o,H b=some o→H' b=some o
theorem Same.refl(H:Hp):Same H H:=fun _ _ h=>h
theorem Same.trans{H H1 H2:Hp}(a:Same H H1)(b:Same H1 H2):Same H H2:=fun c o h=>b c o (a c o h)
theorem Same.free{H H':Hp}(e:Same H H'){l:Addr}(h:H' l=Option.none):H l=Option.none:=by
  cases q:H l with
  | none=>rfl
  | some o=>
    rw[e l o q]at h
    cases h
theorem Same.seq{K:PySem.W.Frag}{H H':Hp}{a:Addr}{xs:List V}(e:Same H H')(h:SqL K H a xs):SqL K H' a xs:=by
  rcases h with (h | ⟨o,h⟩) | h
  · exact .inl (.inl (e _ _ h))
  · exact .inl (.inr ⟨o,e _ _ h⟩)
  · exact .inr h
end L2
set_option maxHeartbeats 4000000
namespace L2
open PySem PySem.Spec PyProof.Rows PySem.SeqAt
section
variable{X:Cx}
def CDivB(_ j:Int):Prop:=j≠0∧j.natAbs.log2 < 9000
theorem f0t:OpR X (binaryOp .FloorDiv) (rI CDivB fun i j=>.int (i.fdiv j)):=opI fun _ _ _ _ _ _ _ hc q=>floordiv_int hc.1 q (Or.inl (PyProof.noPylong_of_log2 hc.2))
def rIsi(K:PySem.W.Frag):List V→Hp→VK→Prop:=fun xs H Q=>∃x n t b,xs=[x,.ty n]∧TyOf K H x t∧PySem.W.kitOne K t (.type n)=some b∧Q (.bl b) H
theorem g0d:CallR X (.builtin "isinstance") (rIsi X.K):=by
  intro pins s σ H xs us Q I r h
  obtain⟨x,n,t,b,rfl,ty,e,q⟩:=h
  cases r with
  | cons rx r1=>
    cases r1 with
    | cons ry r2=>
      cases r2
      cases ry
      exact isinst_ok I rx ty e fun tk=>⟨.bl b,H,I.tok _,rfl,q⟩
structure MkO(K:PySem.W.Frag)(C:Addr):Prop where
  makes:PySem.W.makesIn K C=true
  init:PySem.W.findIn K (.ref C) "__init__"=some (some (.builtin "object.__init__"))
  kp:PySem.W.keepIn K (.ref C)=true
def tMakeO(C:Addr):TE:=fun _ H Q=>∀x dx,H x=none→H dx=none→dx≠x→Q (.ref x) (upd (upd H dx (.own x)) x (.ins C dx []))
theorem j0n{C:Addr}{x:Str}{p pos:Pos}(M:MkO X.K C)(hg:Gl X x)(hm:X.mg x=some (.ref C))(hdb:(x == ("__debug__":Str))=false:=by decide):PE X (.Call (.Name x p) [] [] pos) (tMakeO C):=by
  intro pins s σ H Q I h
  refine wpAny_Call_Name_kw (f0j I hg hm ?_ hdb)
  refine PySem.W.callWith_K0 I.kIn M.kp ?_
  have hq:=h (s.heap.objs.size+1) s.heap.objs.size (I.hok.fresh (Nat.le_succ _)) (I.hok.fresh (Nat.le_refl _)) (Nat.ne_of_lt (Nat.lt_succ_self _))
  have I2:=Inv.made (C:=C) I
  have Y:=PySem.W.makes_of (M:=model X.prog X.w) I.kIn M.makes
  refine wpAny_call (make_map0 I.kIn M.makes M.init (fun self=>PySem.W.Looks.of_pure (PySem.W.oi_bind self)) ?_)
  have t1:PySem.W.Looks (model X.prog X.w) ((s.heap.push PySem.W.emptyDict).push (PySem.W.instObj C s.heap.objs.size)) (typeOf (.ref (s.heap.objs.size+1))) (.ref C):=
    (PySem.W.Looks.ld (o:=PySem.W.instObj C s.heap.objs.size) (by have e:((s.heap.push PySem.W.emptyDict).push (PySem.W.instObj C s.heap.objs.size)).get? (s.heap.push PySem.W.emptyDict).objs.size=some (PySem.W.instObj C s.heap.objs.size):=Heap.get?_push_size _ rfl;rw[Heap.size_push]at e;exact e)).andThen .now
  have t2:PySem.W.Looks (model X.prog X.w) ((s.heap.push PySem.W.emptyDict).push (PySem.W.instObj C s.heap.objs.size)) (isInstance (.ref (s.heap.objs.size+1)) (.type "object")) true:=
    t1.andThen (Y.top.keeps fun b o e=>Heap.get?_push_of_some _ (Heap.get?_push_of_some _ e))
  refine PySem.codeAny_call_builtin PySem.W.oi_plain PySem.W.entry_oi (@PySem.W.check_slot (model X.prog X.w) _ _ _ "object.__init__" "object" "__init__" (.ref (s.heap.objs.size+1)) [] [] _ PySem.W.oi_kind PySem.W.oi_split t2 (PySem.W.oi_args (.ref (s.heap.objs.size+1))) ?_)
  rw[PySem.W.oi_run]
  exact wpAny_pure (And.intro rfl ⟨V.ref (s.heap.objs.size+1),_,I2,rfl,hq⟩)
end
mutual
inductive Is(K:PySem.W.Frag)(H:Hp):V→PyData→Prop
  | non:Is K H .non .none
  | bl (b:Bool):Is K H (.bl b) (.bool b)
  | int (i:Int):Is K H (.int i) (.int i)
  | str (x:Str):Is K H (.str x) (.str x)
  | tup {a:Addr} {xs:List V} {ds:List PyData}:SqT K H a xs→IsAll K H xs ds→Is K H (.ref a) (.tuple ds)
  | lst {a:Addr} {xs:List V} {ds:List PyData}:SqL K H a xs→IsAll K H xs ds→Is K H (.ref a) (.list ds)
inductive IsAll(K:PySem.W.Frag)(H:Hp):List V→List PyData→Prop
  | nil:IsAll K H [] []
  | cons {v:V} {vs:List V} {d:PyData} {ds:List PyData}:Is K H v d→IsAll K H vs ds→IsAll K H (v::vs) (d::ds)
end
theorem Same.tup{K:PySem.W.Frag}{H H':Hp}{a:Addr}{xs:List V}(e:Same H H')(h:SqT K H a xs):SqT K H' a xs:=by
  rcases h with (h | ⟨o,h⟩) | h
  · exact .inl (.inl (e _ _ h))
  · exact .inl (.inr ⟨o,e _ _ h⟩)
  · exact .inr h
mutual
theorem Is.same{K:PySem.W.Frag}{H H':Hp}(e:Same H H'):∀{v:V} {d:PyData},Is K H v d→Is K H' v d
  | _,_,.non=>.non
  | _,_,.bl b=>.bl b
  | _,_,.int i=>.int i
  | _,_,.str x=>.str x
  | _,_,.tup h r=>.tup (e.tup h) (IsAll.same e r)
  | _,_,.lst h r=>.lst (e.seq h) (IsAll.same e r)
theorem IsAll.same{K:PySem.W.Frag}{H H':Hp}(e:Same H H'):∀{v:List V} {d:List PyData},IsAll K H v d→IsAll K H' v d
  | _,_,.nil=>.nil
  | _,_,.cons a r=>.cons (Is.same e a) (IsAll.same e r)
end
section
variable{X:Cx}{pins:List (Addr × Obj)}{σ:St}{H:Hp}{s:Shared}
mutual
theorem Is.reads(I:Inv X pins σ H s):∀{v:V} {d:PyData} {u:Value},Is X.K H v d→RelV v u→∃as,Reads s.heap u d as
  | _,_,_,.non,r=>by cases r;exact⟨_,.none⟩
  | _,_,_,.bl b,r=>by cases r;exact⟨_,.bool b⟩
  | _,_,_,.int i,r=>by obtain⟨t,rfl⟩:=r;exact⟨_,.int i t⟩
  | _,_,_,.str x,r=>by obtain⟨t,rfl⟩:=r;exact⟨_,.str x t⟩
  | _,_,_,.tup h a,r=>by
    cases r
    obtain⟨its,rv,⟨o,ho,hc,n,hd⟩,_⟩:=I.tuple h
    obtain⟨as,hr⟩:=IsAll.reads I a rv
    exact⟨as,.tuple ho hc hd (by simpa using hr)⟩
  | _,_,_,.lst h a,r=>by
    cases r
    obtain⟨its,rv,⟨o,n,ho,hc,_,hd⟩,_⟩:=I.list h
    obtain⟨as,hr⟩:=IsAll.reads I a rv
    exact⟨_,.list ho hc hd (by simpa using hr)⟩
theorem IsAll.reads(I:Inv X pins σ H s):∀{vs:List V} {ds:List PyData} {us:List Value},IsAll X.K H vs ds→Vals vs us→∃as,ReadsAll s.heap us ds as
  | _,_,_,.nil,.nil=>⟨_,.nil⟩
  | _,_,_,.cons a r,.cons q t=>by
    obtain⟨as,h1⟩:=Is.reads I a q
    obtain⟨bs,h2⟩:=IsAll.reads I r t
    exact⟨_,.cons h1 h2⟩
end
def rEqD(K:PySem.W.Frag):R2:=fun x y H Q=>∃d d',Is K H x d∧Is K H y d'∧shaped d=true∧shaped d'=true∧noMix d d'=true∧Q (.bl (PySem.Spec.same d d')) H
def rNeD(K:PySem.W.Frag):R2:=fun x y H Q=>∃d d',Is K H x d∧Is K H y d'∧shaped d=true∧shaped d'=true∧noMix d d'=true∧Q (.bl (!PySem.Spec.same d d')) H
theorem op_eqD(hu:X.A.units+64 < cLine):OpR X (compareOp .Eq) (rEqD X.K):=by
  intro pins s σ H x y v u Q I rx ry h
  obtain⟨d,d',hx,hy,sx,sy,nm,q⟩:=h
  obtain⟨as,ra⟩:=hx.reads I rx
  obtain⟨bs,rb⟩:=hy.reads I ry
  exact eq_dataH_same ra rb sx sy hu nm ⟨.bl _,H,I,rfl,q⟩
theorem op_neD(hu:X.A.units+64 < cLine):OpR X (compareOp .NotEq) (rNeD X.K):=by
  intro pins s σ H x y v u Q I rx ry h
  obtain⟨d,d',hx,hy,sx,sy,nm,q⟩:=h
  obtain⟨as,ra⟩:=hx.reads I rx
  obtain⟨bs,rb⟩:=hy.reads I ry
  exact ne_dataH_same ra rb sx sy hu nm ⟨.bl _,H,I,rfl,q⟩
end
theorem iteI{i j:Int}{A B:Prop}(h1:i=j→A)(h2:¬i=j→B):if decide (V.int i=V.int j)=true then A else B:=by
  by_cases h:i=j
  · rw[if_pos (decide_eq_true (congrArg V.int h))];exact h1 h
  · rw[if_neg (by simpa using h)];exact h2 h
theorem iteNI{i j:Int}{A B:Prop}(h1:¬i=j→A)(h2:i=j→B):if(!decide (V.int i=V.int j))=true then A else B:=by
  by_cases h:i=j
  · rw[if_neg (by simpa using h)];exact h2 h
  · rw[if_pos (by simpa using h)];exact h1 h
theorem iteP{p A B:Prop} [Decidable p](h1:p→A)(h2:¬p→B):if decide p=true then A else B:=by
  by_cases h:p
  · rw[if_pos (decide_eq_true h)];exact h1 h
  · rw[if_neg (by simpa using h)];exact h2 h
theorem a0e{H:Hp}{p:Addr}{o:HO}(h:H p=none):Same H (upd H p o):=fun b u e=>by
  rw[a0w (a0t e h)];exact e
end L2
namespace L2
open PySem PySem.Spec PyProof.Rows
section
variable{P:Program}{w:World}{H H':Hp}{h h':Heap}
theorem HOk.there(x:HOk P w H h){a:Addr}{o:HO}(e:H a=some o):∃ob,h.get? a=some ob:=by
  have y:=x a o e
  clear e x
  induction o with
  | lst xs=>obtain⟨_,its,n,r,e⟩:=y;exact⟨_,e⟩
  | tup xs=>obtain⟨_,its,r,⟨ob,e,c⟩,_⟩:=y;exact⟨_,e⟩
  | dK kvs=>obtain⟨_,_,vs,r,ob,es,ep,e,c⟩:=y;exact⟨_,e⟩
  | dT kvs=>obtain⟨_,_,xs,r,ob,es,ep,e,c⟩:=y;exact⟨_,e⟩
  | set S n=>obtain⟨ob,es,ep,t,e,c⟩:=y;exact⟨_,e⟩
  | ins C dx fs=>obtain⟨d,z,ne,e,_⟩:=y;exact⟨_,e⟩
  | own y'=>exact y
  | xd fs=>obtain⟨mA,⟨od,es,ep,e,c⟩,r⟩:=y;exact⟨_,e⟩
  | rng lo hi=>obtain⟨t,u,v,e⟩:=y;exact⟨_,e⟩
  | frz ob u ih=>exact⟨_,y.1⟩
  | tbl ps=>exact⟨_,y⟩
  | met f y'=>exact⟨_,y⟩
  | ext φ=>exact y.2.1
theorem HOk.nothing(x:HOk P w H h){a:Addr}(n:h.get? a=none):H a=none:=by
  cases q:H a with
  | none=>rfl
  | some o=>obtain⟨ob,e⟩:=x.there q;rw[n]at e;cases e
theorem HOk.loose(x:HOk P w H h)(k:∀b u,H b≠none→h.get? b=some u→h'.get? b=some u):HOk P w H h':=fun a o e=>
  (x a o e).stay (fun b u hb q=>k b u (by
    rcases hb with z | z
    · rw[z,e];exact nofun
    · rw[z];exact nofun) q) (fun _ q=>q) fun _ _ q=>q
def XT(h:Heap)(a T C:Addr):Prop:=∃oe vs a0 oT ts,h.get? a=some oe∧(oe.cls=.ref C∧vs[0]? = some a0)∧oe.data=.fields vs∧vs[1]? = some (.ref T)∧T≠a∧h.get? T=some oT∧oT.data=.fields ts∧ts[3]? = some .none
structure Fly(P:Program)(w:World)(fs:List Addr)(H H':Hp)(s s':Shared)(a T C:Addr):Prop where
  os:s'.os=s.os
  bare:AllBare s'.gens
  un:Un fs [] H H' s.heap s'.heap
  hok:HOk P w H' s'.heap
  xt:XT s'.heap a T C
  na:s.heap.get? a=none
  nT:s.heap.get? T=none
  ha:H' a=none
  hT:H' T=none
def CX1(P:Program)(w:World):CXT:=fun outer H s E e s'=>∃a T C H',e=.ref a∧Fly P w (frs outer) H H' s s' a T C∧E (.ref C) none H'
theorem c0y{h base base':Heap}:∀{l:List Env},h.FunFrames base l→(∀b∈frs l,base'.get? b=none)→h.FunFrames base' l
  | [],_,_=>trivial
  | env::r,⟨k,⟨L,o,hf,_,ho,hd⟩,t⟩,hb=>⟨k,⟨L,o,hf,hb L (by unfold frs;rw[List.filterMap_cons,hf];exact List.mem_cons_self),ho,hd⟩,
      c0y t fun b hm=>hb b (by unfold frs;rw[List.filterMap_cons,hf];exact List.mem_cons_of_mem _ hm)⟩
abbrev hid(h:Heap)(a T:Addr)(fs:List Addr):Heap:=PySem.W.hideAll h (a::T::fs)
end
section
variable{P:Program}{w:World}{H H':Hp}{s s':Shared}{a T C:Addr}{l:List Env}{base0:Heap}
theorem Fly.base(F:Fly P w (frs l) H H' s s' a T C)(ff:s'.heap.FunFrames base0 l):∃a0,Heap.FlyingW (hid s'.heap a T (frs l)) l a (.ref C) a0 s'.heap:=by
  obtain⟨oe,vs,a0,oT,ts,e1,e2,e3,e4,e5,e6,e7,e8⟩:=F.xt
  exact⟨a0,fun b o e=>PySem.W.of_hideAll _ e,PySem.W.hideAll_none _ (by simp),c0y ff fun b hb=>PySem.W.hideAll_none _ (by simp[hb]),
    oe,vs,T,oT,ts,e1,e2,e3,e4,PySem.W.hideAll_none _ (by simp),e5,e6,e7,e8⟩
theorem Fly.back{l':List Env}{h':Heap}{a0:Value}{tk:Nat}(F:Fly P w (frs l) H H' s s' a T C)(ff:s'.heap.FunFrames base0 l)(fH:∀b∈frs l,H' b=none)
    (fl:Heap.FlyingW (hid s'.heap a T (frs l)) l' a (.ref C) a0 h') (up:s'.heap.UpToSlots h'):∃T',Fly P w (frs l) H H' s { s' with heap:=h',toks:=tk } a T' C:=by
  obtain⟨k1,_,_,oe,vs,T',oT,ts,e1,e2,e3,e4,e0,e5,e6,e7,e8⟩:=fl
  have keep:∀b o,s'.heap.get? b=some o→b≠a→b≠T→b ∉ frs l→h'.get? b=some o:=fun b o e n1 n2 n3=>k1 b o (PySem.W.hideAll_get _ e (by simp[n1,n2,n3]))
  have slot:∀b o,s'.heap.get? b=some o→b∈frs l→(∃sl,h'.get? b=some { o with slots:=sl })∧∀vs,o.data≠.fields vs:=fun b o e hb=>by
    obtain⟨_,o1,q1,q2⟩:=ff.mem hb
    rw[e]at q1;cases q1
    exact⟨up b o e q2,q2⟩
  have nf:T' ∉ frs l:=fun hb=>by
    obtain⟨_,o1,q1,q2⟩:=ff.mem hb
    obtain⟨sl,q3⟩:=up _ o1 q1 q2
    rw[e6]at q3;cases q3
    exact q2 _ e7
  have tt:T'=T∨s'.heap.get? T'=none:=by
    by_cases z:T'=T
    · exact .inl z
    · right
      cases q:s'.heap.get? T' with
      | none=>rfl
      | some o=>
        have:=PySem.W.hideAll_get (a::T::frs l) q (by simp[e5,z,nf])
        rw[e0]at this;cases this
  have hT':H' T'=none:=by
    rcases tt with z | z
    · rw[z];exact F.hT
    · exact F.hok.nothing z
  have nT':s.heap.get? T'=none:=by
    rcases tt with z | z
    · rw[z];exact F.nT
    · cases q:s.heap.get? T' with
      | none=>rfl
      | some o=>
        obtain⟨o',q'⟩:=F.un.there _ o q (by simp)
        rw[z]at q';cases q'
  have ne:∀b o,s.heap.get? b=some o→b≠a∧b≠T:=fun b o e=>⟨(fun z=>by rw[z,F.na]at e;cases e),(fun z=>by rw[z,F.nT]at e;cases e)⟩
  refine⟨T',F.os,F.bare,⟨fun b o e n hb hx=>?_,fun b o e n hb hx=>?_,F.un.free,fun b o e hx=>?_,F.un.tups,F.un.frzs,F.un.tbls⟩,F.hok.loose fun b u hb e=>?_,⟨oe,vs,a0,oT,ts,e1,e2,e3,e4,e5,e6,e7,e8⟩,F.na,nT',F.ha,hT'⟩
  · exact keep b o (F.un.keep b o e n hb hx) (ne b o e).1 (ne b o e).2 hb
  · obtain⟨sl,q⟩:=F.un.slot b o e n hb hx
    obtain⟨⟨sl',q'⟩,_⟩:=slot b _ q hb
    exact⟨sl',q'⟩
  · obtain⟨o',q⟩:=F.un.there b o e hx
    by_cases hb:b∈frs l
    · obtain⟨⟨sl,q'⟩,_⟩:=slot b o' q hb
      exact⟨_,q'⟩
    · exact⟨o',keep b o' q (ne b o e).1 (ne b o e).2 hb⟩
  · exact keep b u e (fun z=>hb (z▸F.ha)) (fun z=>hb (z▸F.hT)) fun z=>hb (fH b z)
def ExcO(a C:Addr):HO:=.ext fun h=>∃o,h.get? a=some o∧o.cls=.ref C
theorem Fly.un'(F:Fly P w (frs l) H H' s s' a T C):Un (frs l) [] H (upd H' a (ExcO a C)) s.heap s'.heap where
  keep:=F.un.keep
  slot:=F.un.slot
  free:=fun b o e n hx=>by rw[a0w (fun z=>by rw[z,F.na]at e;cases e)];exact F.un.free b o e n hx
  there:=F.un.there
  tups:=fun b xs e=>by have:=F.un.tups b xs e;rw[a0w (a0t this F.ha)];exact this
  frzs:=fun b o u e=>by have:=F.un.frzs b o u e;rw[a0w (a0t this F.ha)];exact this
  tbls:=fun b ps e=>by obtain⟨m,q⟩:=F.un.tbls b ps e;exact⟨m,by rw[a0w (a0t q F.ha)];exact q⟩
theorem Fly.hok'(F:Fly P w (frs l) H H' s s' a T C):HOk P w (upd H' a (ExcO a C)) s'.heap:=fun b o e=>by
  by_cases z:b=a
  · subst z
    rw[a0c]at e;cases e
    obtain⟨oe,vs,a0,oT,ts,e1,e2,_⟩:=F.xt
    exact⟨⟨oe,e1,e2.1⟩,⟨oe,e1⟩,fun h1 h2 ⟨o,q1,q2⟩ k=>⟨o,k o q1,q2⟩⟩
  · rw[a0w z]at e
    exact(F.hok b o e).stay (fun _ _ _ q=>q) (fun c q=>by rw[a0w (a0t q F.ha)];exact q) fun c xs q=>by rw[a0w (a0t q F.ha)];exact q
end
def XP(X:Cx)(pins:List (Addr × Obj))(σ:St)(E:XK)(e:Value)(s':Shared):Prop:=∃s H,Inv X pins σ H s∧CX1 X.prog X.w X.stack H s E e s'
structure Thru(X:Cx)(E:XK):Prop where
  stk:X.stack=X.env::X.outer
  fr:X.env.frame=some X.env.locals
  ex:X.ex=[]
  xe:X.xe=fun e s'=>wpAny (model X.prog X.w) X.A (leaving X.env e) (fun _ s''=>CX1 X.prog X.w X.outer X.H₀ X.s₀ E e s'') (fun e' s''=>CX1 X.prog X.w X.outer X.H₀ X.s₀ E e' s'') s'
section
variable{X:Cx}{pins:List (Addr × Obj)}{σ:St}{H:Hp}{s s':Shared}{E:XK}{e:Value}
theorem Fly.inv{H':Hp}{a T C:Addr}(I:Inv X pins σ H s)(F:Fly X.prog X.w (frs X.stack) H H' s s' a T C):Inv X pins σ H' s':=I.call' F.os F.un F.hok F.bare (ch:=[]) (fun _ z=>absurd z (by simp))
theorem Fly.inv'{H':Hp}{a T C:Addr}(I:Inv X pins σ H s)(F:Fly X.prog X.w (frs X.stack) H H' s s' a T C):Inv X pins σ (upd H' a (ExcO a C)) s':=I.call' F.os F.un' F.hok' F.bare (ch:=[]) (fun _ z=>absurd z (by simp))
theorem Fly.out{H':Hp}{a T C:Addr}(R:Thru X E)(I:Inv X pins σ H s)(F:Fly X.prog X.w (frs X.stack) H H' s s' a T C)(q:E (.ref C) none H'):CX1 X.prog X.w X.outer X.H₀ X.s₀ E (.ref a) s':=by
  have fsub:∀b∈frs X.outer,b∈frs X.stack:=fun b hb=>by rw[R.stk];unfold frs;rw[List.filterMap_cons,R.fr];exact List.mem_cons_of_mem _ hb
  have u0:Un (frs X.stack) [] X.H₀ H X.s₀.heap s.heap:=I.base.mono fsub (by rw[R.ex];simp)
  have u1:=u0.trans F.un
  have neL:∀b o,X.s₀.heap.get? b=some o→b≠X.env.locals:=fun b o e=>Nat.ne_of_lt (Nat.lt_of_lt_of_le (Heap.lt_size e) I.ok.above)
  have nin:∀b o,X.s₀.heap.get? b=some o→b ∉ frs X.outer→b ∉ frs X.stack:=fun b o e hb hm=>by
    rw[R.stk]at hm
    unfold frs at hm
    rw[List.filterMap_cons,R.fr]at hm
    rcases List.mem_cons.mp hm with z | z
    · exact neL b o e z
    · exact hb z
  have none0:∀b,s.heap.get? b=none→X.s₀.heap.get? b=none:=fun b n=>by
    cases q:X.s₀.heap.get? b with
    | none=>rfl
    | some o=>
      obtain⟨o',q'⟩:=I.base.there b o q (by rw[R.ex];simp)
      rw[n]at q';cases q'
  exact⟨a,T,C,H',rfl,⟨F.os.trans I.os,F.bare,⟨fun b o e n hb hx=>u1.keep b o e n (nin b o e hb) hx,fun b o e n hb hx=>u1.slot b o e n (fsub b hb) hx,u1.free,u1.there,u1.tups,u1.frzs,u1.tbls⟩,F.hok,F.xt,none0 a F.na,none0 T F.nT,F.ha,F.hT⟩,q⟩
theorem XP.leave(R:Thru X E)(x:XP X pins σ E e s'):X.xe e s':=by
  obtain⟨s,H,I,a,T,C,H',rfl,F,q⟩:=x
  have J:=F.inv I
  obtain⟨a0,fl⟩:=F.base J.stack
  rw[R.xe]
  rw[R.stk]at fl
  refine wpAny_leaves_onW (J.ok.frames.trans (by rw[R.stk])) R.fr fl fun h' fl' up=>?_
  rw[← R.stk]at fl'
  obtain⟨T',F'⟩:=F.back (tk:=s'.toks) J.stack J.stkFree fl' up
  exact F'.out R I q
theorem made_leave{h':Heap}{a C:Addr}{vs:List Value}(R:Thru X E)(I:Inv X pins σ H s)(m:Heap.MadeExcOf s.heap h' a (.ref C) vs)(q:E (.ref C) none H):X.xe (.ref a) { s with heap:=h' }:=by
  have J:Inv X pins σ H { s with heap:=h' }:=I.kept (t':=s.toks) m.keeps
  obtain⟨t,he,htn,ht⟩:=m.there
  have ha:H a=none:=I.hok.nothing m.new
  rw[R.xe]
  have ff:h'.FunFrames (hid h' a a (frs X.stack)) X.stack:=c0y J.stack fun b hb=>PySem.W.hideAll_none _ (by simp[hb])
  have ff':h'.FunFrames (hid h' a a (frs X.stack)) (X.env::X.outer):=by
    have z:=J.stack
    rw[R.stk]at z
    exact c0y z fun b hb=>PySem.W.hideAll_none _ (by rw[R.stk];simp[hb])
  refine wpAny_leaving_firstW (a0:=.ref t) (base:=hid h' a a (frs X.stack)) (J.ok.frames.trans (by rw[R.stk])) ff' R.fr he (fun b o e=>PySem.W.of_hideAll _ e) (PySem.W.hideAll_none _ (by simp)) rfl rfl rfl fun h2 hL=>?_
  obtain⟨k1,_,⟨oe,ws,T',oT,ts,e1,e2,e3,e4,e0,e5,e6,e7,e8⟩,k4⟩:=hL
  have ffm:∀b∈frs X.stack,∃o,h'.get? b=some o∧∀vs,o.data≠.fields vs:=fun b hb=>(ff.mem hb).2
  have keep:∀b o,h'.get? b=some o→b≠a→b ∉ frs X.stack→h2.get? b=some o:=fun b o e n1 n3=>k1 b o (PySem.W.hideAll_get _ e (by simp[n1,n3]))
  have nf:T' ∉ frs X.stack:=fun hb=>by
    obtain⟨o1,q1,q2⟩:=ffm _ hb
    obtain⟨sl,q3⟩:=k4 _ o1 q1 q2
    rw[e6]at q3;cases q3
    exact q2 _ e7
  have nT:h'.get? T'=none:=by
    cases q:h'.get? T' with
    | none=>rfl
    | some o=>
      have:=PySem.W.hideAll_get (a::a::frs X.stack) q (by simp[e5,nf])
      rw[e0]at this;cases this
  have ne:∀b o,s.heap.get? b=some o→b≠a:=fun b o e z=>by rw[z,m.new]at e;cases e
  have F':Fly X.prog X.w (frs X.stack) H H s { s with heap:=h2 } a T' C:=by
    refine⟨rfl,I.bare,⟨fun b o e n hb hx=>keep b o (m.keeps b o e) (ne b o e) hb,fun b o e n hb hx=>?_,fun _ _ _ n _=>n,fun b o e hx=>?_,fun _ _ e=>e,fun _ _ _ e=>e,fun b ps e=>⟨#[],by rw[e];simp⟩⟩,J.hok.loose fun b u hb e=>keep b u e (fun z=>hb (z▸ha)) fun z=>hb (J.stkFree b z),
      ⟨oe,ws,_,oT,ts,e1,e2,e3,e4,e5,e6,e7,e8⟩,m.new,?_,ha,J.hok.nothing nT⟩
    · obtain⟨o1,q1,q2⟩:=ffm b hb
      have q3:=m.keeps b o e
      rw[q1]at q3;cases q3
      exact k4 b _ q1 q2
    · by_cases hb:b∈frs X.stack
      · obtain⟨o1,q1,q2⟩:=ffm b hb
        obtain⟨sl,q3⟩:=k4 b o1 q1 q2
        exact⟨_,q3⟩
      · exact⟨o,keep b o (m.keeps b o e) (ne b o e) hb⟩
    · cases q:s.heap.get? T' with
      | none=>rfl
      | some o=>rw[m.keeps _ o q]at nT;cases nT
  exact F'.out R I q
end
end L2
namespace L2
open PySem PySem.Spec PyProof.Rows
abbrev bmV:List Value:=[.type "ValueError",.type "Exception",.type "BaseException",.type "object"]
theorem excIn_obj{K:PySem.W.Frag}{h:Heap}{C:Addr}{bmB:List Value}{newId:String}(X:K.In h)(q:PySem.W.excIn K C bmB newId=true) :
    ∃bm N nm q bs hdct sn sub ab col dd k0 k1 k2 k3 k5 mN,h.get? C=some (excClassObj nm q C N bs bm hdct sn sub ab col dd k0 k1 k2 k3 k5 newId)∧h.Ns N mN∧mN "__init__"=none∧OwnTail h bmB bm:=by
  unfold PySem.W.excIn at q
  split at q
  · rename_i dd cd sl ho
    split at q
    · rename_i C' bm k0 k1 k2 k3 n k5 hm hs
      simp only[Bool.and_eq_true,beq_iff_eq,Bool.not_eq_true']at q
      obtain⟨⟨⟨⟨⟨rfl,rfl⟩,hdel⟩,ht⟩,hok⟩,hni⟩:=q
      obtain⟨nm,bs,mro,ns,qn,hd,sn,sub,ab,col,del⟩:=cd
      dsimp only at hm hdel hok hni
      subst hm hdel
      have hsl:sl=#[k0,k1,k2,k3,some (.builtin n),k5]:=by
        obtain⟨l⟩:=sl
        simp only at hs
        rw[hs]
      subst hsl
      exact⟨bm,ns,nm,qn,bs,hd,sn,sub,ab,col,dd,k0,k1,k2,k3,k5,_,X _ _ ho,.of_isNs (PySem.W.isNs_of_in X hok),PySem.W.nsMap_none_of_in X hok hni,PySem.W.tail_of_in X ht⟩
    · cases q
  · cases q
theorem FnOk.quiet{P:Program}{w:World}{K:PySem.W.Frag}{mg:Str→Option Value}{base:Heap}{k:Nat}{f:Addr}{fd:FuncData}{ps:List Str}{sp:Sp}(F:FnOk P w K mg base (CX1 P w) k f fd ps sp) :
    FnOk P w K mg base CX0 k f fd ps (fun vs H Q _=>sp vs H Q E0):=
  ⟨fun vs H Q _ h=>F.len vs H Q E0 h,fun A outer s H args us vs Q E hr e0 hb r h=>codeAny_mono (F.run A outer s H args us vs Q E0 hr e0 hb r h) fun r s' hq=>by
    cases r with
    | error e=>obtain⟨_,_,_,_,_,_,z⟩:=hq;exact z.elim
    | ok fl=>cases fl <;>exact hq⟩
section
variable{P:Program}{w:World}{K:PySem.W.Frag}{mg:Str→Option Value}{base:Heap}
theorem Fun.okx{x qual:Str}{st:Stmt}{f:Addr}{fd:FuncData}{N ps:List Str}{k:Nat}{sp:Sp}(F:Fun K x qual st f fd)(S:a0u N ps (a0i st))(len:∀vs H Q E,sp vs H Q E→vs.length=ps.length)
    (hbody:∀(cdv:Value) (A:Around) (outer:List Env) (s:Shared) (H:Hp) (vs:List V) (Q:VK) (E:XK),Room k (A.deeper (envOfC qual (a0i st) s.heap.objs.size f cdv))→sp vs H Q E→
      ∃t,PSs (cxOf (CX1 P w) P w K mg base N qual (a0i st) f cdv A outer s H E) (b0z st) t∧t { nx:=fun _ H'=>Q .non H',rt:=Q } (start N vs) H):FnOk P w K mg base (CX1 P w) (k+1) f fd ps sp:=by
  obtain⟨oc,od,kV,doc,pm,an,cdv,ct,osl,rfl,lk,hcd⟩:=F.ex
  exact fn_of lk hcd S len fun A outer s H vs Q E hr hsp=>hbody cdv A outer s H vs Q E hr hsp
theorem Thru.own{X:Cx}{E:XK}(R:Thru X E):PassesOwn (model X.prog X.w) X.A X.env X.xe:=by rw[R.xe];exact PassesOwn.leaving
theorem b0k{N:List Str}{qual:Str}{scope:Scope}{f:Addr}{cd:Value}{A:Around}{outer:List Env}{s:Shared}{H:Hp}{E:XK}:Thru (cxOf (CX1 P w) P w K mg base N qual scope f cd A outer s H E) E:=⟨rfl,rfl,rfl,rfl⟩
end
abbrev TX:=St→Hp→VK→XK→Prop
abbrev TSX:=Ends→XK→St→Hp→Prop
def PEX(X:Cx)(e:Expr)(t:TX):Prop:=
  ∀(pins:List (Addr × Obj)) (s:Shared) (σ:St) (H:Hp) (Q:VK) (E:XK),Inv X pins σ H s→t σ H Q E→wpAny (model X.prog X.w) X.A (eval e X.env) (EP X pins σ Q) (XP X pins σ E) s
def PSX(X:Cx)(st:Stmt)(t:TSX):Prop:=
  ∀(pins:List (Addr × Obj)) (s:Shared) (σ:St) (H:Hp) (D:Ends) (E:XK),Inv X pins σ H s→t D E σ H→wpAny (model X.prog X.w) X.A (exec st X.env) (SP X pins D) (XP X pins σ E) s
def PSXs(X:Cx)(st:List Stmt)(t:TSX):Prop:=
  ∀(pins:List (Addr × Obj)) (s:Shared) (σ:St) (H:Hp) (D:Ends) (E:XK),Inv X pins σ H s→t D E σ H→wpAny (model X.prog X.w) X.A (execs st X.env) (SP X pins D) (XP X pins σ E) s
section
variable{X:Cx}{k:Nat}{f C:Addr}{fd:FuncData}{ps:List Str}{sp:Sp}{dvs:List V}{ds:List Value}{E:XK}{x m:Str}{p np cpos pos apos:Pos}{e o:Expr}{es:List Expr}{ta:TE}{t:TA}{tx:TX}
theorem PEX.thru(R:Thru X E)(h:PEX X e tx):PE X e (fun σ H Q=>tx σ H Q E):=fun pins s σ H Q I q=>wpAny_mono (h pins s σ H Q E I q) (fun _ _ z=>z) fun _ _ z=>z.leave R
theorem run_fnX{pins:List (Addr × Obj)}{σ:St}{H:Hp}{s:Shared}{Q:VK}{us:List Value}{vs:List V}(F:FnOk X.prog X.w X.K X.mg X.base (CX1 X.prog X.w) k f fd ps sp)(hr:Room k X.A)(hb:Binds X.K fd ps ds)(hd:Vals dvs ds)
    (I:Inv X pins σ H s) (r:Vals vs us) (h:sp (vs++dvs) H Q E):wpAny (model X.prog X.w) X.A (call (.ref f) us) (EP X pins σ Q) (XP X pins σ E) s:=by
  have r2:Vals (vs++dvs) (us++ds):=r.append hd
  have hl:(us++ds).length=ps.length:=by rw[← r2.length];exact F.len _ _ _ _ h
  refine wpAny_call (codeAny_mono (F.run X.A X.stack s H ⟨us,[]⟩ (us++ds) (vs++dvs) Q E hr I.env0 (hb s us I.kIn hl) r2 h) fun r s' hq=>?_)
  cases r with
  | error e=>exact⟨s,H,I,hq⟩
  | ok fl=>
    cases fl with
    | ret u=>exact I.after hq
    | next=>exact False.elim hq
    | brk=>exact False.elim hq
    | cont=>exact False.elim hq
theorem c0b(F:FnOk X.prog X.w X.K X.mg X.base (CX1 X.prog X.w) k f fd ps sp)(hr:Room k X.A)(hg:Gl X x)(hm:X.mg x=some (.ref f))(hk:PySem.W.keepIn X.K (.ref f)=true)(hb:Binds X.K fd ps ds)(hd:Vals dvs ds)
    (ha:PA X.nox (e::es) t) (hdb:(x == ("__debug__":Str))=false:=by decide) (he:starEach (e::es) X.env=(false,eval e X.env)::starEach es X.env:=by rfl) (hpl:(backTo pos (starEach es X.env)).any (·.1)=false:=by rfl) :
    PEX X (.Call (.Name x p) (e::es) [] pos) (fun σ H Q E=>tCall sp dvs E t σ H Q):=by
  intro pins s σ H Q E I h
  refine wpAny_Call_Name_kw (f0j I hg hm ?_ hdb)
  exact PySem.W.callWith_K (h₀:=X.base) I.ok.mod.kin hk (wpAny_mono (ha pos pins s σ H _ (I.wish _) h) (fun us s1 ⟨vs,H1,I1,r,q⟩=>⟨I1.unwish.kIn,run_fnX F hr hb hd I1.unwish r q⟩) fun _ _ z=>z.elim) he hpl
theorem px_meth{pl:Sem Bool}(he:PE X.nox o ta)(c:Cls X.K C)(hm:Meth X.K C m f)(F:FnOk X.prog X.w X.K X.mg X.base (CX1 X.prog X.w) k f fd ps sp)(hr:Room k X.A)(hb:Binds X.K fd ps ds)(hd:Vals dvs ds)(ha:PA X.nox (e::es) t)
    (hst:starEach (e::es) X.env=(false,eval e X.env)::starEach es X.env:=by rfl) (hpl:(backTo pos (starEach es X.env)).any (·.1)=false:=by rfl)
    (ht:eval (.Call (.Attribute o m apos) (e::es) [] pos) X.env=(do
      let ov ← eval o X.env
      standAt apos.atName
      let(f,first) ← holding [ov] (getMethod ov m pl)
      callWith pos f first (backTo pos (starEach (e::es) X.env)) (backToKw pos (keywordEach [] X.env))):=by rfl) :
    PEX X (.Call (.Attribute o m apos) (e::es) [] pos) (fun σ H Q E=>tMeth C m sp dvs E ta t σ H Q):=by
  intro pins s σ H Q E I h
  refine PySem.W.methodCall_KW (pl:=pl) (wpAny_mono (he pins s σ H _ (I.wish _) h) (fun u s1 ⟨x,H1,I1,rx,a,dx,fs,ex,ea,l,q⟩=>?_) fun _ _ z=>z.elim) ht
  subst ex
  obtain rfl:u=Value.ref a:=rx
  refine i0y I1.unwish ea c hm l ?_
  exact PySem.W.callWith_K (first:=[.ref a]) (h₀:=X.base) I.ok.mod.kin hm.kp (wpAny_mono (ha pos pins s1 σ H1 _ I1 q) (fun us s2 ⟨vs,H2,I2,r,q2⟩=>⟨I2.unwish.kIn,run_fnX (us:=.ref a::us) (vs:=.ref a::vs) F hr hb hd I2.unwish (.cons rfl r) q2⟩) fun _ _ z=>z.elim) hst hpl
def tRaise(E:XK)(C:Addr)(t:TA):TS:=fun _ σ H=>t σ H fun vs H1=>vs.length≤sizeLine∧E (.ref C) none H1
theorem c0r(R:Thru X E)(hc:X.calm=true)(q:PySem.W.excIn X.K C bmV "ValueError.__new__"=true)(hg:Gl X x)(hm:X.mg x=some (.ref C))(ha:PA X.nox (e::es) t)
    (hdb:(x == ("__debug__":Str))=false:=by decide) (he:starEach (e::es) X.env=(false,eval e X.env)::starEach es X.env:=by rfl) (hpl:(backTo cpos (starEach es X.env)).any (·.1)=false:=by rfl) :
    PS X (.Raise (some (.Call (.Name x np) (e::es) [] cpos)) none pos) (tRaise E C t):=by
  intro pins s σ H D I h
  obtain⟨bm,N,nm,qn,bs,hdct,sn,sub,ab,col,dd,k0,k1,k2,k3,k5,mN,hC,hN,hni,T⟩:=excIn_obj I.mod.kin q
  have hh:X.A.handled=none:=I.ok.hd hc
  have ev:=ha cpos pins s σ H _ (I.wish _) h
  refine wpAny_Raise_call_subU (C:=C) (nm:=nm) (q:=qn) (N:=N) (bs:=bs) (bm:=bm) (hdct:=hdct) (sn:=sn) (sub:=sub) (ab:=ab) (col:=col) (dd:=dd) (k0:=k0) (k1:=k1) (k2:=k2) (k3:=k3) (k5:=k5)
    PySem.F.excBase_ValueError (by decide) PySem.F.excBase_ValueError (mN:=mN) (T.hasType PySem.F.excBase_ValueError.hasBase) hh (by rw[he];show(false || (backTo cpos (starEach es X.env)).any (·.1))=false;rw[hpl];rfl) hni (f0j I hg hm ⟨rfl,?_⟩ hdb)
  rw[he]
  change wpAny _ _ (spliced (backTo cpos (starEach (e::es) X.env))) _ _ _ at ev
  rw[he]at ev
  refine Calls.evalArgs_plain (wpAny_mono ev (fun us s2 ⟨vs,H1,I1,r,hl,q2⟩=>?_) fun _ _ z=>z.elim)
  have J:Inv X pins σ H1 s2:=I1.unwish
  exact⟨rfl,by rw[← r.length];exact hl,J.bk _ _ hC,hN.keeps J.bk,T.keeps J.bk,fun h' a m=>made_leave R J m q2⟩
end
end L2
namespace L2
open PySem PySem.Spec PyProof.Rows
abbrev Cx.caught(X:Cx)(a:Addr):Cx:={ X with A:=X.A.mark (some (.ref a)),calm:=false,xe:=fun _ _=>False }
section
variable{X:Cx}{pins:List (Addr × Obj)}{σ:St}{H:Hp}{s:Shared}{a:Addr}
theorem Inv.catch(I:Inv X pins σ H s)(a:Addr):Inv (X.caught a) pins σ H s:=
  ⟨⟨I.ok.mod,I.ok.kind,I.ok.glob,I.ok.blt,I.ok.above,I.ok.inj,I.ok.has,I.ok.cab,(fun z=>by cases z),I.ok.frames,I.ok.stk,I.ok.exf,I.ok.bs,I.ok.bsz,I.ok.noex,I.ok.exfs,I.ok.funs,I.ok.frf⟩,I.os,I.bare,I.base,I.loc,I.cell,I.free,I.freeC,I.pin,I.hok,I.len⟩
theorem Inv.uncatch(ok:X.Ok)(I:Inv (X.caught a) pins σ H s):Inv X pins σ H s:=⟨ok,I.os,I.bare,I.base,I.loc,I.cell,I.free,I.freeC,I.pin,I.hok,I.len⟩
theorem Inv.unset{i:Nat}{n:Str}{m:Str→Option Value}{v:Option Value}{h':Heap}{tk:Nat}(I:Inv X pins σ H s)(hN:X.N.Nodup)(hi:X.N[i]? = some n)(hk:X.env.kindOf n=some .local)
    (hl:∀(j:Nat) (x:Str) (v:V),X.N[j]? = some x→σ[j]? = some (some v)→Vis X.env.scope x→∃u,RelV v u∧Look X.env s.heap m x u)
    (hn':h'.Ns X.env.locals (fun x=>if x=n then v else m x)) (hs:Heap.SameBut X.env.locals s.heap h'):Inv X pins (σ.set i none) H { s with heap:=h',toks:=tk }:=by
  have cne:=I.cne
  have hiσ:i < σ.length:=by rw[I.len];exact(List.getElem?_eq_some_iff.mp hi).1
  have nb:∀b o,X.s₀.heap.get? b=some o→b≠X.env.locals:=fun b o e=>Nat.ne_of_lt (Nat.lt_of_lt_of_le (Heap.lt_size e) I.ok.above)
  refine⟨I.ok,I.os,I.bare,⟨fun b o e n hb hx=>?_,fun b o e n hb hx=>?_,I.base.free,fun b o e hx=>?_,I.base.tups,I.base.frzs,I.base.tbls⟩,⟨_,hn',fun j y v' e1 e2 e3=>?_⟩,fun y c e=>?_,I.free,I.freeC,fun p hp=>?_,I.hok.loose fun b u hb e=>?_,by simpa using I.len⟩
  · exact(hs.2 b (nb b o e)).trans (I.base.keep b o e n hb hx)
  · obtain⟨sl,e1⟩:=I.base.slot b o e n hb hx
    exact⟨sl,(hs.2 b (nb b o e)).trans e1⟩
  · obtain⟨o',e1⟩:=I.base.there b o e hx
    exact⟨o',(hs.2 b (nb b o e)).trans e1⟩
  · by_cases hj:j=i
    · subst hj
      rw[List.getElem?_set_self hiσ]at e2
      cases e2
    · rw[List.getElem?_set_ne (Ne.symm hj)]at e2
      obtain⟨u',r',q⟩:=hl j y v' e1 e2 e3
      refine⟨u',r',?_⟩
      rcases q with ⟨k,e⟩ | ⟨k,c,e,z⟩
      · refine .inl ⟨k,?_⟩
        have:y≠n:=fun e=>hj (f0w hN e1 (e▸hi))
        simp[this,e]
      · exact .inr ⟨k,c,e,z.sameBut hs (cne y c e)⟩
  · obtain⟨w',z⟩:=I.cell y c e
    exact⟨w',z.sameBut hs (cne y c e)⟩
  · obtain⟨e,n,ne,nf,d⟩:=I.pin p hp
    exact⟨(hs.2 p.1 ne).trans e,n,ne,nf,d⟩
  · exact(hs.2 b fun z=>hb (z▸I.free)).trans e
end
abbrev Ends.gone(D:Ends)(i:Nat):Ends:={ nx:=fun σ H=>D.nx (σ.set i none) H,rt:=D.rt,bk:=fun σ H=>D.bk (σ.set i none) H,ct:=fun σ H=>D.ct (σ.set i none) H }
def tTry(K:PySem.W.Frag)(Cc:Addr)(i:Nat)(tb:TSX)(ts:TS):TS:=fun D σ H=>tb D (fun cls _ H'=>∃C,cls=.ref C∧PySem.W.exmOne K (.ref C) (.ref Cc)=some true∧
  ∀a,H' a=none→ts (D.gone i) (σ.set i (some (.ref a))) (upd H' a (ExcO a C))) σ H
section
variable{X:Cx}{e:Expr}{te:TE}{tx:TX}{pos:Pos}{st:Stmt}{t u:TSX}
theorem psx_one(h:PSX X st t):PSXs X [st] t:=by
  intro pins s σ H D E I q
  refine wpAny_execs_cons (thn (h pins s σ H D E I q) fun f s1 q=>?_)
  cases f with
  | next=>exact wpAny_execs_nil q
  | ret v=>exact q
  | brk=>exact q
  | cont=>exact q
theorem psx_set{i:Nat}{x:Str}{pos':Pos}(hN:X.N.Nodup)(hi:X.N[i]? = some x)(hx:Loc X.env.scope x)(he:PEX X e tx)(hs:swapsWith e (some (.Name x pos')) pos.line X.env=pure false:=by rfl)
    (hf:X.fn x=true∨X.env.scope.names.lookup x=some .local:=by first | exact .inl rfl | exact .inr rfl | assumption):PSX X (.Assign [.Name x pos'] e pos) (fun D E σ H=>tx σ H (fun v H1=>D.nx (σ.set i (some v)) H1) E):=by
  intro pins s σ H D E I h
  refine wpAny_Assign_Name (thn (he pins s σ H _ E I h) fun v s1 ⟨y,H1,I1,r1,q1⟩=>?_) hs
  exact d0i I1 hN hi hx r1 (fun s2 I2=>⟨_,H1,I2,q1⟩) hf
theorem ps_try{body:List Stmt}{c n:Str}{np hpos:Pos}{b₀:Stmt}{suite:List Stmt}{Cc:Addr}{i:Nat}{ts:TS}(hb:PSXs X body t)(stk:X.stack=X.env::X.outer)(fr:X.env.frame=some X.env.locals)
    (hN:X.N.Nodup) (hi:X.N[i]? = some n) (hk:X.env.kindOf n=some .local) (hg:Gl X c) (hm:X.mg c=some (.ref Cc)) (hs:∀a,PSs (X.caught a) (b₀::suite) ts)
    (hdb:(c == ("__debug__":Str))=false:=by decide):PS X (.Try body [.ExceptHandler (some (.Name c np)) (some n) (b₀::suite) hpos] [] [] pos) (tTry X.K Cc i t ts):=by
  intro pins s σ H D I h
  refine wpAny_Try_except (wpAny_mono (hb pins s σ H D _ I h) (fun f s1 q=>?_) fun e s1 q=>?_)
  · cases f with
    | next=>exact wpAny_execs_nil q
    | ret v=>exact q
    | brk=>exact q
    | cont=>exact q
  · obtain⟨s0,H0,I0,a,T,C,H',rfl,F,C',eC,hx,hq⟩:=q
    cases eC
    have J:=F.inv I0
    obtain⟨a0,fl⟩:=F.base J.stack
    have hfr:X.A.frames=some (X.env::X.outer):=J.ok.frames.trans (by rw[stk])
    have fl1:=fl
    rw[stk]at fl1
    refine wpAny_looks_onW hfr fr fl1 fun h1 held up1=>?_
    refine wpAny_landsW held fun h2 fl2 up2=>?_
    have fl2':=fl2
    rw[← stk]at fl2'
    obtain⟨T2,F2⟩:=F.back (tk:=s1.toks) J.stack J.stkFree fl2' (up1.trans up2)
    have J2:Inv X pins σ H' { s1 with heap:=h2,toks:=s1.toks }:=F2.inv I0
    obtain⟨oe,vs,b0,oT,tsx,e1,e2,_⟩:=F2.xt
    have LT:PySem.W.Looks (model X.prog X.w) h2 (typeOf (.ref a)) (.ref C):=e2.1▸(PySem.W.Looks.ld e1).andThen .now
    refine wpAny_handleBy_cons (codeAny_handlers_test (f0j (X:=X.caught a) (s:={ s1 with heap:=h2,toks:=s1.toks }) (J2.catch a) hg hm ?_ hdb)) (by intro q;cases q)
    refine(PySem.W.exm_one (M:=model X.prog X.w) J2.kIn LT hx).here ?_
    refine codeAny_handlers_suite_as ?_
    refine lands_againW fl2 fun h3 fl3 up3=>?_
    have fl3':=fl3
    rw[← stk]at fl3'
    obtain⟨T3,F3⟩:=F.back (tk:=s1.toks) J.stack J.stkFree fl3' ((up1.trans up2).trans up3)
    have J3:Inv X pins σ (upd H' a (ExcO a C)) { s1 with heap:=h3,toks:=s1.toks }:=F3.inv' I0
    refine d0i (X:=X) (v:=.ref a) J3 hN hi (.inl hk) rfl (fun s4 J4=>?_) (.inr hk)
    refine wpAny_mono (hs a pins s4 _ _ (D.gone i) (J4.catch a) (hq a F.ha)) (fun fl s5 q=>?_) fun _ _ z=>z.elim
    have cl:(X.env.scope.kind == .class || (X.env.scope.kind == .module && X.env.locals != X.env.globals))=false:=by rw[I.ok.kind];rfl
    cases fl with
    | next=>
      obtain⟨σ',H5,I5,q5⟩:=q
      have K5:=I5.uncatch I.ok
      obtain⟨m,hn,hl⟩:=id K5.loc
      exact wpAny_nameGoes_keeps hk hn cl fun h' v hn' hs'=>⟨_,H5,K5.unset hN hi hk hl hn' hs',q5⟩
    | brk=>
      obtain⟨σ',H5,I5,q5⟩:=q
      have K5:=I5.uncatch I.ok
      obtain⟨m,hn,hl⟩:=id K5.loc
      exact wpAny_nameGoes_keeps hk hn cl fun h' v hn' hs'=>⟨_,H5,K5.unset hN hi hk hl hn' hs',q5⟩
    | cont=>
      obtain⟨σ',H5,I5,q5⟩:=q
      have K5:=I5.uncatch I.ok
      obtain⟨m,hn,hl⟩:=id K5.loc
      exact wpAny_nameGoes_keeps hk hn cl fun h' v hn' hs'=>⟨_,H5,K5.unset hN hi hk hl hn' hs',q5⟩
    | ret u=>
      obtain⟨vr,σ',H5,I5,rv,q5⟩:=q
      have K5:=I5.uncatch I.ok
      obtain⟨m,hn,hl⟩:=id K5.loc
      exact wpAny_nameGoes_keeps hk hn cl fun h' v hn' hs'=>⟨vr,_,H5,K5.unset hN hi hk hl hn' hs',rv,q5⟩
end
end L2
namespace Mine
open PySem PySem.W PySem.Spec PySem.Calls PyProof.Rows
section
variable{prog:Program}{w:World}{A:Around}{E:Value→Shared→Prop}{s:Shared}{K:Frag}{x D:Addr}{o:Obj}{c:Value}
theorem check_ga{M:Model}{nameV:Value}{Q:Unit→Shared→Prop}(X:K.In s.heap)(L0:Looks M s.heap (typeOf (.ref x)) (.ref D))(hb:mroIn K D (.type "BaseException")=some true)(hq:Q () s) :
    wpAny M A (checkBuiltinCall "BaseException.__getattribute__" ⟨[.ref x,nameV],[]⟩) Q E s:=by
  obtain⟨hh,g,d,t,os⟩:=s
  have hk:builtinKind "BaseException.__getattribute__"=some .slot:=by decide +kernel
  have hsplit:splitId "BaseException.__getattribute__"=some ("BaseException","__getattribute__"):=by decide +kernel
  have LB:=looks_mroIn (M:=M) X hb
  have ha:=PySem.F.args_bexc_ga (.ref x) nameV
  have LI:Looks M hh (isInstance (.ref x) (.type "BaseException")) true:=L0.andThen LB
  simp only[checkBuiltinCall,hk,hsplit]
  refine wpAny_bind (LI.at ?_)
  repeat (any_goals (first | assumption | wp_step))
open Builtin Builtin.Getset_descriptor in
theorem class_get1{R:Result→Shared→Prop}{tp:Value}(X:K.In s.heap)(L0:∀M:Model,Looks M s.heap (typeOf (.ref x)) (.ref D))(hm:mroIn K D (.type "object")=some true)
    (hR:R (.ok (.ret (.ref D))) s):codeAny (model prog w) A (.call (.builtin "getset_descriptor.__get__") ⟨[.builtin "object.__class__",.ref x,tp],[]⟩) R s:=by
  rcases s with ⟨hp,gn,dn,tk,os⟩
  have look:=L0 (model prog w)
  have above:=looks_mroIn (M:=model prog w) X hm
  have known:=KF.slot_gs.check (model prog w) A.in1
  have kind:(⟨hp,gn,dn,tk,os⟩:Shared).TypeIs (.builtin "object.__class__") "getset_descriptor":=KF.type_class
  apply codeAny_call_builtin KF.slot_gs.plain KF.entry_gs
  apply known _ _ _ _ _ _ kind (KF.args_gs _ _ _)
  delta Builtin.«getset_descriptor.__get__» descrGet
  rw[dga_obj]
  apply wpAny_bind
  apply wpAny_pure
  delta descrGetter descrCheckInstance descrNameAndClass isInstance
  simp only[KF.owner_class]
  repeat lk
  constructor
  · exact Code.quiet_builtin _ (by decide +kernel)
  · apply codeAny_builtin KF.entry_class
    delta Builtin.«object.__class__» shownTypeOf
    repeat lk
    exact hR
theorem class_entry{nm:Tok}{Q:Fin→Shared→Prop}(X:K.In s.heap)(L0:∀M:Model,Looks M s.heap (typeOf (.ref x)) (.ref D))(ha:findIn K (.ref D) "__class__"=some (some (.builtin "object.__class__")))
    (hm:mroIn K D (.type "object")=some true) (hq:Q (.done (.ret (.ref D))) s) :
    wpAny (model prog w) A (Builtin.«object.__getattribute__» ⟨[.ref x,.str "__class__" nm],[]⟩) Q E s:=by
  obtain⟨hh,g,d,t,os⟩:=s
  have L1:=L0 (model prog w)
  have L3:=looks_findIn (M:=model prog w) X ha
  have f5:=KF.type_class
  have f6:=PySem.F.slot_gs_get.lookup
  have f7:=PySem.F.slot_gs_set.lookup
  repeat (any_goals (first | assumption | with_reducible refine wpAny_bind (L1.at ?_) | with_reducible refine L1.at ?_ | with_reducible refine wpAny_bind (L3.at ?_) | with_reducible refine L3.at ?_ | wp_step))
  refine class_get1 (D:=D) X L0 hm ?_
  repeat (any_goals (first | assumption | wp_step))
theorem class_call{nm:Tok}{R:Result→Shared→Prop}(X:K.In s.heap)(L0:∀M:Model,Looks M s.heap (typeOf (.ref x)) (.ref D))(ha:findIn K (.ref D) "__class__"=some (some (.builtin "object.__class__")))
    (hm:mroIn K D (.type "object")=some true) (hb:mroIn K D (.type "BaseException")=some true) (hq:R (.ok (.ret (.ref D))) s) :
    codeAny (model prog w) A (.call (.builtin "BaseException.__getattribute__") ⟨[.ref x,.str "__class__" nm],[]⟩) R s:=
  codeAny_call_builtin PySem.F.attr_ValueError.ga.plain PySem.F.entry_bexc_ga (check_ga X (L0 _) hb (class_entry X L0 ha hm hq))
theorem exc_class{Q:Option Value→Shared→Prop}(X:K.In s.heap)(L0:∀M:Model,Looks M s.heap (typeOf (.ref x)) (.ref D))
    (hga:findIn K (.ref D) "__getattribute__"=some (some (.builtin "BaseException.__getattribute__"))) (hgt:findIn K (.ref D) "__getattr__"=some none) (ha:findIn K (.ref D) "__class__"=some (some (.builtin "object.__class__")))
    (hm:mroIn K D (.type "object")=some true) (hb:mroIn K D (.type "BaseException")=some true) (h:Q (some (.ref D)) { s with toks:=s.toks+1 }) :
    wpAny (model prog w) A (getAttr? (.ref x) "__class__") Q E s:=by
  obtain⟨hh,g,d,t,os⟩:=s
  have L1:=L0 (model prog w)
  have L2:=looks_findIn (M:=model prog w) X hga
  have L3:=looks_findIn (M:=model prog w) X hgt
  have f3:=PySem.F.attr_ValueError.ga.bind (.ref x)
  have hx2:(Value.builtin "BaseException.__getattribute__" == Value.builtin "object.__getattribute__")=false:=by decide +kernel
  have hx1:(onTheHeap (Value.ref D) && Value.builtin "BaseException.__getattribute__" == Value.builtin "object.__getattribute__")=false:=by rw[hx2];rfl
  have hx0:(false && onTheHeap (Value.builtin "BaseException.__getattribute__"))=false:=rfl
  unfold getAttr? getAttrBy? getAttrBy
  refine wpAny_bind (wpAny_mkText (wpAny_bind (wpAny_attempt (wpAny_holding (wpAny_bind (L1.at (wpAny_bind (L2.at ?_))))))))
  simp only[hx1]
  repeat (any_goals (first | assumption | with_reducible refine wpAny_bind (L1.at ?_) | with_reducible refine L1.at ?_ | with_reducible refine wpAny_bind (L3.at ?_) | with_reducible refine L3.at ?_ | wp_step))
  refine class_call (D:=D) (s:=⟨hh,g,d,t+1,os⟩) X (fun M=>L0 M) ha hm hb ?_
  show wpAny (model prog w) A (handedOut (Value.ref D)) _ _ _
  exact handed_on rfl (wpAny_pure h)
def ExcAt(x D:Addr)(h:Heap):Prop:=∃o,h.get? x=some o∧o.cls=.ref D
theorem excAt_ty{M:Model}{h:Heap}(p:ExcAt x D h):Looks M h (typeOf (.ref x)) (.ref D):=by
  obtain⟨o,h1,h2⟩:=p
  exact h2▸(Looks.ld h1).andThen .now
theorem kitx_exc
    (hga:findIn K (.ref D) "__getattribute__"=some (some (.builtin "BaseException.__getattribute__"))) (hgt:findIn K (.ref D) "__getattr__"=some none) (ha:findIn K (.ref D) "__class__"=some (some (.builtin "object.__class__")))
    (hm:mroIn K D (.type "object")=some true) (hb:mroIn K D (.type "BaseException")=some true):KitX K (.ref x) (.ref D) (ExcAt x D)where
  ty:=fun _ _ _ p=>excAt_ty p
  it:=fun _ _ X _=>by
    obtain⟨cdD,hcD,_⟩:=Option.bind_eq_some_iff.mp (show(clsIn K D).bind _=some true from hm)
    unfold clsIn at hcD
    split at hcD
    · rename_i c' d' cd' sl' ho
      intro A' Q' E' s' k q
      unfold isType loadHead
      exact wpAny_bind (wpAny_loadPart (k _ _ (X _ _ ho)) (wpAny_pure q))
    · cases hcD
  ne:=fun h tp dd its n sl X htp=>by
    refine Bool.eq_false_iff.mpr fun q=>?_
    have e:D=tp:=Value.ref.inj (beq_iff_eq.mp q)
    subst e
    obtain⟨cdD,hcD,_⟩:=Option.bind_eq_some_iff.mp (show(clsIn K D).bind _=some true from hm)
    unfold clsIn at hcD
    split at hcD
    · rename_i c' d' cd' sl' ho
      have z:=(X _ _ ho).symm.trans htp
      cases z
    · cases hcD
  ca:=fun X p k=>exc_class X (fun _=>excAt_ty p) hga hgt ha hm hb k
end
end Mine
namespace L2
open PySem PySem.Spec PyProof.Rows
structure ExcK(K:PySem.W.Frag)(C:Addr):Prop where
  ga:PySem.W.findIn K (.ref C) "__getattribute__"=some (some (.builtin "BaseException.__getattribute__"))
  gt:PySem.W.findIn K (.ref C) "__getattr__"=some none
  cl:PySem.W.findIn K (.ref C) "__class__"=some (some (.builtin "object.__class__"))
  ob:PySem.W.mroIn K C (.type "object")=some true
  be:PySem.W.mroIn K C (.type "BaseException")=some true
  ex:PySem.W.excIn K C bmV "ValueError.__new__"=true
def clsV:V→Option Value
  | .ty n=>some (.type n)
  | .ref D=>some (.ref D)
  | _=>none
section
variable{X:Cx}
def rIsx(K:PySem.W.Frag):List V→Hp→VK→Prop:=fun xs H Q=>∃a C c cv b,xs=[.ref a,c]∧H a=some (ExcO a C)∧ExcK K C∧clsV c=some cv∧PySem.W.kitOne K (.ref C) cv=some b∧Q (.bl b) H
theorem call_isx:CallR X (.builtin "isinstance") (rIsx X.K):=by
  intro pins s σ H xs us Q I r h
  obtain⟨a,C,c,cv,b,rfl,ea,ek,ec,e,q⟩:=h
  cases r with
  | cons rx r1=>
    cases r1 with
    | cons ry r2=>
      cases r2
      cases (show _=Value.ref a from rx)
      have hv:∀u,RelV c u→u=cv:=fun u ru=>by
        cases c with
        | ty n=>cases ec;exact ru
        | ref D=>cases ec;exact ru
        | _=>cases ec
      cases hv _ ry
      obtain⟨p,_,_⟩:=(show ObjOk X.prog X.w H s.heap a (ExcO a C)from I.hok a _ ea)
      exact PySem.W.kia_one (Mine.kitx_exc ek.ga ek.gt ek.cl ek.ob ek.be) I.kIn p e (fun z=>nomatch z) fun tk=>⟨.bl b,H,I.tok _,rfl,q⟩
theorem b0v(K:PySem.W.Frag)(h:X.K=K):CallR X (.builtin "isinstance") (rIsx K):=h▸call_isx
theorem PS.nox{st:Stmt}{t:TS}(h:PS X.nox st t):PS X st t:=fun pins s σ H D I hw=>
  wpAny_mono (h pins s σ H D (I.wish _) hw) (fun _ _ q=>q.unwish) fun _ _ z=>False.elim z
end
end L2
namespace L2
open PySem PySem.Spec PyProof.Rows
theorem boot_VE:bootBuiltins "ValueError"=some (.type "ValueError"):=by decide +kernel
section
variable{X:Cx}
end
end L2
namespace Mine
@[irreducible] def dv(a b:Int):Int:=(Int.gcd a b:Int)
theorem i0b(a b:Int):0≤dv a b:=by unfold dv;exact Int.natCast_nonneg _
theorem dv_fmod(a b:Int):dv b (a.fmod b)=dv a b:=by
  unfold dv
  have e:a.fmod b=a - a.fdiv b * b:=by rw[Int.fmod_def,Int.mul_comm]
  rw[e,Int.gcd_sub_mul_right_right,Int.gcd_comm]
theorem dv_zero(a:Int):dv a 0=(a.natAbs:Int):=by
  unfold dv;rw[Int.gcd_zero_right]
theorem dv_abs(a b:Int):dv (a.natAbs:Int) (b.natAbs:Int)=dv a b:=by
  unfold dv Int.gcd;simp
theorem fmod_abs_lt(a b:Int)(h:b≠0):(a.fmod b).natAbs < b.natAbs:=by
  rcases Int.lt_trichotomy b 0 with hb | hb | hb
  · have e:a.fmod b = -((-a).fmod (-b)):=by
      simp[Int.neg_fmod_neg]
    have h1:=Int.fmod_nonneg_of_pos (-a) (show 0 < -b by omega)
    have h2:=Int.fmod_lt_of_pos (-a) (show 0 < -b by omega)
    omega
  · exact absurd hb h
  · have h1:=Int.fmod_nonneg_of_pos a hb
    have h2:=Int.fmod_lt_of_pos a hb
    omega
theorem d_turn{a b g r:Int}(h:dv g r=dv a b)(hr:0 < r):0≤r∧0≤g.fmod r∧dv r (g.fmod r)=dv a b:=
  ⟨by omega,Int.fmod_nonneg_of_pos g hr,by rw[dv_fmod,h]⟩
theorem d_less{g r:Int}(hr:0 < r):(g.fmod r).toNat < r.toNat:=by
  have h1:=Int.fmod_nonneg_of_pos g hr
  have h2:=Int.fmod_lt_of_pos g hr
  omega
theorem d_out{a b g r:Int}(h:dv g r=dv a b)(g0:0≤g)(r0:0≤r)(hr:¬0 < r):g=dv a b:=by
  have e:r=0:=by omega
  rw[← h,e,dv_zero];omega
theorem l_turn{a b x y:Int}(h:dv x y=dv a b):dv y (x.fmod y)=dv a b:=by rw[dv_fmod,h]
theorem l_out{a b x y:Int}(h:dv x y=dv a b)(hy:y=0):(x.natAbs:Int)=dv a b:=by
  rw[← h,hy,dv_zero]
theorem dv_left(a b:Int):∃q,a=dv a b * q:=by
  obtain⟨q,hq⟩:=Int.gcd_dvd_left a b
  exact⟨q,by unfold dv;exact hq⟩
theorem dv_right(a b:Int):∃q,b=dv a b * q:=by
  obtain⟨q,hq⟩:=Int.gcd_dvd_right a b
  exact⟨q,by unfold dv;exact hq⟩
theorem dv_eq_zero{a b:Int}(h:dv a b=0):a=0∧b=0:=by
  obtain⟨q,hq⟩:=dv_left a b
  obtain⟨r,hr⟩:=dv_right a b
  rw[h]at hq hr
  exact⟨by omega,by omega⟩
theorem dv_pos{a b:Int}(h:b≠0):0 < dv a b:=by
  have:=i0b a b
  rcases(by omega:dv a b=0∨0 < dv a b)with e | e
  · exact absurd (dv_eq_zero e).2 h
  · exact e
theorem dv_le(a b:Int)(h:b≠0):dv a b≤(b.natAbs:Int):=by
  have:Int.gcd a b≤b.natAbs:=by
    unfold Int.gcd
    exact Nat.gcd_le_right _ (by omega)
  unfold dv;omega
theorem fdiv_mul{g q:Int}(hg:g≠0):(g * q).fdiv g=q:=Int.mul_fdiv_cancel_left q hg
@[irreducible] def sg(a b:Int):Int:=if b < 0 then -(dv a b)else dv a b
@[irreducible] def tp(a b:Int):Int:=a.fdiv (sg a b)
@[irreducible] def bt(a b:Int):Int:=b.fdiv (sg a b)
theorem sg_pos{a b:Int}(h:¬b < 0):sg a b=dv a b:=by unfold sg;rw[if_neg h]
theorem sg_neg{a b:Int}(h:b < 0):sg a b = -(dv a b):=by unfold sg;rw[if_pos h]
theorem sg_ne{a b:Int}(h:b≠0):sg a b≠0:=by
  have:=dv_pos (a:=a) h
  unfold sg;split <;>omega
theorem tp_mul{a b:Int}(h:b≠0):sg a b * tp a b=a:=by
  obtain⟨q,hq⟩:=dv_left a b
  have hs:=sg_ne (a:=a) h
  have:∃k,a=sg a b * k:=by
    unfold sg;split
    · exact⟨-q,by rw[Int.neg_mul_neg];exact hq⟩
    · exact⟨q,hq⟩
  obtain⟨k,hk⟩:=this
  have e:tp a b=k:=by
    unfold tp
    conv=>lhs;lhs;rw[hk]
    exact fdiv_mul hs
  rw[e];exact hk.symm
theorem bt_mul{a b:Int}(h:b≠0):sg a b * bt a b=b:=by
  obtain⟨q,hq⟩:=dv_right a b
  have hs:=sg_ne (a:=a) h
  have:∃k,b=sg a b * k:=by
    unfold sg;split
    · exact⟨-q,by rw[Int.neg_mul_neg];exact hq⟩
    · exact⟨q,hq⟩
  obtain⟨k,hk⟩:=this
  have e:bt a b=k:=by
    unfold bt
    conv=>lhs;lhs;rw[hk]
    exact fdiv_mul hs
  rw[e];exact hk.symm
theorem bt_pos{a b:Int}(h:b≠0):0 < bt a b:=by
  have e:=bt_mul (a:=a) h
  have g:=dv_pos (a:=a) h
  rcases(by omega:0 < bt a b∨bt a b≤0)with p | p
  · exact p
  · exfalso
    by_cases hb:b < 0
    · rw[sg_neg hb,Int.neg_mul]at e
      have:=Int.mul_nonpos_of_nonneg_of_nonpos (Int.le_of_lt g) p
      omega
    · rw[sg_pos hb]at e
      have:=Int.mul_nonpos_of_nonneg_of_nonpos (Int.le_of_lt g) p
      omega
theorem cross{a b:Int}(h:b≠0):tp a b * b=a * bt a b:=by
  have e1:=tp_mul (a:=a) h
  have e2:=bt_mul (a:=a) h
  calc tp a b * b=tp a b * (sg a b * bt a b):=by rw[e2]
    _=(sg a b * tp a b) * bt a b:=by rw[Int.mul_comm (sg a b) (tp a b),Int.mul_assoc]
    _=a * bt a b:=by rw[e1]
theorem natAbs_sg(a b:Int):(sg a b).natAbs=Int.gcd a b:=by
  unfold sg dv;split <;>omega
theorem gcd_scale{a b s t u:Int}(e1:s * t=a)(e2:s * u=b):Int.gcd a b=s.natAbs * Int.gcd t u:=by
  rw[← e1,← e2,Int.gcd_mul_left]
theorem low{a b:Int}(h:b≠0):dv (tp a b) (bt a b)=1:=by
  have e:=gcd_scale (tp_mul (a:=a) h) (bt_mul (a:=a) h)
  rw[natAbs_sg]at e
  have p:=dv_pos (a:=a) h
  have q:0 < Int.gcd a b:=by unfold dv at p;omega
  have:Int.gcd a b * Int.gcd (tp a b) (bt a b)=Int.gcd a b * 1:=by rw[← e,Nat.mul_one]
  have:=Nat.eq_of_mul_eq_mul_left q this
  unfold dv;rw[this];rfl
theorem coprime_eq{a b c d:Int}(hb:0 < b)(hd:0 < d)(h1:dv a b=1)(h2:dv c d=1)(e:a * d=c * b):a=c∧b=d:=by
  have g1:Nat.Coprime b.natAbs a.natAbs:=by
    have:Int.gcd a b=1:=by unfold dv at h1;omega
    unfold Int.gcd at this
    exact Nat.Coprime.symm this
  have g2:Nat.Coprime d.natAbs c.natAbs:=by
    have:Int.gcd c d=1:=by unfold dv at h2;omega
    unfold Int.gcd at this
    exact Nat.Coprime.symm this
  have en:a.natAbs * d.natAbs=c.natAbs * b.natAbs:=by rw[← Int.natAbs_mul,← Int.natAbs_mul,e]
  have d1:b.natAbs ∣ d.natAbs:=g1.dvd_of_dvd_mul_left ⟨c.natAbs,by rw[en,Nat.mul_comm]⟩
  have d2:d.natAbs ∣ b.natAbs:=g2.dvd_of_dvd_mul_left ⟨a.natAbs,by rw[← en,Nat.mul_comm]⟩
  have eb:b.natAbs=d.natAbs:=Nat.dvd_antisymm d1 d2
  have ebd:b=d:=by omega
  refine⟨?_,ebd⟩
  rw[ebd]at e
  exact Int.eq_of_mul_eq_mul_right (by omega) e
theorem tp_uniq{a b x y:Int}(h:b≠0)(hy:0 < y)(hl:dv x y=1)(e:a * y=x * b):tp a b=x∧bt a b=y:=by
  refine coprime_eq (bt_pos h) hy (low h) hl ?_
  have c:=cross (a:=a) h
  have:(tp a b * y) * b=(x * bt a b) * b:=by
    calc (tp a b * y) * b=(tp a b * b) * y:=by rw[Int.mul_assoc,Int.mul_comm y b,← Int.mul_assoc]
      _=(a * bt a b) * y:=by rw[c]
      _=(a * y) * bt a b:=by rw[Int.mul_assoc,Int.mul_comm (bt a b) y,← Int.mul_assoc]
      _=(x * b) * bt a b:=by rw[e]
      _=(x * bt a b) * b:=by rw[Int.mul_assoc,Int.mul_comm b,← Int.mul_assoc]
  exact Int.eq_of_mul_eq_mul_right h this
theorem e0x(a s:Int)(k:Int)(e:s * k=a)(hs:s≠0):k.natAbs≤a.natAbs:=by
  have:a.natAbs=s.natAbs * k.natAbs:=by rw[← e,Int.natAbs_mul]
  rw[this]
  exact Nat.le_mul_of_pos_left _ (by omega)
theorem tp_le{a b:Int}(h:b≠0):(tp a b).natAbs≤a.natAbs:=e0x a _ _ (tp_mul h) (sg_ne h)
theorem bt_le{a b:Int}(h:b≠0):(bt a b).natAbs≤b.natAbs:=e0x b _ _ (bt_mul h) (sg_ne h)
theorem same_cross{a b c d:Int}(hb:b≠0)(hd:d≠0)(e:a * d=c * b):tp a b=tp c d∧bt a b=bt c d:=by
  refine tp_uniq hb (bt_pos hd) (low hd) ?_
  have h:=cross (a:=c) hd
  have:(a * bt c d) * d=(tp c d * b) * d:=by
    calc (a * bt c d) * d=(a * d) * bt c d:=by rw[Int.mul_assoc,Int.mul_comm (bt c d) d,← Int.mul_assoc]
      _=(c * b) * bt c d:=by rw[e]
      _=(c * bt c d) * b:=by rw[Int.mul_assoc,Int.mul_comm b,← Int.mul_assoc]
      _=(tp c d * d) * b:=by rw[h]
      _=(tp c d * b) * d:=by rw[Int.mul_assoc,Int.mul_comm d b,← Int.mul_assoc]
  exact Int.eq_of_mul_eq_mul_right hd this
theorem lo_self{x y:Int}(hy:0 < y)(hl:dv x y=1):tp x y=x∧bt x y=y:=tp_uniq (by omega) hy hl rfl
theorem h0q{a b:Int}(ha:a≠0)(hb:b≠0):a * b≠0:=Int.mul_ne_zero ha hb
theorem distrib{a b c d e f T B P U R V:Int}(hb:b≠0)(hd:d≠0)(hf:f≠0)(hB:B≠0)(hU:U≠0)(hV:V≠0)
    (h1:T * (d * f)=(c * f+e * d) * B) (h2:P * (b * d)=(a * c) * U) (h3:R * (b * f)=(a * e) * V) :
    tp (a * T) (b * B)=tp (P * V+R * U) (U * V)∧bt (a * T) (b * B)=bt (P * V+R * U) (U * V):=by
  refine same_cross (h0q hb hB) (h0q hU hV) ?_
  have k:((a * T) * (U * V)) * ((d * f) * ((b * d) * (b * f)))=((P * V+R * U) * (b * B)) * ((d * f) * ((b * d) * (b * f))):=by
    grind
  exact Int.eq_of_mul_eq_mul_right (h0q (h0q hd hf) (h0q (h0q hb hd) (h0q hb hf))) k
theorem plus_comm{a b c d:Int}:tp (a * d+c * b) (b * d)=tp (c * b+a * d) (d * b)∧bt (a * d+c * b) (b * d)=bt (c * b+a * d) (d * b):=by
  rw[Int.add_comm,Int.mul_comm b d];exact⟨rfl,rfl⟩
theorem times_comm{a b c d:Int}:tp (a * c) (b * d)=tp (c * a) (d * b)∧bt (a * c) (b * d)=bt (c * a) (d * b):=by
  rw[Int.mul_comm a c,Int.mul_comm b d];exact⟨rfl,rfl⟩
theorem plus_zero{a b:Int}(hb:0 < b)(hl:dv a b=1):tp (a * 1+0 * b) (b * 1)=a∧bt (a * 1+0 * b) (b * 1)=b:=by
  have e1:a * 1+0 * b=a:=by omega
  have e2:b * 1=b:=by omega
  rw[e1,e2];exact lo_self hb hl
theorem zero_plus{a b:Int}(hb:0 < b)(hl:dv a b=1):tp (0 * b+a * 1) (1 * b)=a∧bt (0 * b+a * 1) (1 * b)=b:=by
  have e1:0 * b+a * 1=a:=by omega
  have e2:1 * b=b:=by omega
  rw[e1,e2];exact lo_self hb hl
theorem one_times{a b:Int}(hb:0 < b)(hl:dv a b=1):tp (1 * a) (1 * b)=a∧bt (1 * a) (1 * b)=b:=by
  rw[Int.one_mul,Int.one_mul];exact lo_self hb hl
theorem dv01:dv 0 1=1:=by unfold dv;decide
theorem dv11:dv 1 1=1:=by unfold dv;decide
open PySem
theorem abs_start(a b:Int):dv (if a < 0 then -a else a) (if b < 0 then -b else b)=dv a b:=by
  have e:∀x:Int,(if x < 0 then -x else x)=(x.natAbs:Int):=fun x=>by split <;>omega
  rw[e,e,dv_abs]
theorem start1(a b:Int):0≤(if a < 0 then -a else a)∧0≤(if b < 0 then -b else b)∧dv (if a < 0 then -a else a) (if b < 0 then -b else b)=dv a b:=
  ⟨by split <;>omega,by split <;>omega,abs_start a b⟩
theorem out2{a b x y:Int}(h:dv x y=dv a b)(hy:y=0):(if x < 0 then -x else x)=dv a b:=by
  rw[← l_out h hy];split <;>omega
structure S1(x:Int):Prop where
  lo:-10000000000000000000000000000000≤x
  hi:x≤10000000000000000000000000000000
structure S2(x:Int):Prop where
  lo:-1000000000000000000000000000000000000000000000000000000000000000≤x
  hi:x≤1000000000000000000000000000000000000000000000000000000000000000
structure Po(x:Int):Prop where
  lo:0 < x
theorem S1.two{x:Int}(h:S1 x):S2 x:=⟨by have:=h.lo;omega,by have:=h.hi;omega⟩
theorem S1.zero:S1 0:=⟨by decide,by decide⟩
theorem S1.one:S1 1:=⟨by decide,by decide⟩
theorem Po.one:Po 1:=⟨by decide⟩
theorem S2.lt{y:Int}(h:S2 y):y.natAbs < 2 ^ 210:=by
  have:(2:Nat) ^ 210 > 1000000000000000000000000000000000000000000000000000000000000000:=by decide
  have:=h.lo
  have:=h.hi
  omega
theorem i0v{x y:Int}(hx:S1 x)(hy:S1 y):-100000000000000000000000000000000000000000000000000000000000000≤x * y∧x * y≤100000000000000000000000000000000000000000000000000000000000000:=by
  have x0:=hx.lo
  have x1:=hx.hi
  have y0:=hy.lo
  have y1:=hy.hi
  have h:(x * y).natAbs=x.natAbs * y.natAbs:=Int.natAbs_mul x y
  have k:x.natAbs * y.natAbs≤10000000000000000000000000000000 * 10000000000000000000000000000000:=Nat.mul_le_mul (by omega) (by omega)
  omega
theorem S2.mul{x y:Int}(hx:S1 x)(hy:S1 y):S2 (x * y):=⟨by have:=i0v hx hy;omega,by have:=i0v hx hy;omega⟩
theorem S2.sum{x y c d:Int}(hx:S1 x)(hy:S1 y)(hc:S1 c)(hd:S1 d):S2 (x * y+c * d):=⟨by have:=i0v hx hy;have:=i0v hc hd;omega,by have:=i0v hx hy;have:=i0v hc hd;omega⟩
theorem Po.mul{x y:Int}(hx:Po x)(hy:Po y):Po (x * y):=⟨Int.mul_pos hx.lo hy.lo⟩
theorem Po.ne{x:Int}(h:Po x):x≠0:=by have:=h.lo;omega
theorem Po.sg{a b:Int}(h:Po b):dv a b=sg a b:=(sg_pos (by have:=h.lo;omega)).symm
theorem S1.tp{a b:Int}(h:S1 a)(p:Po b):S1 (tp a b):=by
  have l:=tp_le (a:=a) p.ne
  have:=h.lo
  have:=h.hi
  exact⟨by omega,by omega⟩
theorem S2.tp{a b:Int}(h:S2 a)(p:Po b):S2 (tp a b):=by
  have l:=tp_le (a:=a) p.ne
  have:=h.lo
  have:=h.hi
  exact⟨by omega,by omega⟩
theorem S1.bt{a b:Int}(h:S1 b)(p:Po b):S1 (bt a b):=by
  have l:=bt_le (a:=a) p.ne
  have:=h.lo
  have:=h.hi
  exact⟨by omega,by omega⟩
theorem S2.bt{a b:Int}(h:S2 b)(p:Po b):S2 (bt a b):=by
  have l:=bt_le (a:=a) p.ne
  have:=h.lo
  have:=h.hi
  exact⟨by omega,by omega⟩
theorem Po.bt{a b:Int}(p:Po b):Po (bt a b):=⟨bt_pos p.ne⟩
theorem S2.dv{a b:Int}(h:S2 b)(p:Po b):S2 (dv a b):=by
  have:=dv_le a b p.ne
  have:=i0b a b
  have:=h.lo
  have:=h.hi
  exact⟨by omega,by omega⟩
structure Low(a b:Int):Prop where
  one:dv a b=1
theorem lz{a b:Int}(p:Po b)(l:Low a b):tp (a * 1+0 * b) (b * 1)=a∧bt (a * 1+0 * b) (b * 1)=b:=plus_zero p.lo l.one
theorem zl{a b:Int}(p:Po b)(l:Low a b):tp (0 * b+a * 1) (1 * b)=a∧bt (0 * b+a * 1) (1 * b)=b:=zero_plus p.lo l.one
theorem ol{a b:Int}(p:Po b)(l:Low a b):tp (1 * a) (1 * b)=a∧bt (1 * a) (1 * b)=b:=one_times p.lo l.one
theorem cp{a b c d:Int}(_:Low (tp (c * b+a * d) (d * b)) (bt (c * b+a * d) (d * b))):tp (a * d+c * b) (b * d)=tp (c * b+a * d) (d * b)∧bt (a * d+c * b) (b * d)=bt (c * b+a * d) (d * b):=plus_comm
theorem ct{a b c d:Int}(_:Low (tp (c * a) (d * b)) (bt (c * a) (d * b))):tp (a * c) (b * d)=tp (c * a) (d * b)∧bt (a * c) (b * d)=bt (c * a) (d * b):=times_comm
end Mine
namespace Mine
def Pr(p:Nat):Prop:=2≤p∧∀d,2≤d→d * d≤p→¬p % d=0
theorem Pr.div{p d:Nat}(h:Pr p)(hd:d ∣ p):d=1∨d=p:=by
  obtain⟨k,hk⟩:=hd
  have p2:=h.1
  rcases(by omega:d=0∨d=1∨2≤d)with e | e | e
  · rw[e,Nat.zero_mul]at hk;omega
  · exact .inl e
  · rcases(by omega:k=0∨k=1∨2≤k)with f | f | f
    · rw[f,Nat.mul_zero]at hk;omega
    · rw[f,Nat.mul_one]at hk;exact .inr hk.symm
    · exfalso
      rcases Nat.le_total d k with g | g
      · have:d * d≤p:=by rw[hk];exact Nat.mul_le_mul_left d g
        exact h.2 d e this (by rw[hk];exact Nat.mul_mod_right d k)
      · have:k * k≤p:=by rw[hk];exact Nat.mul_le_mul_right k g
        exact h.2 k f this (by rw[hk];exact Nat.mul_mod_left d k)
theorem Pr.cop{p a:Nat}(h:Pr p)(ha:¬p ∣ a):Nat.Coprime p a:=by
  have d1:=Nat.gcd_dvd_left p a
  have d2:=Nat.gcd_dvd_right p a
  rcases h.div d1 with e | e
  · exact e
  · rw[e]at d2;exact absurd d2 ha
theorem Pr.mul{p a b:Nat}(h:Pr p)(hd:p ∣ a * b):p ∣ a∨p ∣ b:=by
  by_cases c:p ∣ a
  · exact .inl c
  · exact .inr ((h.cop c).dvd_of_dvd_mul_left hd)
theorem small{p a:Nat}(h0:0 < a)(h1:a < p):¬p ∣ a:=fun h=>by
  have:=Nat.le_of_dvd h0 h
  omega
theorem hole:∀(n:Nat) (l:List Nat),l.Nodup→(∀a∈l,a < n)→l.length≤n
  | 0,l,_,h=>by
    cases l with
    | nil=>exact Nat.le_refl 0
    | cons a r=>exact absurd (h a (List.mem_cons_self ..)) (by omega)
  | n+1,l,nd,h=>by
    by_cases c:n∈l
    · have e:=List.length_erase_of_mem c
      have:=hole n (l.erase n) (nd.erase n) (fun a ha=>by
        have m:=(List.Nodup.mem_erase_iff nd).mp ha
        have:=h a m.2
        have:=m.1
        omega)
      omega
    · have:=hole n l nd (fun a ha=>by
        have:=h a ha
        have:a≠n:=fun e=>c (e▸ha)
        omega)
      omega
theorem fe{a p:Int}(hp:0 < p):a.fmod p=a % p:=Int.fmod_eq_emod_of_nonneg a (Int.le_of_lt hp)
theorem r_in{a p:Int}(hp:0 < p):0≤a.fmod p∧a.fmod p < p:=⟨Int.fmod_nonneg_of_pos a hp,Int.fmod_lt_of_pos a hp⟩
def ri(p x:Int):Int:=(x ^ (p.toNat - 2)) % p
def PI(n:Int):Prop:=2≤n∧∀d:Int,2≤d→d * d≤n→¬n.fmod d=0
noncomputable def isP(n:Int):Bool:=@decide (PI n) (Classical.propDecidable _)
theorem isP_true{n:Int}(h:isP n=true):PI n:=@of_decide_eq_true _ (Classical.propDecidable _) h
theorem isP_of{n:Int}(h:PI n):isP n=true:=@decide_eq_true _ (Classical.propDecidable _) h
theorem sq_lt{d f n:Int}(hd:2≤d)(hf:2≤f)(h:d * d≤n)(g:¬f * f≤n):d < f:=by
  rcases Int.lt_or_le d f with e | e
  · exact e
  · have:f * f≤d * d:=Int.mul_le_mul e e (by omega) (by omega)
    omega
theorem sq_le{f n:Int}(hf:2≤f)(h:f * f≤n):f+1≤n:=by
  have:2 * f≤f * f:=Int.mul_le_mul_of_nonneg_right hf (by omega)
  omega
theorem d0r(n k:Nat)(h2:2≤n)(hk:n < k * k)(h:(List.range k).all (fun d=>d < 2 || n % d != 0)=true):isP (n:Int)=true:=by
  refine isP_of ⟨by omega,fun d hd hdd e=>?_⟩
  have hk2:¬(k:Int) * (k:Int)≤(n:Int):=by
    have:((n:Nat):Int) < ((k * k:Nat):Int):=by omega
    rw[Int.natCast_mul]at this;omega
  have kk:2≤(k:Int):=by
    rcases(by omega:k=0∨k=1∨2≤k)with c | c | c
    · subst c;omega
    · subst c;omega
    · omega
  have lt:=sq_lt hd kk hdd hk2
  have dn:(d.toNat:Int)=d:=Int.toNat_of_nonneg (by omega)
  have:=List.all_eq_true.mp h d.toNat (List.mem_range.mpr (by omega))
  rw[← dn,fe (by omega),← Int.natCast_emod]at e
  have e':n % d.toNat=0:=by omega
  simp[e']at this
  omega
theorem p999983:isP 999983=true:=d0r 999983 1000 (by decide) (by decide) (by decide +kernel)
theorem p65537:isP 65537=true:=d0r 65537 257 (by decide) (by decide) (by decide +kernel)
theorem p2:isP 2=true:=d0r 2 2 (by decide) (by decide) (by decide +kernel)
theorem p3:isP 3=true:=d0r 3 2 (by decide) (by decide) (by decide +kernel)
theorem p5:isP 5=true:=d0r 5 3 (by decide) (by decide) (by decide +kernel)
theorem p7:isP 7=true:=d0r 7 3 (by decide) (by decide) (by decide +kernel)
theorem p11:isP 11=true:=d0r 11 4 (by decide) (by decide) (by decide +kernel)
theorem p13:isP 13=true:=d0r 13 4 (by decide) (by decide) (by decide +kernel)
theorem p101:isP 101=true:=d0r 101 11 (by decide) (by decide) (by decide +kernel)
end Mine
namespace Mine
open PySem PySem.SeqAt
set_option genInjectivity false in
set_option genSizeOfSpec false in
structure SR where
  W:Type
  add:W→W→W
  mul:W→W→W
  zero:W
  one:W
  add_comm:∀x y,add x y=add y x
  add_assoc:∀x y z,add (add x y) z=add x (add y z)
  mul_comm:∀x y,mul x y=mul y x
  mul_assoc:∀x y z,mul (mul x y) z=mul x (mul y z)
  distrib:∀x y z,mul x (add y z)=add (mul x y) (mul x z)
  add_zero:∀x,add x zero=x
  mul_one:∀x,mul x one=x
  mul_zero:∀x,mul x zero=zero
  zo:zero≠one
  sz:Nat→W→Prop
  sz_mono:∀m n x,m≤n→sz m x→sz n x
  sz_add:∀m n x y,sz m x→sz n y→sz (m+n+1) (add x y)
  sz_mul:∀m n x y,sz m x→sz n y→sz (m+n) (mul x y)
  sz_zero:sz 0 zero
  sz_one:sz 0 one
  lv:Nat→Nat→W→Prop
  lv_mono:∀k c c' x,c≤c'→lv k c x→lv k c' x
  lv_add:∀k c c' x y,lv k c x→lv k c' y→lv k (c+c') (add x y)
  lv_mul:∀j k x y,lv j 32 x→lv k 32 y→lv (j+k) 1 (mul x y)
  lv_zero:∀k,lv k 0 zero
  lv_one:lv 1 1 one
  lv_up:∀k c x,lv k c x→lv (k+1) c x
  lv_sz:∀k c x,c≤1024→lv k c x→sz (100 * k) x
  data:W→PyData
  sh:∀x,shaped (data x)=true
  nm:∀x y,noMix (data x) (data y)=true
  eq:∀x,PySem.Spec.same (data x) (data x)=true
  ne:∀x y,x≠y→PySem.Spec.same (data x) (data y)=false
structure Fr where
  t:Int
  b:Int
  p:0 < b
  l:dv t b=1
theorem Fr.nb(x:Fr):x.b≠0:=by have:=x.p;omega
def Fr.of(a b:Int)(h:0 < b):Fr:=⟨tp a b,bt a b,bt_pos (by omega),low (by omega)⟩
theorem Fr.of_cross(a b:Int)(h:0 < b):(Fr.of a b h).t * b=a * (Fr.of a b h).b:=cross (by omega)
def Fr.add(x y:Fr):Fr:=Fr.of (x.t * y.b+y.t * x.b) (x.b * y.b) (Int.mul_pos x.p y.p)
def Fr.mul(x y:Fr):Fr:=Fr.of (x.t * y.t) (x.b * y.b) (Int.mul_pos x.p y.p)
def Fr.zero:Fr:=⟨0,1,by decide,dv01⟩
def Fr.one:Fr:=⟨1,1,by decide,dv11⟩
def Fr.sz(n:Nat)(x:Fr):Prop:=x.t.natAbs≤2 ^ n∧x.b.natAbs≤2 ^ n
def Fr.lv(k c:Nat)(x:Fr):Prop:=∃a:Int,x.t * 12 ^ k=a * x.b∧1024 * a.natAbs≤c * 2 ^ (100 * k)
theorem Fr.lv_add{k c c':Nat}{x y:Fr}(h:x.lv k c)(h':y.lv k c'):(Fr.add x y).lv k (c+c'):=by
  obtain⟨a,e,b⟩:=h
  obtain⟨a',e',b'⟩:=h'
  refine⟨a+a',?_,?_⟩
  · have hc:=Fr.of_cross (x.t * y.b+y.t * x.b) (x.b * y.b) (Int.mul_pos x.p y.p)
    have hn:x.b * y.b≠0:=Int.mul_ne_zero x.nb y.nb
    refine Int.eq_of_mul_eq_mul_right hn ?_
    show(Fr.add x y).t * 12 ^ k * (x.b * y.b)=(a+a') * (Fr.add x y).b * (x.b * y.b)
    have hc:(Fr.add x y).t * (x.b * y.b)=(x.t * y.b+y.t * x.b) * (Fr.add x y).b:=hc
    have e1:(Fr.add x y).t * 12 ^ k * (x.b * y.b)=((Fr.add x y).t * (x.b * y.b)) * 12 ^ k:=by rw[Int.mul_right_comm]
    rw[e1,hc]
    have e2:(x.t * y.b+y.t * x.b) * (Fr.add x y).b * 12 ^ k=((x.t * 12 ^ k) * y.b+(y.t * 12 ^ k) * x.b) * (Fr.add x y).b:=by
      rw[Int.mul_right_comm,Int.add_mul,Int.mul_right_comm x.t,Int.mul_right_comm y.t]
    rw[e2,e,e']
    have e3:a * x.b * y.b+a' * y.b * x.b=(a+a') * (x.b * y.b):=by
      rw[Int.add_mul,Int.mul_assoc,Int.mul_assoc a',Int.mul_comm y.b x.b]
    rw[e3,Int.mul_right_comm]
  · have:=Int.natAbs_add_le a a'
    rw[Nat.add_mul]
    omega
theorem Fr.lv_mul{j k:Nat}{x y:Fr}(h:x.lv j 32)(h':y.lv k 32):(Fr.mul x y).lv (j+k) 1:=by
  obtain⟨a,e,b⟩:=h
  obtain⟨a',e',b'⟩:=h'
  refine⟨a * a',?_,?_⟩
  · have hc:(Fr.mul x y).t * (x.b * y.b)=(x.t * y.t) * (Fr.mul x y).b:=Fr.of_cross (x.t * y.t) (x.b * y.b) (Int.mul_pos x.p y.p)
    have hn:x.b * y.b≠0:=Int.mul_ne_zero x.nb y.nb
    refine Int.eq_of_mul_eq_mul_right hn ?_
    rw[Int.mul_right_comm,hc,Int.pow_add]
    have e2:x.t * y.t * (Fr.mul x y).b * (12 ^ j * 12 ^ k)=(x.t * 12 ^ j) * (y.t * 12 ^ k) * (Fr.mul x y).b:=by
      rw[Int.mul_right_comm]
      congr 1
      rw[Int.mul_assoc,Int.mul_assoc,Int.mul_left_comm y.t]
    rw[e2,e,e']
    have e3:a * x.b * (a' * y.b)=a * a' * (x.b * y.b):=by
      rw[Int.mul_assoc,Int.mul_assoc,Int.mul_left_comm x.b]
    rw[e3,Int.mul_right_comm]
  · rw[Int.natAbs_mul,Nat.mul_add,Nat.pow_add]
    have h1:=Nat.mul_le_mul b b'
    have e1:1024 * a.natAbs * (1024 * a'.natAbs)=1024 * (1024 * (a.natAbs * a'.natAbs)):=by
      rw[Nat.mul_assoc,Nat.mul_left_comm a.natAbs]
    have e2:32 * 2 ^ (100 * j) * (32 * 2 ^ (100 * k))=1024 * (2 ^ (100 * j) * 2 ^ (100 * k)):=by
      rw[Nat.mul_assoc,Nat.mul_left_comm (2 ^ (100 * j)),← Nat.mul_assoc]
    rw[e1,e2]at h1
    have:=Nat.le_of_mul_le_mul_left h1 (by decide)
    omega
theorem Fr.lv_up{k c:Nat}{x:Fr}(h:x.lv k c):x.lv (k+1) c:=by
  obtain⟨a,e,b⟩:=h
  refine⟨a * 12,?_,?_⟩
  · rw[Int.pow_succ,← Int.mul_assoc,e,Int.mul_right_comm]
  · rw[Int.natAbs_mul,show 100 * (k+1)=100 * k+100 from by omega,Nat.pow_add]
    have h1:(1024 * a.natAbs) * 12≤(c * 2 ^ (100 * k)) * 2 ^ 100:=Nat.mul_le_mul b (by decide)
    have e1:1024 * (a.natAbs * (12:Int).natAbs)=(1024 * a.natAbs) * 12:=by rw[Nat.mul_assoc];rfl
    rw[e1,← Nat.mul_assoc]
    exact h1
theorem Fr.lv_sz{k c:Nat}{x:Fr}(hc:c≤1024)(h:x.lv k c):x.sz (100 * k):=by
  obtain⟨a,e,b⟩:=h
  have cop:Nat.Coprime x.t.natAbs x.b.natAbs:=by
    have l:=x.l
    unfold dv at l
    have:Int.gcd x.t x.b=1:=by omega
    exact this
  have e':x.t.natAbs * 12 ^ k=a.natAbs * x.b.natAbs:=by
    have:=congrArg Int.natAbs e
    rw[Int.natAbs_mul,Int.natAbs_mul,Int.natAbs_pow]at this
    exact this
  have hb:a.natAbs≤2 ^ (100 * k):=by
    have h1:1024 * a.natAbs≤1024 * 2 ^ (100 * k):=Nat.le_trans b (Nat.mul_le_mul_right _ hc)
    exact Nat.le_of_mul_le_mul_left h1 (by decide)
  have p12:(12:Nat) ^ k≤2 ^ (100 * k):=by
    rw[Nat.pow_mul]
    exact Nat.pow_le_pow_left (by decide) k
  constructor
  · have d:x.t.natAbs ∣ a.natAbs:=cop.dvd_of_dvd_mul_right ⟨12 ^ k,e'.symm⟩
    by_cases z:a.natAbs=0
    · have:x.t.natAbs * 12 ^ k=0:=by rw[e',z,Nat.zero_mul]
      have:x.t.natAbs=0:=by
        rcases Nat.mul_eq_zero.mp this with h | h
        · exact h
        · exact absurd h (Nat.ne_of_gt (Nat.pow_pos (by decide)))
      omega
    · exact Nat.le_trans (Nat.le_of_dvd (by omega) d) hb
  · have d:x.b.natAbs ∣ 12 ^ k:=cop.symm.dvd_of_dvd_mul_left ⟨a.natAbs,by rw[e',Nat.mul_comm]⟩
    exact Nat.le_trans (Nat.le_of_dvd (Nat.pow_pos (by decide)) d) p12
structure Re(p:Int)where
  x:Int
  h0:0≤x
  h1:x < p
def Re.of(p:Int)(hp:0 < p)(x:Int):Re p:=⟨x.fmod p,(r_in hp).1,(r_in hp).2⟩
theorem sz_log{x:Int}{n:Nat}(h:x.natAbs≤2 ^ n)(hn:n≤8900):x.natAbs.log2 < 9000:=by
  by_cases e:x.natAbs=0
  · rw[e];decide
  · rw[Nat.log2_lt e]
    exact Nat.lt_of_le_of_lt h (Nat.pow_lt_pow_right (by decide) (by omega))
end Mine
namespace L2
open PySem Mine
def KAt(C:Addr)(fs:List (Str × V))(H:Hp)(k:V):Prop:=∃p dx,k=.ref p∧H p=some (.ins C dx fs)
theorem KAt.same{C:Addr}{fs:List (Str × V)}{H H':Hp}{k:V}(e:Same H H')(h:KAt C fs H k):KAt C fs H' k:=by
  obtain⟨p,dx,rfl,h⟩:=h
  exact⟨p,dx,rfl,e _ _ h⟩
def spBin(C:Addr)(fs:List (Str × V))(S:SR)(is:Hp→V→S.W→Prop)(f:S.W→S.W→S.W):Sp:=fun vs H Q _=>∃k x y a b m n,vs=[k,x,y]∧
  (KAt C fs H k∧is H x a∧is H y b∧S.sz m a∧S.sz n b∧m+n≤8000)∧∀v H',Same H H'→is H' v (f a b)→Q v H'
def spNul(C:Addr)(fs:List (Str × V))(S:SR)(is:Hp→V→S.W→Prop)(z:S.W):Sp:=fun vs H Q _=>∃k,vs=[k]∧KAt C fs H k∧∀v H',Same H H'→is H' v z→Q v H'
def spIsW(C:Addr)(fs:List (Str × V))(S:SR)(is:Hp→V→S.W→Prop):Sp:=fun vs H Q _=>∃k x a,vs=[k,x]∧(KAt C fs H k∧is H x a)∧Q (.bl true) H
set_option genInjectivity false in
set_option genSizeOfSpec false in
structure KindR(P:Program)(w:World)(K:PySem.W.Frag)(mg:Str→Option Value)(base:Heap)where
  S:SR
  C:Addr
  fs:List (Str × V)
  cl:Cls K C
  is:Hp→V→S.W→Prop
  same:∀{H H':Hp} {v:V} {x:S.W},Same H H'→is H v x→is H' v x
  isd:∀{H:Hp} {v:V} {x:S.W},is H v x→Is K H v (S.data x)
  f_plus:Addr
  d_plus:FuncData
  t_plus:Meth K C "plus" f_plus
  b_plus:Binds K d_plus ["self","x","y"] []
  l_plus:fs.lookup ("plus":Str)=none
  G_plus:FnOk P w K mg base CX0 4 f_plus d_plus ["self","x","y"] (spBin C fs S is S.add)
  f_times:Addr
  d_times:FuncData
  t_times:Meth K C "times" f_times
  b_times:Binds K d_times ["self","x","y"] []
  l_times:fs.lookup ("times":Str)=none
  G_times:FnOk P w K mg base CX0 4 f_times d_times ["self","x","y"] (spBin C fs S is S.mul)
  f_nought:Addr
  d_nought:FuncData
  t_nought:Meth K C "nought" f_nought
  b_nought:Binds K d_nought ["self"] []
  l_nought:fs.lookup ("nought":Str)=none
  G_nought:FnOk P w K mg base CX0 4 f_nought d_nought ["self"] (spNul C fs S is S.zero)
  f_one:Addr
  d_one:FuncData
  t_one:Meth K C "one" f_one
  b_one:Binds K d_one ["self"] []
  l_one:fs.lookup ("one":Str)=none
  G_one:FnOk P w K mg base CX0 4 f_one d_one ["self"] (spNul C fs S is S.one)
  f_is_weight:Addr
  d_is_weight:FuncData
  t_is_weight:Meth K C "is_weight" f_is_weight
  b_is_weight:Binds K d_is_weight ["self","thing"] []
  l_is_weight:fs.lookup ("is_weight":Str)=none
  G_is_weight:FnOk P w K mg base CX0 4 f_is_weight d_is_weight ["self","thing"] (spIsW C fs S is)
section
variable{P:Program}{w:World}{K:PySem.W.Frag}{mg:Str→Option Value}{base:Heap}
theorem KindR.neT(R:KindR P w K mg base){H:Hp}{x y:V}{a b:R.S.W}{Q:VK}(hx:R.is H x a)(hy:R.is H y b)(e:a≠b)(q:Q (.bl true) H):rNeD K x y H Q:=
  ⟨_,_,R.isd hx,R.isd hy,R.S.sh _,R.S.sh _,R.S.nm _ _,by rw[R.S.ne _ _ e];exact q⟩
end
def IsF(H:Hp)(v:V)(a b:Int):Prop:=∃p,v=.ref p∧H p=some (.tup [.int a,.int b])
theorem IsF.same{H H':Hp}{v:V}{a b:Int}(e:Same H H')(h:IsF H v a b):IsF H' v a b:=by
  obtain⟨p,rfl,h⟩:=h
  exact⟨p,rfl,e _ _ h⟩
theorem IsF.is{K:PySem.W.Frag}{H:Hp}{v:V}{a b:Int}(h:IsF H v a b):Is K H v (.tuple [.int a,.int b]):=by
  obtain⟨p,rfl,h⟩:=h
  exact .tup (SqT.of h) (.cons (.int _) (.cons (.int _) .nil))
theorem IsF.new{H:Hp}{p:Addr}{a b:Int}:IsF (upd H p (.tup [.int a,.int b])) (.ref p) a b:=⟨p,rfl,a0c⟩
def pfs(p:Int):List (Str × V):=putF "prime" (.int p) []
theorem pfs_prime(p:Int):(pfs p).lookup ("prime":Str)=some (.int p):=by
  unfold pfs
  rw[f0h,if_pos rfl]
theorem f0n{H:Hp}{C x dx:Addr}{fs:List (Str × V)}(n:H x=none)(m:H dx=none):Same H (upd (upd H dx (.own x)) x (.ins C dx fs)):=fun b o e=>by
  rw[a0w (a0t e n),a0w (a0t e m)];exact e
theorem h0f(xs:List V)(k:Nat):cutV xs none (some (k:Int))=xs.take k:=by
  unfold cutV
  rw[HT.j0h,HT.j0i,List.drop_zero,Nat.sub_zero]
  by_cases h:k≤xs.length
  · rw[Nat.min_eq_left h]
  · rw[Nat.min_eq_right (by omega),List.take_length,List.take_of_length_le (by omega)]
theorem decI{i j:Int}(e:i=j):decide (V.int i=V.int j)=true:=decide_eq_true (congrArg V.int e)
end L2
namespace L2
open PySem PySem.Spec PyProof.Rows
section
variable{X:Cx}{v v₁ v₂:Expr}{vs:List Expr}{te:TE}{pos:Pos}
end
end L2
namespace L2
open PySem PySem.Spec PyProof.Rows
section
variable{X:Cx}{pins:List (Addr × Obj)}{σ:St}{H:Hp}{s:Shared}{pos:Pos}
end
end L2
namespace L2
open PySem PySem.Spec PyProof.Rows
def i0e(cells:List (Str × Addr)):List (Str × NameKind)→List (Str × Addr)→List (Str × Addr)
  | [],cs=>cs
  | (n,k)::r,cs=>i0e cells r (if(k == .free)=true then(n,(cells.lookup n).getD 0)::cs else cs)
theorem clo_for{env:Env}:∀(names:List (Str × NameKind)) (cs:List (Str × Addr)),(∀n,(n,NameKind.free)∈names→∃c,env.cells.lookup n=some c)→
    (forIn names cs fun(x:Str × NameKind) (r:List (Str × Addr))=>(match x with | (name,kind)=>if(kind == NameKind.free)=true then(do let c ← cellOf env name;pure (ForInStep.yield ((name,c)::r)))else pure (ForInStep.yield r):Sem (ForInStep (List (Str × Addr)))))=pure (i0e env.cells names cs)
  | [],cs,_=>rfl
  | (n,k)::r,cs,h=>by
    rw[List.forIn_cons]
    by_cases hk:k=.free
    · subst hk
      obtain⟨c,hc⟩:=h n List.mem_cons_self
      have ih:=clo_for (env:=env) r ((n,c)::cs) fun m hm=>h m (List.mem_cons_of_mem _ hm)
      have e1:cellOf env n=pure c:=by unfold cellOf;rw[hc]
      simp only[beq_self_eq_true,if_true,e1,pure_bind]
      rw[ih]
      conv=>rhs;unfold i0e
      simp only[beq_self_eq_true,if_true,hc,Option.getD_some]
    · have hb:(k == NameKind.free)=false:=by simpa using hk
      have ih:=clo_for (env:=env) r cs fun m hm=>h m (List.mem_cons_of_mem _ hm)
      simp only[hb,Bool.false_eq_true,if_false,pure_bind]
      rw[ih]
      conv=>rhs;unfold i0e
      simp only[hb,Bool.false_eq_true,if_false]
theorem i0d{env:Env}{scope:Scope}(h:∀n,(n,NameKind.free)∈scope.names→∃c,env.cells.lookup n=some c):closureFor scope env=pure (i0e env.cells scope.names []):=by
  have e:=clo_for (env:=env) scope.names [] h
  unfold closureFor
  simp only[bind_pure]
  exact e
theorem clo_in{cells:List (Str × Addr)}:∀{names:List (Str × NameKind)} {cs:List (Str × Addr)},(∀n,(n,NameKind.free)∈names→∃c,cells.lookup n=some c)→∀{y c},(i0e cells names cs).lookup y=some c→cs.lookup y=some c∨cells.lookup y=some c
  | [],cs,_,y,c,e=>.inl e
  | (n,k)::r,cs,h,y,c,e=>by
    unfold i0e at e
    have h':∀m,(m,NameKind.free)∈r→∃c,cells.lookup m=some c:=fun m hm=>h m (List.mem_cons_of_mem _ hm)
    rcases clo_in h' e with z | z
    · by_cases hk:k=.free
      · subst hk
        obtain⟨d,hd⟩:=h n List.mem_cons_self
        simp only[beq_self_eq_true,if_true,hd,Option.getD_some]at z
        rw[List.lookup_cons]at z
        cases hy:(y == n)with
        | true=>
          rw[hy]at z
          have:y=n:=beq_iff_eq.mp hy
          subst this
          exact .inr (hd.trans z)
        | false=>rw[hy]at z;exact .inl z
      · have hb:(k == NameKind.free)=false:=by simpa using hk
        simp only[hb,Bool.false_eq_true,if_false]at z
        exact .inl z
    · exact .inr z
theorem clo_has{cells:List (Str × Addr)}:∀{names:List (Str × NameKind)} {cs:List (Str × Addr)} {y:Str},((∃c,cs.lookup y=some c)∨(y,NameKind.free)∈names)→∃c,(i0e cells names cs).lookup y=some c
  | [],cs,y,h=>by
    rcases h with h | h
    · exact h
    · cases h
  | (n,k)::r,cs,y,h=>by
    unfold i0e
    refine clo_has ?_
    rcases h with ⟨c,h⟩ | h
    · left
      split
      · rw[List.lookup_cons]
        cases hy:(y == n)with
        | true=>exact⟨_,rfl⟩
        | false=>exact⟨c,h⟩
      · exact⟨c,h⟩
    · rcases List.mem_cons.mp h with e | h
      · cases e
        left
        simp only[beq_self_eq_true,if_true]
        rw[List.lookup_cons,beq_self_eq_true]
        exact⟨_,rfl⟩
      · exact .inr h
theorem compLoop_any{prog:Program}{w:World}{A:Around}{R:Result→Shared→Prop}{s:Shared}{elt target iter:Expr}{scope:Scope}{pos:Pos}{it acc:Value}{env:Env}(I:Nat→Shared→Prop)
    (turn:∀n s,I n s→wpAny (model prog w) A (pyNext it) (fun r s₁=>match r with
      | none=>R (.ok .next) s₁
      | some v=>wpAny (model prog w) A (letOwnedTupleGo target it v) (fun _ s₁'=>wpAny (model prog w) A (assign target env v) (fun _ s₂=>wpAny (model prog w) A (eval elt env) (fun x s₃=>
          wpAny (model prog w) A (call (.builtin "list.append") [acc,x]) (fun _ s₄=>∃m,m < n∧I m s₄) (fun _ _=>False) s₃) (fun _ _=>False) s₂) (fun _ _=>False) s₁') (fun _ _=>False) s₁) (fun _ _=>False) s)
    (n:Nat) (h:I n s) :
    codeAny (model prog w) A (.compLoop (.ListComp elt [⟨target,iter,[],0⟩] scope pos) 0 it acc env) R s:=by
  refine codeAny_loop rfl I (fun n s hI=>?_) n h
  show wpAny _ _ ((compTurn (.ListComp elt [⟨target,iter,[],0⟩] scope pos) 0 it acc env).onRaise (fun x=>do noteFrame x env;theTreesLotGoes x)) _ _ s
  refine wpAny_noted ?_
  rw[compTurn_list1]
  refine wpAny_bind (wpAny_standAt (wpAny_bind (wpAny_mono (turn n s hI) (fun r s₁ h₁=>?_) fun _ _ h'=>h'.elim)))
  cases r with
  | none=>exact wpAny_pure h₁
  | some v=>
    exact wpAny_bind (wpAny_mono h₁ (fun _ s1' h1'=>wpAny_bind (wpAny_mono h1' (fun _ s₂ h₂=>wpAny_bind (wpAny_bind (wpAny_mono h₂ (fun x s₃ h₃=>wpAny_bind (wpAny_mono h₃
      (fun _ s₄ h₄=>wpAny_pure (wpAny_pure ⟨rfl,h₄⟩)) fun _ _ h'=>h'.elim)) fun _ _ h'=>h'.elim))) fun _ _ h'=>h'.elim)) fun _ _ h'=>h'.elim)
theorem HOk.track{P:Program}{w:World}{H:Hp}{h:Heap}{a:Addr}{o:HO}(x:HOk P w H h)(n:H a=none)(new:ObjOk P w (upd H a o) h a o):HOk P w (upd H a o) h:=fun b u e=>by
  by_cases hb:b=a
  · subst hb;rw[a0c]at e;cases e;exact new
  · rw[a0w hb]at e
    exact(x b u e).stay (fun _ _ _ q=>q) (fun c q=>by rw[a0w (a0t q n)];exact q) fun c xs q=>by rw[a0w (a0t q n)];exact q
theorem Un.track{fs ex:List Addr}{H H':Hp}{h h':Heap}{a:Addr}{o:HO}(u:Un fs ex H H' h h')(hp:h.objs.size≤a)(n:H' a=none):Un fs ex H (upd H' a o) h h' where
  keep:=u.keep
  slot:=u.slot
  free:=fun b ob q m hx=>by rw[a0w (Nat.ne_of_lt (Nat.lt_of_lt_of_le (Heap.lt_size q) hp))];exact u.free b ob q m hx
  there:=u.there
  tups:=fun b xs q=>by have z:=u.tups b xs q;rw[a0w (a0t z n)];exact z
  frzs:=fun b ob xs q=>by have z:=u.frzs b ob xs q;rw[a0w (a0t z n)];exact z
  tbls:=fun b ps q=>by obtain⟨m,z⟩:=u.tbls b ps q;exact⟨m,by rw[a0w (a0t z n)];exact z⟩
theorem b0r:∀(names:List (Str × NameKind)) (n:Nat) (acc:List (Str × Addr)),cellsFrom n names acc=cellsFrom n names []++acc
  | [],_,_=>rfl
  | (x,k)::r,n,acc=>by
    unfold cellsFrom
    split
    · rw[b0r r (n+1) ((x,n)::acc),b0r r (n+1) [(x,n)],List.append_assoc];rfl
    · exact b0r r n acc
theorem k0l:∀(names:List (Str × NameKind)) (n:Nat) (y:Str) (c:Addr),(y,c)∈cellsFrom n names []→(y,NameKind.cell)∈names
  | [],_,_,_,h=>by cases h
  | (x,k)::r,n,y,c,h=>by
    unfold cellsFrom at h
    split at h
    · rename_i hk
      rw[b0r]at h
      rcases List.mem_append.mp h with h | h
      · exact List.mem_cons_of_mem _ (k0l r (n+1) y c h)
      · have e:=List.mem_singleton.mp h
        cases e
        rw[show k=NameKind.cell by simpa using hk]
        exact List.mem_cons_self
    · exact List.mem_cons_of_mem _ (k0l r n y c h)
theorem g0c:∀(names:List (Str × NameKind)) (n:Nat) (y:Str),(y,NameKind.cell)∈names→∃c,(y,c)∈cellsFrom n names []
  | [],_,_,h=>by cases h
  | (x,k)::r,n,y,h=>by
    unfold cellsFrom
    rcases List.mem_cons.mp h with e | h
    · cases e
      rw[if_pos (show(NameKind.cell == NameKind.cell)=true by decide),b0r]
      exact⟨n,List.mem_append_right _ List.mem_cons_self⟩
    · split
      · rw[b0r]
        obtain⟨c,hc⟩:=g0c r (n+1) y h
        exact⟨c,List.mem_append_left _ hc⟩
      · exact g0c r n y h
theorem d0h{α:Type}:∀(l r:List (Str × α)) (y:Str),(l++r).lookup y=match l.lookup y with | some c=>some c | none=>r.lookup y
  | [],_,_=>rfl
  | (x,c)::l,r,y=>by
    rw[List.cons_append,List.lookup_cons,List.lookup_cons]
    cases (y == x)with
    | true=>rfl
    | false=>exact d0h l r y
theorem g0r{α:Type}:∀{l:List (Str × α)} {y:Str} {c:α},(y,c)∈l→∃c',l.lookup y=some c'
  | (x,d)::l,y,c,h=>by
    rw[List.lookup_cons]
    cases hb:(y == x)with
    | true=>exact⟨d,rfl⟩
    | false=>
      rcases List.mem_cons.mp h with e | h
      · cases e;rw[beq_self_eq_true]at hb;cases hb
      · exact g0r h
abbrev cbOf(env:Env)(scope:Scope)(C:Addr):List (Str × Addr):=cellsFrom (C+1) scope.names (i0e env.cells scope.names [])
theorem cb_lookup{env:Env}{scope:Scope}{C:Addr}{y:Str}{c:Addr}(h:(cbOf env scope C).lookup y=some c):(y,c)∈cellsFrom (C+1) scope.names []∨(i0e env.cells scope.names []).lookup y=some c:=by
  rw[show cbOf env scope C=_ from b0r _ _ _,d0h]at h
  split at h
  · rename_i e;cases h;exact .inl (PySem.mem_of_lookup e)
  · exact .inr h
theorem cb_own{env:Env}{scope:Scope}{C:Addr}{y:Str}{c:Addr}(k:scope.names.lookup y=some .cell)(h:(cbOf env scope C).lookup y=some c):(y,c)∈cellsFrom (C+1) scope.names []:=by
  rw[show cbOf env scope C=_ from b0r _ _ _,d0h]at h
  obtain⟨d,hd⟩:=g0c scope.names (C+1) y (PySem.mem_of_lookup k)
  obtain⟨d',hd'⟩:=g0r hd
  rw[hd']at h
  cases h
  exact PySem.mem_of_lookup hd'
theorem b0q:∀(names:List (Str × NameKind)) (n:Nat) (y:Str) (c:Addr),(y,c)∈cellsFrom n names []→n≤c
  | [],_,_,_,h=>by cases h
  | (x,k)::r,n,y,c,h=>by
    unfold cellsFrom at h
    split at h
    · rw[b0r]at h
      rcases List.mem_append.mp h with h | h
      · have:=b0q r (n+1) y c h;omega
      · cases List.mem_singleton.mp h;exact Nat.le_refl _
    · exact b0q r n y c h
theorem i0g:∀(names:List (Str × NameKind)) (n:Nat) (x y:Str) (c:Addr),(x,c)∈cellsFrom n names []→(y,c)∈cellsFrom n names []→x=y
  | [],_,_,_,_,h,_=>by cases h
  | (z,k)::r,n,x,y,c,h,g=>by
    unfold cellsFrom at h g
    split at h
    · rename_i hk
      rw[if_pos hk]at g
      rw[b0r]at h g
      rcases List.mem_append.mp h with h | h <;>rcases List.mem_append.mp g with g | g
      · exact i0g r (n+1) x y c h g
      · cases List.mem_singleton.mp g
        have:=b0q r (n+1) x _ h;omega
      · cases List.mem_singleton.mp h
        have:=b0q r (n+1) y _ g;omega
      · cases List.mem_singleton.mp h;cases List.mem_singleton.mp g;rfl
    · rename_i hk
      rw[if_neg hk]at g
      exact i0g r n x y c h g
theorem h0p{M:Model}{A:Around}{E:Value→Shared→Prop}{s:Shared}{scope:Scope}{globals:Addr}{closure:List (Str × Addr)}{qual:Str}{env:Env}{Q:Env→Shared→Prop}
    (hQ:∀h':Heap,h'.Ns s.heap.objs.size (fun _=>none)→(∀b o,s.heap.get? b=some o→h'.get? b=some o)→CellsOk h' (s.heap.objs.size+1) (cellsFrom (s.heap.objs.size+1) scope.names [])→
      Q (newEnv scope s.heap.objs.size globals (cellsFrom (s.heap.objs.size+1) scope.names closure) qual none .none (some env) builtinsNs) { s with heap:=h',toks:=s.toks+([]:List (Str × Value)).length }) :
    wpAny M A (newFunctionEnv scope globals closure [] qual none .none (some env)) Q E s:=by
  simp only[newFunctionEnv,Option.isSome_some,if_true]
  refine wpAny_bind (wpAny_alloc ?_)
  refine wpAny_bind (wpAny_layCells _ (fun name kind cells=>by cases hkc:kind == NameKind.cell <;>simp[hkc]) _ _ _ _ ?_)
  have ok:=cellsFrom_ok scope.names (s.heap.push { cls:=.type "dict",data:=.dict #[] }) (s.heap.objs.size+1) [] ⟨fun _ _ hm=>(nomatch hm),List.Pairwise.nil⟩ (by rw[Heap.size_push];exact Nat.le_refl _)
  rw[Heap.size_push]at ok
  rw[show({ s with heap:=s.heap.push { cls:=.type "dict",data:=.dict #[] } }:Shared).heap.objs.size=s.heap.objs.size+1 from Heap.size_push ..]
  rw[List.forIn_nil]
  refine wpAny_bind (wpAny_pure (wpAny_pure ?_))
  exact hQ _ ((Heap.Ns.new s.heap (.type "dict")).keeps (pushCells_keeps _ _)) (fun b o e=>pushCells_keeps _ _ b o (Heap.get?_push_of_some _ e)) ok
def c0z(X:Cx)(scope:Scope)(xs:List Str)(C:Addr)(s:Shared)(H:Hp)(fp:List Addr)(pn:List (Addr × Obj)):Cx:=
  { X with env:=compEnvC scope (cbOf X.env scope C) C X.env,N:=X.N++xs,s₀:=s,H₀:=H,outer:=X.stack,ex:=fp,fn:=fun y=>scope.names.lookup y == some .cell,pn:=pn,xe:=fun _ _=>False }
structure c0f(N:List Str)(S T:Scope):Prop where
  kind:T.kind=.function
  cell:∀y∈N,T.names.lookup y≠some .cell
  names:∀y∈T.names,y.2=.local→T.names.lookup y.1=some .local
  uniq:∀y∈T.names,T.names.lookup y.1=some y.2
  free:∀y∈T.names,y.2=.free→S.names.lookup y.1=some .cell∨S.names.lookup y.1=some .free
  vis:∀y∈N,T.names.lookup y≠some .local
def rl(env:Env)(z:Str × NameKind):Str × NameKind:=match z with | (n,k)=>if(k == NameKind.free && env.scope.kind == .function && env.kindOf n == some .cell)then(n,NameKind.cell)else(n,k)
theorem rl_fst(env:Env)(n:Str)(k:NameKind):(rl env (n,k)).1=n:=by unfold rl;dsimp only;split <;>rfl
theorem rl_snd(env:Env)(n:Str)(k:NameKind):(rl env (n,k)).2=k∨(k=.free∧(rl env (n,k)).2=.cell):=by
  unfold rl
  dsimp only
  split
  · rename_i h
    simp only[Bool.and_eq_true]at h
    exact .inr ⟨by simpa using h.1.1,rfl⟩
  · exact .inl rfl
theorem f0o{env:Env}:∀{names:List (Str × NameKind)} {y:Str} {k:NameKind},(names.map (rl env)).lookup y=some k→names.lookup y=some k∨(names.lookup y=some .free∧k=.cell)
  | [],_,_,h=>by cases h
  | (n,j)::r,y,k,h=>by
    have ih:=@f0o env r y k
    rw[List.map_cons,show rl env (n,j)=((rl env (n,j)).1,(rl env (n,j)).2)from rfl,rl_fst,List.lookup_cons]at h
    rw[List.lookup_cons]
    cases hy:(y == n)with
    | true=>
      rw[hy]at h
      have h:(rl env (n,j)).2=k:=Option.some.inj h
      rcases rl_snd env n j with z | ⟨z1,z2⟩
      · exact .inl (by rw[← h,z])
      · exact .inr ⟨by rw[z1],by rw[← h,z2]⟩
    | false=>
      rw[hy]at h
      exact ih h
theorem g0u{env:Env}{scope:Scope}{y:Str}(h:(relabel scope env).names.lookup y=some .cell∨(relabel scope env).names.lookup y=some .free):scope.names.lookup y=some .free∨scope.names.lookup y=some .cell:=by
  have e:(relabel scope env).names=scope.names.map (rl env):=rfl
  rw[e]at h
  rcases h with h | h
  · rcases f0o h with z | ⟨z,_⟩
    · exact .inr z
    · exact .inl z
  · rcases f0o h with z | ⟨z,_⟩
    · exact .inl z
    · exact .inl z
theorem j0k{env:Env}{scope:Scope}{y:Str}(h:(relabel scope env).names.lookup y=some .local):scope.names.lookup y=some .local:=by
  have e:(relabel scope env).names=scope.names.map (rl env):=rfl
  rw[e]at h
  rcases f0o h with z | ⟨_,z⟩
  · exact z
  · cases z
theorem Un.but{fs ex:List Addr}{H H':Hp}{h h1 h2:Heap}{C:Addr}(u:Un fs ex H H' h h1)(hb:∀b o,b≠C→h1.get? b=some o→h2.get? b=some o)(hC:h.objs.size≤C):Un fs ex H H' h h2:=by
  have ne:∀b o,h.get? b=some o→b≠C:=fun b o e=>Nat.ne_of_lt (Nat.lt_of_lt_of_le (Heap.lt_size e) hC)
  refine⟨fun b o e n hf hx=>hb b o (ne b o e) (u.keep b o e n hf hx),fun b o e n hf hx=>?_,u.free,fun b o e hx=>?_,u.tups,u.frzs,u.tbls⟩
  · obtain⟨sl,q⟩:=u.slot b o e n hf hx
    exact⟨sl,hb b _ (ne b o e) q⟩
  · obtain⟨o',q⟩:=u.there b o e hx
    exact⟨o',hb b _ (ne b o e) q⟩
theorem HOk.but{P:Program}{w:World}{H:Hp}{h1 h2:Heap}{C:Addr}(x:HOk P w H h1)(hb:∀b o,b≠C→h1.get? b=some o→h2.get? b=some o)(n:H C=none):HOk P w H h2:=fun b u e=>
  (x b u e).stay (fun c v hc q=>hb c v (by
    rcases hc with rfl | hc
    · exact a0t e n
    · exact a0t hc n) q) (fun _ q=>q) fun _ _ q=>q
section
variable{X:Cx}{pins:List (Addr × Obj)}{σ:St}{H:Hp}{s:Shared}{scope:Scope}{xs:List Str}{fp:List Addr}{C:Addr}
theorem g0b(I:Inv X pins σ H s)(ok:c0f X.N X.env.scope scope):∀n,(n,NameKind.free)∈scope.names→∃c,X.env.cells.lookup n=some c:=fun n hn=>I.ok.has n (ok.free _ hn rfl)
theorem e0k(I:Inv X pins σ H s)(ok:c0f X.N X.env.scope scope){y:Str}{c:Addr}(e:(cbOf X.env scope C).lookup y=some c):(y,c)∈cellsFrom (C+1) scope.names []∨X.env.cells.lookup y=some c:=by
  rcases cb_lookup e with z | z
  · exact .inl z
  · rcases clo_in (g0b I ok) z with z | z
    · cases z
    · exact .inr z
theorem comp_old(I:Inv X pins σ H s){y:Str}{c:Addr}(e:X.env.cells.lookup y=some c):c < s.heap.objs.size:=let⟨_,h⟩:=I.cell y c e;h.lt
theorem comp_ok(I:Inv X pins σ H s)(ok:c0f X.N X.env.scope scope)(hf:∀b∈fp,FpOk X pins H b)(hx:∀b∈fp,b < s.heap.objs.size)(hC:s.heap.objs.size≤C) :
    (c0z X scope xs C s H fp (X.pn++pins)).Ok where
  mod:=I.mod
  kind:=ok.kind
  glob:=I.ok.glob
  blt:=I.ok.blt
  above:=hC
  inj:=fun x y c h1 h2=>by
    rcases e0k I ok h1 with z1 | z1 <;>rcases e0k I ok h2 with z2 | z2
    · exact i0g _ _ x y c z1 z2
    · exact absurd (Nat.lt_of_lt_of_le (comp_old I z2) (Nat.le_trans hC (Nat.le_of_lt (b0q _ _ _ _ z1)))) (Nat.lt_irrefl _)
    · exact absurd (Nat.lt_of_lt_of_le (comp_old I z1) (Nat.le_trans hC (Nat.le_of_lt (b0q _ _ _ _ z2)))) (Nat.lt_irrefl _)
    · exact I.ok.inj x y c z1 z2
  has:=fun y hy=>by
    show ∃c,(cbOf X.env scope C).lookup y=some c
    rw[show cbOf X.env scope C=_ from b0r _ _ _,d0h]
    rcases g0u hy with z | z
    · obtain⟨c,hc⟩:=clo_has (cells:=X.env.cells) (cs:=[]) (.inr (PySem.mem_of_lookup z))
      split
      · rename_i c' _;exact⟨c',rfl⟩
      · exact⟨c,hc⟩
    · obtain⟨c,hc⟩:=g0c scope.names (C+1) y (PySem.mem_of_lookup z)
      obtain⟨c',hc'⟩:=g0r hc
      rw[hc']
      exact⟨c',rfl⟩
  cab:=fun x c h e=>Nat.le_trans hC (Nat.le_of_lt (b0q _ _ _ _ (cb_own (by have h:(scope.names.lookup x == some NameKind.cell)=true:=h;simpa using h) e)))
  hd:=I.ok.hd
  frames:=I.ok.frames
  stk:=.inl rfl
  exf:=fun b hb=>⟨Nat.ne_of_lt (Nat.lt_of_lt_of_le (hx b hb) hC),fun x c e=>by
    rcases e0k I ok e with z | z
    · exact Nat.ne_of_gt (Nat.lt_of_lt_of_le (hx b hb) (Nat.le_trans hC (Nat.le_of_lt (b0q _ _ _ _ z))))
    · exact(hf b hb).2.2.2.2.1 x c z⟩
  bs:=I.bs
  bsz:=Nat.le_trans I.ok.bsz I.sz
  noex:=fun b o e hb=>by
    rcases(hf b hb).2.2.2.1 with z | z
    · exact I.ok.noex b o e z
    · exact absurd (Nat.lt_of_lt_of_le (Heap.lt_size e) (Nat.le_trans I.ok.bsz z)) (Nat.lt_irrefl _)
  exfs:=fun b hb z=>by
    rcases List.mem_cons.mp (I.stkSub b z)with q | q
    · exact(hf b hb).2.1 q
    · exact(hf b hb).2.2.1 q
  funs:=I.stack
  frf:=I.stkFree
theorem i0z(I:Inv X pins σ H s)(ok:c0f X.N X.env.scope scope)(hf:∀b∈fp,FpOk X pins H b)(hx:∀b∈fp,b < s.heap.objs.size)(hC:s.heap.objs.size≤C){h':Heap}{t':Nat}{m:Str→Option Value}
    (hn:h'.Ns C m) (hk:∀b o,s.heap.get? b=some o→h'.get? b=some o) (hcs:CellsOk h' (C+1) (cellsFrom (C+1) scope.names [])) :
    Inv (c0z X scope xs C s H fp (X.pn++pins)) [] (σ++List.replicate xs.length none) H { s with heap:=h',toks:=t' }where
  ok:=comp_ok I ok hf hx hC
  os:=rfl
  bare:=I.bare
  base:=Un.kept hk
  loc:=by
    refine⟨m,hn,fun i x v e1 e2 e3=>?_⟩
    have e1:(X.N++xs)[i]? = some x:=e1
    have hi:i < σ.length:=by
      by_cases hi:i < σ.length
      · exact hi
      · rw[List.getElem?_append_right (by omega),List.getElem?_replicate]at e2
        split at e2 <;>cases e2
    rw[List.getElem?_append_left hi]at e2
    rw[List.getElem?_append_left (by rw[← I.len];exact hi)]at e1
    have hxN:x∈X.N:=List.mem_of_getElem? e1
    have e4:(relabel scope X.env).names.lookup x=some .cell∨(relabel scope X.env).names.lookup x=some .free:=by
      rcases e3 with z | z
      · exact absurd (j0k z) (ok.vis x hxN)
      · exact z
    have e5:scope.names.lookup x=some .free:=by
      rcases g0u e4 with z | z
      · exact z
      · exact absurd z (ok.cell x hxN)
    have e6:=ok.free _ (PySem.mem_of_lookup e5) rfl
    obtain⟨m0,_,hl⟩:=I.loc
    obtain⟨u,ru,lu⟩:=hl i x v e1 e2 (.inr e6)
    refine⟨u,ru,.inr ⟨e4,?_⟩⟩
    rcases lu with ⟨q,_⟩ | ⟨_,c,hc,o,ho,hd⟩
    · have q:X.env.scope.names.lookup x=some .local:=q
      rcases e6 with z | z <;>(rw[q]at z;cases z)
    · obtain⟨c',hc'⟩:=clo_has (cells:=X.env.cells) (cs:=[]) (.inr (PySem.mem_of_lookup e5))
      have no:(cellsFrom (C+1) scope.names []).lookup x=none:=by
        cases e:(cellsFrom (C+1) scope.names []).lookup x with
        | none=>rfl
        | some d=>
          have:=ok.uniq _ (k0l _ _ _ _ (PySem.mem_of_lookup e))
          rw[e5]at this
          cases this
      have hb:(cbOf X.env scope C).lookup x=some c':=by
        rw[show cbOf X.env scope C=_ from b0r _ _ _,d0h,no]
        exact hc'
      rcases clo_in (g0b I ok) hc' with z | z
      · cases z
      · rw[hc]at z
        cases z
        exact⟨c,hb,o,hk _ _ ho,hd⟩
  cell:=fun x c e=>by
    rcases e0k I ok e with z | z
    · exact⟨none,(hcs.empty x c z).1⟩
    · obtain⟨v,o,ho,hd⟩:=I.cell x c z
      exact⟨v,o,hk _ _ ho,hd⟩
  free:=I.hok.fresh hC
  freeC:=fun x c e=>by
    rcases e0k I ok e with z | z
    · exact I.hok.fresh (by have:=b0q _ _ _ _ z;omega)
    · exact I.freeC x c z
  pin:=fun p hp=>by
    rw[List.append_nil]at hp
    obtain⟨e,n,ne,nf,d⟩:=I.pin p hp
    refine⟨hk _ _ e,n,Nat.ne_of_lt (Nat.lt_of_lt_of_le (Heap.lt_size e) hC),fun z=>?_,d⟩
    rcases List.mem_cons.mp (I.stkSub p.1 z)with q | q
    · exact ne q
    · exact nf q
  hok:=I.hok.kept hk
  len:=by
    show(σ++List.replicate xs.length none).length=(X.N++xs).length
    rw[List.length_append,List.length_append,List.length_replicate,I.len]
end
abbrev CTail(J:It)(k:Nat)(g:TG)(te:TE)(σ:St)(Q:VK)(H1:Hp):Prop:=∃W:Nat→Nat→List V→Hp→Prop,(∃m,W 0 m [] H1)∧∀i m ys H,W i m ys H→
  (J.stop i H∧ys.length≤sizeLine∧∀p,H p=none→Q (.ref p) (upd H p (.lst ys)))∨
  (J.go i H∧ys.length < sizeLine∧∀x H',J.yld i H x H'→g x (σ++List.replicate k none) H' fun σ2 H2=>(∃zs,σ2=σ++zs∧zs.length=k)∧te σ2 H2 fun v H3=>∃m',m' < m∧W (i+1) m' (ys++[v]) H3)
def tComp(k:Nat)(wi:TI)(g:TG)(te:TE):TE:=fun σ H Q=>wi σ H fun J H1=>CTail J k g te σ Q H1
theorem d0q{X:Cx}{elt target iter:Expr}{scope:Scope}{pos:Pos}{wi:TI}{g:TG}{te:TE}{xs:List Str}(hc:X.calm=true)(ok:c0f X.N X.env.scope scope)(hi:PI X target iter wi)
    (hg:∀C s H fp pn,PG (c0z X scope xs C s H fp pn) target g) (he:∀C s H fp pn,PE (c0z X scope xs C s H fp pn) elt te)
    (hs:∀x,foldedSetIterable iter X.env x=pure x:=by intro _;rfl):PE X (.ListComp elt [⟨target,iter,[],0⟩] scope pos) (tComp xs.length wi g te):=by
  intro pins s σ H Q I h
  rw[eval_ListComp]
  refine wpAny_comprehension_free (use:=none) rfl hs (i0d (g0b I ok)) ok.kind ok.names (thn (hi pins s σ H _ I h) fun v s1 h1=>thn h1 fun itv s2 h2=>?_)
  obtain⟨it,fp,tn,J,H2,rfl,I2,T,st2,f2,W,⟨m0,w0⟩,turn⟩:=h2
  refine wpAny_newObj_type (h0p fun h₁ hns₁ hsb₁ hcl₁=>?_)
  dsimp only at hns₁ hsb₁ hcl₁ ⊢
  generalize hD:s2.heap.objs.size=D
  generalize hH3:s2.heap.push { cls:=.type "list",dict:=none,data:=.seq ([]:List Value).toArray }=h3 at hns₁ hsb₁ hcl₁ ⊢
  have k23:∀b o,s2.heap.get? b=some o→h3.get? b=some o:=fun b o e=>hH3▸Heap.get?_push_of_some _ e
  have hC:h3.objs.size=D+1:=by rw[← hH3,Heap.size_push,hD]
  have eD3:h3.get? D=some { cls:=.type "list",dict:=none,data:=.seq ([]:List Value).toArray }:=by
    rw[← hH3,← hD];exact Heap.get?_push_size _ rfl
  have I3:Inv X pins σ H2 { s2 with heap:=h3 }:=I2.kept (t':=s2.toks) k23
  have fD:FpOk X pins H2 D:=I2.fpOk (by omega) (I2.hok.fresh (by omega))
  have lt2:∀b∈fp,b < D:=fun b hb=>by
    obtain⟨o,e,_⟩:=T.obj 0 _ st2 b hb
    rw[← hD]
    exact Heap.lt_size e
  have f3:∀b∈D::fp,FpOk X pins H2 b:=fun b hb=>by
    rcases List.mem_cons.mp hb with rfl | hb
    · exact fD
    · exact f2 b hb
  have hx3:∀b∈D::fp,b < ({ s2 with heap:=h3 }:Shared).heap.objs.size:=fun b hb=>by
    show b < h3.objs.size
    rcases List.mem_cons.mp hb with rfl | hb
    · rw[hC];exact Nat.lt_succ_self _
    · rw[hC];exact Nat.lt_succ_of_lt (lt2 b hb)
  have k31:∀b o,h3.get? b=some o→h₁.get? b=some o:=hsb₁
  have okX:=comp_ok (C:=h3.objs.size) (xs:=xs) I3 ok f3 hx3 (Nat.le_refl _)
  have I4:=i0z (C:=h3.objs.size) (xs:=xs) (t':=s2.toks+([]:List (Str × Value)).length) I3 ok f3 hx3 (Nat.le_refl _) hns₁ k31 hcl₁
  have mD:D∈D::fp:=List.mem_cons_self
  have neC:∀b∈D::fp,b≠h3.objs.size:=fun b hb=>(okX.exf b hb).1
  have stat:∀{H':Hp} {pl:List (Addr × Obj)},(∀b∈fp,H' b=none)→(∀p∈pl,p.1=D)→∀b∈fp,FpOk (c0z X scope xs h3.objs.size { s2 with heap:=h3 } H2 (D::fp) (X.pn++pins)) pl H' b:=fun hn hpl b hb=>by
    have hb':b∈D::fp:=List.mem_cons_of_mem _ hb
    refine⟨hn b hb,neC b hb',okX.exfs b hb',.inl hb',(okX.exf b hb').2,fun p hp=>?_⟩
    rcases List.mem_append.mp hp with hp | hp
    · exact(f2 b hb).2.2.2.2.2 p hp
    · rw[hpl p hp]
      exact Nat.ne_of_gt (lt2 b hb)
  have loop:codeAny (model X.prog X.w) X.A (.compLoop (.ListComp elt [⟨target,iter,[],0⟩] scope pos) 0 (.ref it) (.ref D) (compEnvC scope (cbOf X.env scope h3.objs.size) h3.objs.size X.env))
      (compPost (model X.prog X.w) X.A X.xe none (EP X pins σ Q) (.ref D) h3.objs.size) { s2 with heap:=h₁,toks:=s2.toks+([]:List (Str × Value)).length }:=by
    refine compLoop_any (fun n s'=>∃i ys its k H',Inv (c0z X scope xs h3.objs.size { s2 with heap:=h3 } H2 (D::fp) (X.pn++pins)) [] (σ++List.replicate xs.length none) H' s'∧
      s'.heap.get? D=some { cls:=.type "list",data:=.seq (its:List Value).toArray k }∧Vals ys its∧H' D=none∧tn i s'.heap∧(∀b∈fp,H' b=none)∧W i n ys H') ?_ m0
      ⟨0,[],[],_,H2,I4,k31 _ _ eD3,.nil,fD.1,T.keep _ _ _ st2 (fun b _ o e=>k31 b o (k23 b o e)),fun b hb=>(f2 b hb).1,w0⟩
    rintro n s' ⟨i,ys,its,k,H',I',eD,rv,nD,st,fr,w⟩
    have Ip:=I'.pins_of (pins':=[(D,{ cls:=.type "list",data:=.seq its.toArray k })]) fun p hp=>by
      rw[List.mem_singleton]at hp
      subst hp
      exact⟨eD,nD,neC D mD,okX.exfs D mD,fun v z=>by cases z⟩
    have one:∀p∈[(D,({ cls:=.type "list",data:=.seq its.toArray k }:Obj))],p.1=D:=fun p hp=>by rw[List.mem_singleton]at hp;rw[hp]
    rcases turn i n ys H' w with ⟨stop,hz,q⟩ | ⟨go,hz,step⟩
    · refine thn (T.done (c0z X scope xs h3.objs.size { s2 with heap:=h3 } H2 (D::fp) (X.pn++pins)) rfl rfl rfl hc i _ s' _ H' (fun _ _=>False) Ip (stat fr one) st stop) fun r s4 ⟨hr,J4⟩=>?_
      subst hr
      obtain⟨mm,hnm,_⟩:=J4.loc
      refine⟨mm,hnm,fun h' sb=>?_⟩
      obtain⟨eD4,nD4,_⟩:=J4.pin (D,{ cls:=.type "list",data:=.seq its.toArray k }) (List.mem_append_right _ List.mem_cons_self)
      have hb:∀b o,b≠h3.objs.size→s4.heap.get? b=some o→h'.get? b=some o:=fun b o hn e=>sb.extBut b o hn e
      have u0:Un (frs X.stack) (D::fp) H2 H' h3 s4.heap:=J4.base
      have u:Un (frs X.stack) (D::fp) H2 H' s2.heap h':=((Un.kept k23).trans u0).but hb (by omega)
      have os4:s4.os=s2.os:=J4.os
      refine⟨.ref D,upd H' D (.lst ys),I2.call' (s':={ s4 with heap:=h' }) (ch:=D::fp) os4 (u.track (by omega) nD4) ((J4.hok.but hb J4.free).track nD4 ⟨hz,its,k,rv,hb D _ (neC D mD) eD4⟩) J4.bare (fun b hb=>?_),rfl,q D nD4⟩
      have z:=f3 b hb
      exact⟨z.2.2.2.1,z.2.1,z.2.2.2.2.1,z.2.2.2.2.2⟩
    · refine thn (T.item (c0z X scope xs h3.objs.size { s2 with heap:=h3 } H2 (D::fp) (X.pn++pins)) rfl rfl rfl hc i _ s' _ H' (fun _ _=>False) Ip (stat fr one) st go) fun r s4 ⟨u,hr,h4⟩=>?_
      subst hr
      refine thn h4 fun _ s5 ⟨x,H5,I5,r5,y5,st5,fr5⟩=>?_
      have I5':=I5.pinned (stat fr5 one) (T.obj _ _ st5)
      refine thn (hg _ _ _ _ _ _ s5 _ H5 x u _ I5' r5 (step x H5 y5)) fun _ s6 ⟨σ6,H6,I6,⟨zs,hz6,hl6⟩,q6⟩=>?_
      refine thn (he _ _ _ _ _ _ s6 σ6 H6 _ I6 q6) fun xv s7 ⟨v,H7,I7,r7,m',hm',w7⟩=>?_
      obtain⟨eD7,nD7,_⟩:=I7.pin (D,{ cls:=.type "list",data:=.seq its.toArray k }) (List.mem_append_right _ (List.mem_append_left _ List.mem_cons_self))
      have len:=rv.length
      refine call_meets F.slot_list_append ⟨_,eD7,rfl⟩ F.entry_list_append (F.args_list_append_2 _ _) (PySem.list_append D its.toArray k xv (by rw[List.size_toArray];omega)) ⟨eD7,?_⟩
      have q:=PySem.IsL.update eD7 (fun a=>a.push xv)
      have other:∀b o,b≠D→s7.heap.get? b=some o→(s7.heap.update D (Obj.mapSeq fun a=>a.push xv)).get? b=some o:=fun b o hb e=>(Heap.get?_update_other s7.heap _ (Ne.symm hb)).trans e
      have pinF:∀b∈fp,∀o,s5.heap.get? b=some o→s7.heap.get? b=some o∧H7 b=none:=fun b hb o e=>
        ⟨(I7.pin (b,o) (List.mem_append_right _ (List.mem_append_right _ (c0i hb e)))).1,(I7.pin (b,o) (List.mem_append_right _ (List.mem_append_right _ (c0i hb e)))).2.1⟩
      have I7':=I7.pins_of (pins':=[]) fun p hp=>by cases hp
      have I8:=I7'.turned (t':=s7.toks) (it:=D) other nD7 (neC D mD) (.inl mD) (okX.exf D mD).2 (fun p hp=>by
        rw[List.append_nil]at hp
        exact fD.2.2.2.2.2 p hp)
      have I9:=I8.weak (σ':=σ++List.replicate xs.length none) (by rw[hz6,List.length_append,List.length_append,List.length_replicate,hl6]) (fun j v' e=>by
        have hj:j < σ.length:=by
          by_cases hj:j < σ.length
          · exact hj
          · rw[List.getElem?_append_right (by omega),List.getElem?_replicate]at e
            split at e <;>cases e
        rw[List.getElem?_append_left hj]at e
        rw[hz6,List.getElem?_append_left hj]
        exact e)
      have e9:its.toArray.push xv=(its++[xv]).toArray:=by simp
      rw[e9]at q
      refine⟨m',hm',i+1,ys++[v],its++[xv],_,H7,I9,q,rv.append (.cons r7 .nil),nD7,T.keep _ _ _ st5 (fun b hb o e=>other b o (Nat.ne_of_lt (lt2 b hb)) (pinF b hb o e).1),fun b hb=>?_,w7⟩
      obtain⟨o,e,_⟩:=T.obj _ _ st5 b hb
      exact(pinF b hb o e).2
  exact codeAny_compStart_list loop (T.self _ 0 _ _ _ (T.keep _ _ _ st2 fun b _ o e=>k31 b o (k23 b o e)) loop)
end L2
namespace L2
open PySem PySem.Spec PyProof.Rows
abbrev Cx.rn(X:Cx)(i:Nat)(y:Str):Cx:={ X with N:=X.N.set i y }
section
variable{X:Cx}{pins:List (Addr × Obj)}{σ:St}{H:Hp}{s:Shared}{i:Nat}{y:Str}
theorem Inv.rn(I:Inv X pins σ H s)(h:σ[i]? = some none):Inv (X.rn i y) pins σ H s:=
  ⟨⟨I.ok.mod,I.ok.kind,I.ok.glob,I.ok.blt,I.ok.above,I.ok.inj,I.ok.has,I.ok.cab,I.ok.hd,I.ok.frames,I.ok.stk,I.ok.exf,I.ok.bs,I.ok.bsz,I.ok.noex,I.ok.exfs,I.ok.funs,I.ok.frf⟩,I.os,I.bare,I.base,
    let⟨m,hn,hl⟩:=I.loc;⟨m,hn,fun j x v e1 e2 e3=>by
      by_cases z:i=j
      · subst z;rw[h]at e2;cases e2
      · exact hl j x v (by rw[← e1];exact(List.getElem?_set_ne z).symm) e2 e3⟩,I.cell,I.free,I.freeC,I.pin,I.hok,by rw[I.len];exact List.length_set.symm⟩
theorem Inv.unrn(ok:X.Ok)(I:Inv (X.rn i y) pins σ H s)(h:σ[i]? = some none):Inv X pins σ H s:=
  ⟨ok,I.os,I.bare,I.base,let⟨m,hn,hl⟩:=I.loc;⟨m,hn,fun j x v e1 e2 e3=>by
      by_cases z:i=j
      · subst z;rw[h]at e2;cases e2
      · exact hl j x v (by rw[← e1];exact List.getElem?_set_ne z) e2 e3⟩,I.cell,I.free,I.freeC,I.pin,I.hok,by rw[I.len];exact List.length_set⟩
theorem pe_hide{e:Expr}{t:TE}(i:Nat)(y:Str)(h:PE (X.rn i y) e t):PE X e (fun σ H Q=>σ[i]? = some none∧t σ H Q):=by
  intro pins s σ H Q I ⟨hi,q⟩
  exact thn (h pins s σ H Q (I.rn hi) q) fun v s1 ⟨x,H1,I1,r,q1⟩=>⟨x,H1,I1.unrn I.ok hi,r,q1⟩
end
end L2
namespace L2
open PySem PySem.Spec PyProof.Rows
end L2
namespace L2
open PySem PySem.Spec PyProof.Rows
end L2
namespace L2
open PySem PySem.Spec PyProof.Rows
section
variable{X:Cx}
def rSlS:V→Option Int→Option Int→Hp→VK→Prop:=fun x lo hi H Q=>∃z,x=.str z∧z.length≤sizeLine∧Q (.str (Txt.slice z lo hi)) H
theorem f0l:SlR X rSlS:=by
  intro pins s σ H x v vl vu lo hi sl Q I rx hs pl pu h
  obtain⟨z,rfl,hz,q⟩:=h
  obtain⟨t,rfl⟩:=rx
  have fin:∀t' k,EP X pins σ Q (.str (Txt.slice z lo hi) t') { s with toks:=k }:=fun t' k=>⟨.str _,H,I.tok _,⟨_,rfl⟩,q⟩
  refine⟨"str",_,F.slot_str_getitem.lookup,typeIs_str _ _ _,?_⟩
  cases pl with
  | none=>
    cases pu with
    | none=>exact wpAny_getItem_str_slice (l:=none) (u:=none) (st:=none) hs rfl (post_val_or_str ⟨Nat.le_trans (Txt.slice_le z _ _) hz,fin⟩)
    | int j uj=>exact wpAny_getItem_str_slice (l:=none) (u:=some (j,uj)) (st:=none) hs rfl (post_val_or_str ⟨Nat.le_trans (Txt.slice_le z _ _) hz,fin⟩)
  | int i ui=>
    cases pu with
    | none=>exact wpAny_getItem_str_slice (l:=some (i,ui)) (u:=none) (st:=none) hs rfl (post_val_or_str ⟨Nat.le_trans (Txt.slice_le z _ _) hz,fin⟩)
    | int j uj=>exact wpAny_getItem_str_slice (l:=some (i,ui)) (u:=some (j,uj)) (st:=none) hs rfl (post_val_or_str ⟨Nat.le_trans (Txt.slice_le z _ _) hz,fin⟩)
def Its(z:Str):It:=⟨fun i _=>i < z.cps.size,fun i H x H'=>H'=H∧∃c,z.cps[i]? = some c∧x=.str ⟨#[c]⟩,fun i _=>z.cps.size≤i⟩
theorem turn_str{P:Program}{w:World}{K:PySem.W.Frag}{tg:Expr}(z:Str)(t:Tok)(it:Addr):Turn P w K tg (Its z) [it] it (fun i h=>h.IsStrIter it "str_ascii_iterator" z t i)where
  mem:=by simp
  obj:=fun i h st b hb=>by
    have e:b=it:=by simpa using hb
    subst e
    obtain⟨o,e,c,d⟩:=st
    exact⟨o,e,fun v q=>by rw[d]at q;cases q⟩
  keep:=fun i h h' st k=>by
    obtain⟨o,e,r⟩:=st
    exact⟨o,k it (by simp) o e,r⟩
  item:=by
    intro X hP hw hK hc i pins s σ H E I hf st hg
    subst hP hw hK
    have hg:i < z.cps.size:=hg
    obtain⟨f0,f1,f2,f3,f4,f5⟩:=hf it (by simp)
    refine wpAny_pyNext_ascii_item st (c:=z.cps[i]) (by simp[hg]) fun h' st' sb=>?_
    have I1:Inv X pins σ H { s with heap:=h',toks:=s.toks+1 }:=I.turned (t':=s.toks+1) (fun b o hb e=>(sb.2 b hb).trans e) f0 f1 f3 f4 f5
    obtain⟨o,e,c,d⟩:=id st'
    exact⟨_,rfl,go_of (s:={ s with heap:=h',toks:=s.toks+1 }) e c d (by decide) ⟨.str ⟨#[z.cps[i]]⟩,H,I1,⟨_,rfl⟩,⟨rfl,_,by simp[hg],rfl⟩,st',fun b hb=>(hf b hb).1⟩⟩
  done:=by
    intro X hP hw hK hc i pins s σ H E I hf st hg
    subst hP hw hK
    have hg:z.cps.size≤i:=hg
    obtain⟨f0,f1,f2,f3,f4,f5⟩:=hf it (by simp)
    exact wpAny_pyNext_ascii_end (I.ok.hd hc) st (by simp;omega) fun h' eb=>⟨rfl,I.turned (t':=s.toks) (fun b o hb e=>eb b o hb e) f0 f1 f3 f4 f5⟩
  self:=fun _ _ _ _ _ st h=>wpAny_pyIter_striter_ascii st h
def iStr(tl:TE):TI:=fun σ H R=>tl σ H fun x H1=>∃z,x=.str z∧z.cps.all (· < 128)=true∧R (Its z) H1
theorem pi_str{tg l:Expr}{tl:TE}(hl:PE X l tl):PI X tg l (iStr tl):=by
  intro pins s σ H R I h
  refine thn (hl pins s σ H _ I h) fun v s1 ⟨x,H1,I1,r1,z,e,ha,q⟩=>?_
  subst e
  obtain⟨t,rfl⟩:=r1
  refine wpAny_pyIter_ascii ha ?_
  have hf:H1 s1.heap.objs.size=none:=I1.hok.fresh (Nat.le_refl _)
  refine⟨s1.heap.objs.size,[s1.heap.objs.size],_,Its z,H1,rfl,I1.kept (t':=s1.toks) (fun b ob q=>Heap.get?_push_of_some _ q),turn_str z t _,⟨_,Heap.get?_push_size _ rfl,rfl,rfl⟩,fun b hb=>?_,q⟩
  have e:b=s1.heap.objs.size:=by simpa using hb
  subst e
  exact I1.fpOk (Nat.le_refl _) hf
end
end L2
namespace L2
open PySem PySem.Spec PyProof.Rows
section
variable{prog:Program}{w:World}{A:Around}{E:Value→Shared→Prop}{s:Shared}
theorem nextT_item{I t:Addr}{i:Nat}{vs:Array Value}{x:Value}{Q:Value→Shared→Prop}(hI:s.heap.IsTupleIter I t i)(ht:s.heap.IsTuple t vs)(e:vs[i]? = some x)
    (q:∀h',h'.IsTupleIter I t (i+1)→Heap.SameBut I s.heap h'→Q x { s with heap:=h' }):wpAny (model prog w) A (Builtin.SmallTypes.nextOf (.ref I)) Q E s:=by
  obtain⟨o,eo,co,fo⟩:=id hI;obtain⟨u,eu,_,n,fu⟩:=ht;unfold Builtin.SmallTypes.nextOf
  refine wpAny_bind (wpAny_callSpecial?_slot (name:=Str.ofString "__next__") hI.typeIs F.slot_tuple_iterator_next (wpAny_call_entry F.slot_tuple_iterator_next hI.typeIs F.entry_tuple_iterator_next ?_ (F.args_tuple_iterator_next_1 _)))
  show wpAny _ _ (field (.ref I) 0 >>= _) _ _ s
  refine wpAny_bind (wpAny_field eo fo (x:=.ref t) rfl ?_);show wpAny _ _ (if(Value.ref t == Value.none)=true then _ else _) _ _ s
  rw[if_neg (show ¬((Value.ref t == Value.none)=true)from Bool.false_ne_true)];show wpAny _ _ (field (.ref I) 1 >>= _) _ _ s
  refine wpAny_bind (wpAny_field eo fo (x:=.int i 0) rfl ?_);show wpAny _ _ (seqItems? (.ref t) >>= _) _ _ s
  refine wpAny_bind (wpAny_seqItems eu fu ?_);simp only[Int.toNat_natCast,e]
  refine wpAny_bind (wpAny_setField eo fo (by simp) (wpAny_pure ⟨x,rfl,wpAny_pure (q _ ?_ (Heap.SameBut.update ..))⟩))
  exact⟨_,Heap.get?_update_self _ eo (Obj.isFreed_of_fields (Obj.data_mapFields fo _)),(Obj.cls_mapFields ..).trans co,by rw[Obj.data_mapFields fo];simp[rawInt]⟩
theorem nextT_end{I t:Addr}{i:Nat}{vs:Array Value}{Q:Value→Shared→Prop}(hh:A.handled=none)(hI:s.heap.IsTupleIter I t i)(ht:s.heap.IsTuple t vs)(e:vs[i]? = none)
    (q:∀h' x,Heap.ExtBut I s.heap h'→(∃o,h'.get? x=some o∧o.cls=.type "StopIteration")→E (.ref x) { s with heap:=h' }):wpAny (model prog w) A (Builtin.SmallTypes.nextOf (.ref I)) Q E s:=by
  obtain⟨o,eo,co,fo⟩:=id hI;obtain⟨u,eu,_,n,fu⟩:=ht;unfold Builtin.SmallTypes.nextOf
  refine wpAny_bind (wpAny_callSpecial?_slot (name:=Str.ofString "__next__") hI.typeIs F.slot_tuple_iterator_next (wpAny_call_entry F.slot_tuple_iterator_next hI.typeIs F.entry_tuple_iterator_next ?_ (F.args_tuple_iterator_next_1 _)))
  show wpAny _ _ (field (.ref I) 0 >>= _) _ _ s
  refine wpAny_bind (wpAny_field eo fo (x:=.ref t) rfl ?_);show wpAny _ _ (if(Value.ref t == Value.none)=true then _ else _) _ _ s
  rw[if_neg (show ¬((Value.ref t == Value.none)=true)from Bool.false_ne_true)];show wpAny _ _ (field (.ref I) 1 >>= _) _ _ s
  refine wpAny_bind (wpAny_field eo fo (x:=.int i 0) rfl ?_);show wpAny _ _ (seqItems? (.ref t) >>= _) _ _ s
  refine wpAny_bind (wpAny_seqItems eu fu ?_);simp only[Int.toNat_natCast,e]
  refine wpAny_bind (wpAny_rule (wpAny_bind (wpAny_setField eo fo (by simp) ?_)));show wpAny _ _ (newExc (.type "StopIteration") [] >>= _) _ _ _
  refine wpAny_bind ?_;simp only[newExc,newTuple]
  refine wpAny_bind (wpAny_newObj_type ?_ (by size_fits));refine wpAny_bind (m:=firstArgMember _ _) (wpAny_of_eq (a:=Value.none) (by first | rfl | (simp only[firstArgMember];rfl)) ?_)
  refine wpAny_newObj_type ?_ (by size_fits);simp only[raiseNew];refine wpAny_bind (wpAny_handled ?_)
  first | rw[show A.in1.handled=none from hh] | rw[hh]
  refine wpAny_bind (wpAny_pure (wpAny_throw ?_));exact q _ _ (((Heap.SameBut.update ..).extBut.push _).push _) ⟨_,Heap.get?_push_size _ rfl,rfl⟩
end
inductive Sr
  | lst (a:Addr)
  | tup (a:Addr)
  | str (x:Str)
def Sr.it:Sr→Heap→Addr→Nat→Prop
  | .lst a,h,I,i=>h.IsListIter I a i
  | .tup a,h,I,i=>h.IsTupleIter I a i
  | .str x,h,I,i=>∃t,h.IsStrIter I (strIterType x) x t i
def Sr.has:Sr→Heap→Array Value→Prop
  | .lst a,h,vs=>h.IsList a vs
  | .tup a,h,vs=>h.IsTuple a vs
  | .str x,_,vs=>vs.size=x.cps.size
def Sr.is:Sr→Array Value→Nat→Value→Prop
  | .lst _,vs,i,v=>vs[i]? = some v
  | .tup _,vs,i,v=>vs[i]? = some v
  | .str x,_,i,v=>∃c u,x.cps[i]? = some c∧v=.str ⟨#[c]⟩ u
def Sr.fp:Sr→Addr→List Addr
  | .lst a,I=>[I,a]
  | .tup a,I=>[I,a]
  | .str _,I=>[I]
def Sr.off:Sr→Addr→Prop
  | .lst a,I=>a≠I
  | .tup a,I=>a≠I
  | .str _,_=>True
theorem Sr.it.mv{S:Sr}{h h':Heap}{I:Addr}{i:Nat}(x:S.it h I i)(k:∀o,h.get? I=some o→h'.get? I=some o):S.it h' I i:=by
  cases S with
  | lst a=>obtain⟨o,e,r⟩:=x;exact⟨o,k o e,r⟩
  | tup a=>obtain⟨o,e,r⟩:=x;exact⟨o,k o e,r⟩
  | str z=>obtain⟨t,o,e,r⟩:=x;exact⟨t,o,k o e,r⟩
theorem Sr.it.obj{S:Sr}{h:Heap}{I:Addr}{i:Nat}(x:S.it h I i):∃o,h.get? I=some o∧∀v,o.data≠.cell v:=by
  cases S with
  | lst a=>obtain⟨o,e,_,d⟩:=x;exact⟨o,e,fun v z=>by rw[d]at z;cases z⟩
  | tup a=>obtain⟨o,e,_,d⟩:=x;exact⟨o,e,fun v z=>by rw[d]at z;cases z⟩
  | str z=>obtain⟨t,o,e,_,d⟩:=x;exact⟨o,e,fun v z=>by rw[d]at z;cases z⟩
theorem Sr.has.mv{S:Sr}{h h':Heap}{vs:Array Value}{I:Addr}(x:S.has h vs)(k:∀b o,b≠I→h.get? b=some o→h'.get? b=some o)(off:S.off I):S.has h' vs:=by
  cases S with
  | lst a=>obtain⟨o,e,r⟩:=x;exact⟨o,k a o off e,r⟩
  | tup a=>obtain⟨o,e,r⟩:=x;exact⟨o,k a o off e,r⟩
  | str z=>exact x
theorem Sr.draws{prog:Program}{w:World}{A:Around}(S:Sr)(hh:A.handled=none)(I:Addr)(off:S.off I)(vs:Array Value) :
    Draws prog w A I (S.fp I) vs.size (S.is vs) (fun i h=>S.it h I i∧S.has h vs):=by
  cases S with
  | lst a=>exact Draws.list hh I a off vs
  | tup a=>exact{
      live:=fun _ _ st=>let⟨o,e,_⟩:=st.1;⟨o,e⟩
      frame:=fun _ _ _ st k=>⟨let⟨o,e,r⟩:=st.1;⟨o,k I (by simp[Sr.fp]) o e,r⟩,let⟨o,e,r⟩:=st.2;⟨o,k a (by simp[Sr.fp]) o e,r⟩⟩
      item:=fun i s Q E hi st q=>nextT_item st.1 st.2 (x:=vs[i]) (by simp[hi]) fun h' a' b'=>q _ h' s.toks (show vs[i]? = some vs[i] by simp[hi]) ⟨a',Heap.IsTuple.extBut st.2 b'.extBut off⟩ b'
      done:=fun s Q E st q=>nextT_end hh st.1 st.2 (by simp) q }
  | str x=>
    cases ha:x.cps.all (· < 128)with
    | true=>
      have e:strIterType x="str_ascii_iterator":=by simp[strIterType,ha]
      exact{
        live:=fun _ _ st=>let⟨_,o,e,_⟩:=st.1;⟨o,e⟩
        frame:=fun _ _ _ st k=>⟨let⟨t,o,e,r⟩:=st.1;⟨t,o,k I (by simp[Sr.fp]) o e,r⟩,st.2⟩
        item:=fun i s Q E hi st q=>by
          obtain⟨⟨t,g⟩,z⟩:=st
          have hz:vs.size=x.cps.size:=z
          rw[e]at g
          exact(Draws.strAscii (prog:=prog) (w:=w) hh I x t).item i s Q E (by omega) g fun v h' tk p st' sb=>q v h' tk p ⟨⟨t,by rw[e];exact st'⟩,z⟩ sb
        done:=fun s Q E st q=>by
          obtain⟨⟨t,g⟩,z⟩:=st
          have hz:vs.size=x.cps.size:=z
          rw[e,hz]at g
          exact(Draws.strAscii (prog:=prog) (w:=w) hh I x t).done s Q E g q }
    | false=>
      have e:strIterType x="str_iterator":=by simp[strIterType,ha]
      exact{
        live:=fun _ _ st=>let⟨_,o,e,_⟩:=st.1;⟨o,e⟩
        frame:=fun _ _ _ st k=>⟨let⟨t,o,e,r⟩:=st.1;⟨t,o,k I (by simp[Sr.fp]) o e,r⟩,st.2⟩
        item:=fun i s Q E hi st q=>by
          obtain⟨⟨t,g⟩,z⟩:=st
          have hz:vs.size=x.cps.size:=z
          rw[e]at g
          exact(Draws.strWide (prog:=prog) (w:=w) hh I x t).item i s Q E (by omega) g fun v h' tk p st' sb=>q v h' tk p ⟨⟨t,by rw[e];exact st'⟩,z⟩ sb
        done:=fun s Q E st q=>by
          obtain⟨⟨t,g⟩,z⟩:=st
          have hz:vs.size=x.cps.size:=z
          rw[e,hz]at g
          exact(Draws.strWide (prog:=prog) (w:=w) hh I x t).done s Q E g q }
end L2
namespace L2
open PySem PySem.Spec PyProof.Rows
structure ZA(S1 S2:Sr)(z TI TO i1 i2:Addr):Prop where
  a:TI≠z
  b:TO≠z
  c:i1≠z
  d:i2≠z
  e:TI≠TO
  f:TI≠i1
  g:TI≠i2
  h:TO≠i1
  i:TO≠i2
  j:i1≠i2
  k:∀x∈[z,TO,i1,i2],S1.off x∧S2.off x
structure ZS(S1 S2:Sr)(v1 v2:Array Value)(z TI TO i1 i2:Addr)(n:Nat)(u:Value)(h:Heap):Prop where
  z:IsZip h z TI TO u
  ti:IsPair h TI (.ref i1) (.ref i2)
  to:∃x y,IsPair h TO x y
  s1:S1.it h i1 n
  s2:S2.it h i2 n
  h1:S1.has h v1
  h2:S2.has h v2
section
variable{prog:Program}{w:World}{A:Around}{E:Value→Shared→Prop}{s:Shared}{S1 S2:Sr}{v1 v2:Array Value}{z TI TO i1 i2:Addr}{n:Nat}
end
def Begins(h:Heap)(v:Value)(o:Obj):Prop:=∀(prog:Program) (w:World) (A:Around) (E:Value→Shared→Prop) (s:Shared) (Q:Value→Shared→Prop),(∀b u,h.get? b=some u→s.heap.get? b=some u)→
  Q (.ref s.heap.objs.size) { s with heap:=s.heap.push o }→wpAny (model prog w) A (pyIter v) Q E s
def Sr.val:Sr→Value→Prop
  | .lst a,v=>v=.ref a
  | .tup a,v=>v=.ref a
  | .str x,v=>∃t,v=.str x t
theorem Sr.begins{S:Sr}{h:Heap}{v:Value}{vs:Array Value}(e:S.val v)(x:S.has h vs):∃o:Obj,Begins h v o∧o.isFreed=false∧∀(h':Heap) (I:Addr),h'.get? I=some o→S.it h' I 0:=by
  cases S with
  | lst a=>
    cases (show v=.ref a from e)
    exact⟨_,fun _ _ _ _ s Q k q=>wpAny_pyIter_list (let⟨o,e,r⟩:=x;⟨o,k a o e,r⟩) q,rfl,fun h' I e=>⟨_,e,rfl,rfl⟩⟩
  | tup a=>
    cases (show v=.ref a from e)
    exact⟨_,fun _ _ _ _ s Q k q=>wpAny_pyIter_tuple (let⟨o,e,r⟩:=x;⟨o,k a o e,r⟩) q,rfl,fun h' I e=>⟨_,e,rfl,rfl⟩⟩
  | str z=>
    obtain⟨t,rfl⟩:=(show ∃t,v=.str z t from e)
    exact⟨_,fun _ _ _ _ s Q k q=>wpAny_pyIter_strU q,rfl,fun h' I e=>⟨t,_,e,rfl,rfl⟩⟩
end L2
namespace L2
open PySem PySem.Spec PyProof.Rows
end L2
namespace L2
open PySem PySem.Spec PyProof.Rows
section
variable{X:Cx}{pins:List (Addr × Obj)}{σ:St}{H:Hp}{s:Shared}{h':Heap}
theorem Inv.track{a:Addr}{o:HO}(I:Inv X pins σ H s)(hs:X.s₀.heap.objs.size≤a)(f:FpOk X pins H a)(new:ObjOk X.prog X.w (upd H a o) s.heap a o):Inv X pins σ (upd H a o) s:=
  ⟨I.ok,I.os,I.bare,I.base.track hs f.1,I.loc,I.cell,by rw[a0w (Ne.symm f.2.1)];exact I.free,fun x c e=>by rw[a0w (f.2.2.2.2.1 x c e)];exact I.freeC x c e,fun p hp=>by
    obtain⟨e,n,r⟩:=I.pin p hp
    exact⟨e,by rw[a0w (f.2.2.2.2.2 p hp)];exact n,r⟩,I.hok.track f.1 new,I.len⟩
end
def signs(x:Str):List V:=x.cps.toList.map fun c=>V.str ⟨#[c]⟩
def Sr.vals(K:PySem.W.Frag)(H:Hp):Sr→List V→Prop
  | .lst a,xs=>SqL K H a xs
  | .tup a,xs=>SqT K H a xs
  | .str x,xs=>xs=signs x
def Sr.ofV:Sr→V→Prop
  | .lst a,v=>v=.ref a
  | .tup a,v=>v=.ref a
  | .str x,v=>v=.str x
section
variable{X:Cx}{pins:List (Addr × Obj)}{σ:St}{H:Hp}{s:Shared}{S:Sr}{xs ys:List V}
theorem Sr.vals.get(I:Inv X pins σ H s)(h:S.vals X.K H xs):∃vs,S.has s.heap vs∧vs.size=xs.length∧∀i x v,xs[i]? = some x→S.is vs i v→RelV x v:=by
  cases S with
  | lst a=>
    obtain⟨its,rv,p,hz⟩:=I.list h
    refine⟨its.toArray,p.isList,by have:=rv.length;simp;omega,fun i x v e1 e2=>?_⟩
    obtain⟨u,hu,ru⟩:=rv.get e1
    have e2:its.toArray[i]? = some v:=e2
    rw[List.getElem?_toArray,hu]at e2
    cases e2
    exact ru
  | tup a=>
    obtain⟨its,rv,p,hz⟩:=I.tuple h
    refine⟨its.toArray,(show s.heap.IsTuple a its.toArray from p),by have:=rv.length;simp;omega,fun i x v e1 e2=>?_⟩
    obtain⟨u,hu,ru⟩:=rv.get e1
    have e2:its.toArray[i]? = some v:=e2
    rw[List.getElem?_toArray,hu]at e2
    cases e2
    exact ru
  | str z=>
    cases (show xs=signs z from h)
    refine⟨Array.replicate z.cps.size .none,by show(Array.replicate _ _).size=_;simp,by simp[signs],fun i x v e1 e2=>?_⟩
    obtain⟨c,u,ec,rfl⟩:=(show ∃c u,z.cps[i]? = some c∧v=.str ⟨#[c]⟩ u from e2)
    have:(signs z)[i]? = some (V.str ⟨#[c]⟩):=by simp[signs,ec]
    rw[this]at e1
    cases e1
    exact⟨u,rfl⟩
theorem Sr.vals.inj(I:Inv X pins σ H s)(h:S.vals X.K H xs)(h':S.vals X.K H ys):xs=ys:=by
  cases S with
  | lst a=>exact I.list_inj h h'
  | tup a=>exact I.tuple_inj h h'
  | str z=>exact(show xs=signs z from h).trans (show ys=signs z from h').symm
theorem Sr.ofV.val{x:V}{u:Value}(e:S.ofV x)(r:RelV x u):S.val u:=by
  cases S with
  | lst a=>cases (show x=.ref a from e);exact r
  | tup a=>cases (show x=.ref a from e);exact r
  | str z=>cases (show x=.str z from e);exact r
end
theorem Sr.vals.same{K:PySem.W.Frag}{H H':Hp}{S:Sr}{xs:List V}(h:S.vals K H xs)(hl:∀a,SqL K H a xs→SqL K H' a xs)(ht:∀a,SqT K H a xs→SqT K H' a xs):S.vals K H' xs:=by
  cases S with
  | lst a=>exact hl a h
  | tup a=>exact ht a h
  | str z=>exact h
end L2
namespace L2
open PySem PySem.Spec PyProof.Rows
section
variable{X:Cx}
theorem vals_bl{bs:List Bool}{its:List Value}(r:Vals (bs.map V.bl) its){i:Nat}{v:Value}(h:its[i]? = some v):∃b,bs[i]? = some b∧v=.bool b:=by
  have len:=r.length
  rw[List.length_map]at len
  have hi:i < its.length:=(List.getElem?_eq_some_iff.mp h).1
  have hb:bs[i]? = some (bs[i]'(by omega)):=List.getElem?_eq_getElem (by omega)
  obtain⟨u,hu,ru⟩:=r.get (i:=i) (x:=V.bl (bs[i]'(by omega))) (by rw[List.getElem?_map,hb];rfl)
  rw[h]at hu
  cases hu
  exact⟨_,hb,ru⟩
theorem all_range(bs:List Bool):(List.range bs.length).all (fun i=>bs[i]?.getD false)=bs.all id:=by
  rw[Bool.eq_iff_iff,List.all_eq_true,List.all_eq_true]
  constructor
  · intro h b hb
    obtain⟨i,hi,e⟩:=List.getElem_of_mem hb
    have:=h i (List.mem_range.mpr hi)
    rw[List.getElem?_eq_getElem hi,Option.getD_some,e]at this
    exact this
  · intro h i hi
    have hi:=List.mem_range.mp hi
    rw[List.getElem?_eq_getElem hi,Option.getD_some]
    exact h _ (List.getElem_mem hi)
def rAll(K:PySem.W.Frag)(f:List Bool→Bool):List V→Hp→VK→Prop:=fun xs H Q=>∃a bs,xs=[.ref a]∧SqL K H a (bs.map V.bl)∧Q (.bl (f bs)) H
theorem h0g(hc:X.calm=true):CallR X (.builtin "all") (rAll X.K fun bs=>bs.all id):=by
  intro pins s σ H xs us Q I r h
  obtain⟨a,bs,rfl,hq,q⟩:=h
  obtain⟨u,rfl,ru⟩:=r.one
  cases (show u=Value.ref a from ru)
  obtain⟨its,rv,p,hz⟩:=I.list hq
  have lt:a≠s.heap.objs.size:=by obtain⟨o,n,e,_⟩:=p;exact Nat.ne_of_lt (Heap.lt_size e)
  have hh:X.A.in1.handled=none:=I.ok.hd hc
  have hl:=p.isList
  have len:=rv.length
  rw[List.length_map]at len
  refine call_all_walk (wpAny_pyIter_list hl ⟨_,_,_,_,_,_,fun i=>bs[i]?.getD false,rfl,Walks.list hh s.heap.objs.size a lt its.toArray,⟨⟨_,Heap.get?_push_size _ rfl,rfl,rfl⟩,Heap.IsList.push hl _⟩,fun i v s' Q' E' hv q'=>?_,fun h' tk k=>?_⟩)
  · have hv:its.toArray[i]? = some v:=hv
    rw[List.getElem?_toArray]at hv
    obtain⟨b,eb,rfl⟩:=vals_bl rv hv
    have q':Q' (bs[i]?.getD false) s':=q'
    rw[eb]at q'
    exact wpAny_truthy_bool q'
  · rw[List.size_toArray,← len,all_range]
    refine⟨.bl _,H,I.kept (t':=tk) fun b o e=>k b o (fun z=>?_) (Heap.get?_push_of_some _ e),rfl,q⟩
    rw[List.mem_singleton]at z
    exact absurd (Heap.lt_size e) (by rw[z];exact Nat.lt_irrefl _)
end
end L2
namespace L2
open PySem PySem.Spec PyProof.Rows
section
variable{prog:Program}{w:World}{A:Around}{E:Value→Shared→Prop}{s:Shared}
end
theorem for_it{J:It}{n:Nat}{g:TG}{tb:TS}{D:Ends}{σ:St}{H:Hp}(Pv:Nat→St→Hp→Prop)(h0:Pv 0 σ H)
    (hs:∀i σ H,i < n→Pv i σ H→J.go i H∧∀x H',J.yld i H x H'→g x σ H' fun σ2 H2=>tb { D with nx:=Pv (i+1),ct:=Pv (i+1),bk:=D.nx } σ2 H2) (hd:∀σ H,Pv n σ H→J.stop n H∧D.nx σ H) :
    ∃W:Nat→Nat→St→Hp→Prop,(∃m,W 0 m σ H)∧∀i m σ H,W i m σ H→
      (J.stop i H∧D.nx σ H)∨(J.go i H∧∃N:St→Hp→Prop,(∀σ' H',N σ' H'→∃m',m' < m∧W (i+1) m' σ' H')∧∀x H',J.yld i H x H'→g x σ H' fun σ2 H2=>tb { D with nx:=N,ct:=N,bk:=D.nx } σ2 H2):=by
  refine⟨fun i m σ H=>m=n - i∧i≤n∧Pv i σ H,⟨n,by simp,Nat.zero_le _,h0⟩,?_⟩
  rintro i m σ H ⟨rfl,hi,p⟩
  by_cases hlt:i < n
  · obtain⟨a,b⟩:=hs i σ H hlt p
    exact .inr ⟨a,Pv (i+1),fun σ' H' p'=>⟨n - (i+1),by omega,rfl,hlt,p'⟩,b⟩
  · have e:i=n:=by omega
    subst e
    exact .inl (hd σ H p)
end L2
namespace L2
open PySem PySem.Spec PyProof.Rows
def sg1(z:Str)(i:Nat):Str:=⟨#[(z.cps[i]?).getD 0]⟩
def met(z:Str)(i:Nat)(k:Str):Bool:=(List.range i).any fun j=>k == sg1 z j
theorem met_succ(z:Str)(i:Nat)(k:Str):met z (i+1) k=(met z i k || decide (k=sg1 z i)):=by
  unfold met
  rw[List.range_succ,List.any_append]
  have e:(k == sg1 z i)=decide (k=sg1 z i):=by rw[Bool.eq_iff_iff,beq_iff_eq,decide_eq_true_eq]
  simp[List.any_cons,e]
def cnt(z:Str):Nat→Nat
  | 0=>0
  | i+1=>if met z i (sg1 z i)=true then cnt z i else cnt z i+1
theorem cnt_le(z:Str):∀i,cnt z i≤i
  | 0=>Nat.le_refl _
  | i+1=>by
    have:=cnt_le z i
    unfold cnt
    split <;>omega
theorem cnt_eq{z:Str}:∀{i:Nat},cnt z i=i↔∀j,j < i→met z j (sg1 z j)=false
  | 0=>⟨fun _ j h=>absurd h (Nat.not_lt_zero j),fun _=>rfl⟩
  | i+1=>by
    have le:=cnt_le z i
    have ih:=cnt_eq (z:=z) (i:=i)
    unfold cnt
    by_cases m:met z i (sg1 z i)=true
    · rw[if_pos m]
      refine⟨fun h=>absurd h (by omega),fun h=>?_⟩
      rw[h i (Nat.lt_succ_self i)]at m
      cases m
    · rw[if_neg m]
      refine⟨fun h j hj=>?_,fun h=>?_⟩
      · by_cases e:j=i
        · subst e;simpa using m
        · exact ih.mp (by omega) j (by omega)
      · rw[ih.mpr fun j hj=>h j (by omega)]
section
variable{prog:Program}{w:World}{A:Around}{R:Result→Shared→Prop}{I:Addr}{fp wr:List Addr}{G:Array GenState→Array GenState→Prop}{St:Nat→Shared→Prop}
theorem set_loopS{z:Str}(W:WalksS prog w A.in1 I fp wr G z.cps.size (SignAt z) St)(S:Addr)(hSf:S ∉ fp)(hb:z.cps.size+1 < scanBound) :
    ∀(k i:Nat) (s:Shared),z.cps.size - i=k→i≤z.cps.size→St i s→
      s.heap.SetOf (PySem.strKind prog w) S (met z i) (cnt z i)→
      (∀s',Moved (S::wr) G s s'→s'.heap.SetOf (PySem.strKind prog w) S (met z z.cps.size) (cnt z z.cps.size)→R (.ok (.ret .none)) s')→
      codeAny (model prog w) A (.builtin "set.update.loop" ⟨[.ref S,.ref I],[]⟩) R s:=by
  have hSw:S ∉ wr:=fun h=>hSf (W.sub _ h)
  have hsub:∀b∈wr,b∈S::wr:=fun b hb=>List.mem_cons_of_mem _ hb
  intro k
  induction k with
  | zero=>
    intro i s hk hi hst hS hR
    have hin:i=z.cps.size:=by omega
    subst hin
    refine codeAny_builtin PyProof.Rows.F.entry_set_update_loop ?_
    rw[Around.under_plainId PyProof.Rows.F.plain_set_update_loop _]
    show wpAny _ A.in1 (pyNext (.ref I) >>= _) _ _ s
    refine wpAny_bind (W.done s _ _ hst fun s' hm=>?_)
    show wpAny _ A.in1 (ret Value.none) _ _ s'
    exact wpAny_pure (hR s' (hm.mono hsub) (by
      obtain⟨o,es,ep,t,ho,rest⟩:=hS
      exact⟨o,es,ep,t,hm.heap S _ hSw ho,rest⟩))
  | succ k ih=>
    intro i s hk hi hst hS hR
    have hlt:i < z.cps.size:=by omega
    refine codeAny_builtin PyProof.Rows.F.entry_set_update_loop ?_
    rw[Around.under_plainId PyProof.Rows.F.plain_set_update_loop _]
    show wpAny _ A.in1 (pyNext (.ref I) >>= _) _ _ s
    refine wpAny_bind (W.item i s _ _ hlt hst fun v s' hP hst' hm=>?_)
    obtain⟨c,t,hc,rfl⟩:=hP
    have ec:(⟨#[c]⟩:Str)=sg1 z i:=by unfold sg1;rw[hc];rfl
    rw[ec]
    have hS':s'.heap.SetOf (PySem.strKind prog w) S (met z i) (cnt z i):=by
      obtain⟨o,es,ep,tb,ho,rest⟩:=hS
      exact⟨o,es,ep,tb,hm.heap S _ hSw ho,rest⟩
    show wpAny _ A.in1 (holding [Value.str (sg1 z i) t] (setAdd S (.str (sg1 z i) t)) >>= _) _ _ s'
    refine wpAny_bind (wpAny_holding ?_)
    unfold setAdd
    refine wpAny_holding ?_
    refine wpAny_bind ((PySem.strKind prog w).pyHash (k:=sg1 z i) (strKind_is _ _ _ _) ?_)
    refine wpAny_setAddHashed_of (knd:=PySem.strKind prog w) (s:={ s' with toks:=s'.toks+1 }) (strKind_is _ _ _ _) rfl hS' (by have:=cnt_le z i;omega) fun h' hsb hS2=>?_
    have hSi:h'.SetOf (PySem.strKind prog w) S (met z (i+1)) (cnt z (i+1)):=
      SetOf_congr hS2 (fun k'=>by rw[met_succ]) rfl
    refine wpAny_pure ⟨plainId_quiet PyProof.Rows.F.plain_set_update_loop _,ih (i+1) _ (by omega) hlt (W.frame _ s' _ _ hst' (Nat.le_succ _) fun b hb o e=>?_) hSi fun s'' hm'' hS''=>?_⟩
    · rw[hsb.2 b (fun h:b=S=>hSf (by rw[← h];exact hb))];exact e
    · refine hR s'' (Moved.trans W.gtrans ((hm.mono hsub).then_heap (Nat.le_succ _) fun b o hb e=>?_) hm'') hS''
      rw[hsb.2 b (fun h:b=S=>hb (by rw[h];exact List.mem_cons_self))];exact e
end
section
variable{prog:Program}{w:World}{A:Around}{E:Value→Shared→Prop}{s:Shared}
set_option maxRecDepth 100000 in
theorem call_set_str{z:Str}{t:Tok}{Q:Value→Shared→Prop}(hh:A.handled=none)(hb:z.cps.size+1 < scanBound)
    (h:∀(h':Heap) (tk:Nat),h'.SetOf (PySem.strKind prog w) s.heap.objs.size (met z z.cps.size) (cnt z z.cps.size)→
      (∀b o,b < s.heap.objs.size→s.heap.get? b=some o→h'.get? b=some o)→Q (.ref s.heap.objs.size) { s with heap:=h',toks:=tk }) :
    wpAny (model prog w) A (call (.type "set") [.str z t]) Q E s:=by
  obtain⟨c,tl,hmro⟩:=PySem.F.called_set.mro
  have hmade:=PySem.F.called_set.made
  have hsub:=PySem.F.called_set.sub
  refine wpAny_call (codeAny_of_tree ?_)
  show wpAny _ _ (callAny (.type "set") _) _ _ _
  refine wpAny_pure ⟨Code.quiet_builtin _ (by decide +kernel),codeAny_builtin F.entry_type_call ?_⟩
  rw[Around.under_plain (weight_type_call_type "set" [.str z t] []) rfl]
  have h1:=PySem.F.called_set.notType
  have h2:=PySem.F.called_set.canCreate
  have hct:=PySem.F.typeCall_set_1 (.str z t)
  repeat (any_goals (first | assumption | wp_step))
  refine codeAny_mono (code_set_new_1 (.str z t) (E:=E) (Q₁:=fun obj s₁=>∃led:Bool,obj=.ref s.heap.objs.size∧s₁={ s with heap:=s.heap.push { cls:=.type "set",dict:=none,data:=.set #[] 0 (.fresh 0 0 led) } }) fun led=>⟨led,rfl,rfl⟩) fun r s₁ hr=>?_
  cases r with
  | error e=>exact hr
  | ok fl=>
    cases fl with
    | ret obj=>
      obtain⟨led,rfl,rfl⟩:=hr
      have hS:(s.heap.push { cls:=.type "set",dict:=none,data:=.set #[] 0 (.fresh 0 0 led) }).get? s.heap.objs.size=some { cls:=.type "set",dict:=none,data:=.set #[] 0 (.fresh 0 0 led) }:=Heap.get?_push_size _ rfl
      have hT:Shared.TypeIs { s with heap:=s.heap.push { cls:=.type "set",dict:=none,data:=.set #[] 0 (.fresh 0 0 led) } } (.ref s.heap.objs.size) "set":=⟨_,hS,rfl⟩
      have hli:=PySem.F.called_set.init.lookup
      have hbi:=PySem.F.called_set.init.bind (.ref s.heap.objs.size)
      repeat (any_goals (first | assumption | wp_step))
      refine codeAny_mono (codeAny_call_builtin (R:=wants (fun r s₂=>r=.none∧∃h' tk,s₂={ s with heap:=h',toks:=tk }∧
          h'.SetOf (PySem.strKind prog w) s.heap.objs.size (met z z.cps.size) (cnt z z.cps.size)∧
          (∀b o,b < s.heap.objs.size→s.heap.get? b=some o→h'.get? b=some o)) E) PySem.F.called_set.init.plain PySem.F.entry_set_init (check_set_init_1 hT ?_)) fun r₂ s₂ hr₂=>?_
      · have hsls:=PySem.F.sub_str_set
        have hslf:=PySem.F.sub_str_frozenset
        have hne:(Value.type "str" == Value.type "dict")=false:=by decide
        unfold Builtin.«set.__init__» noKeywords Builtin.Frozenset.updateFrom
        generalize hPI:pyIter=PI
        wp_walk
        subst hPI
        refine wpAny_pyIter_str fun o St W hst=>?_
        refine wpAny_bind (wpAny_runValue ?_)
        have hh3:A.in1.in1.in1.handled=none:=by simp[hh]
        have hSf:s.heap.objs.size ∉ [(s.heap.push { cls:=.type "set",dict:=none,data:=.set #[] 0 (.fresh 0 0 led) }).objs.size]:=by
          rw[Heap.size_push];simp only[List.mem_singleton]
          exact Nat.ne_of_lt (Nat.lt_succ_self _)
        refine set_loopS ((W _ hh3).toS) s.heap.objs.size hSf hb (z.cps.size - 0) 0 _ (by omega) (Nat.zero_le _) hst ?hS0 ?hR
        case hS0=>
          have hget:=Heap.get?_push_of_some o hS
          exact PyProof.Rows.SetOf_congr ((PyProof.Rows.setObjOf_fresh (knd:=PySem.strKind prog w) led).setOf hget (by unfold scanBound;omega)) (fun _=>rfl) rfl
        case hR=>
          intro s' hm hS'
          obtain⟨h',g',d',tk',os'⟩:=s'
          have eg:g'=s.gens:=hm.gens
          have ed:d'=s.drawn:=hm.drawn
          have eo:os'=s.os:=hm.os
          subst eg;subst ed;subst eo
          show wpAny _ _ _ _ _ _
          refine wpAny_pure ?_
          show wpAny _ _ (ret Value.none) _ _ _
          refine wpAny_pure ⟨rfl,h',tk',rfl,hS',fun b o hb e=>?_⟩
          have hb1:b≠s.heap.objs.size:=Nat.ne_of_lt hb
          have hb2:b≠(s.heap.push { cls:=.type "set",dict:=none,data:=.set #[] 0 (.fresh 0 0 led) }).objs.size:=by
            rw[Heap.size_push];exact Nat.ne_of_lt (Nat.lt_succ_of_lt hb)
          exact hm.heap b o (by simp only[List.mem_cons,List.mem_singleton,List.not_mem_nil,or_false,not_or];exact⟨hb1,hb2⟩) (Heap.get?_push_of_some _ (Heap.get?_push_of_some _ e))
      · cases r₂ with
        | error e=>exact hr₂
        | ok fl₂=>
          cases fl₂ with
          | ret r=>
            obtain⟨rfl,h',tk,rfl,hS',hk'⟩:=hr₂
            repeat (any_goals (first | assumption | wp_step))
            exact h _ _ hS' hk'
          | _=>exact hr₂.elim
    | _=>exact hr.elim
end
def tLSet(ta:TA):TE:=fun σ H Q=>ta σ H fun vs H1=>∃z,vs=[.str z]∧z.length≤1000∧Q (.int (cnt z z.length:Nat)) H1
theorem pe_lenset{X:Cx}{a:Expr}{ta:TA}{p p' pos pos':Pos}(hc:X.calm=true)(hg:Gl X "len")(hm:X.mg "len"=none)(hg':Gl X "set")(hm':X.mg "set"=none)(ha:PA X [a] ta)
    (hs:starEach [a] X.env=[(false,eval a X.env)]:=by rfl) (hs':starEach [.Call (.Name "set" p') [a] [] pos'] X.env=[(false,eval (.Call (.Name "set" p') [a] [] pos') X.env)]:=by rfl) :
    PE X (.Call (.Name "len" p) [.Call (.Name "set" p') [a] [] pos'] [] pos) (tLSet ta):=by
  intro pins s σ H Q I h
  refine wpAny_Call_Name_kw (i0x I hg hm PySem.boot_len ?_)
  refine PyProof.Rows.callWith_builtin1 ?_ hs' rfl
  rw[hs']
  refine Calls.spliced_cons ?_
  refine Call_ (i0x I hg' hm' boot_set (PyProof.Rows.callWith_type1 (thn (ha pos' pins s σ H _ I h) fun us s1 ⟨vs,H1,I1,r1,q1⟩=>?_) hs rfl))
  obtain⟨z,e,hz,q⟩:=q1
  subst e
  cases r1 with
  | cons r rr=>
    cases rr
    obtain⟨t,rfl⟩:=r
    have hz':z.cps.size≤1000:=hz
    refine call_set_str (I1.ok.hd hc) (by unfold scanBound;omega) fun h' tk hS up=>?_
    refine Calls.spliced_nil ?_
    obtain⟨o,es,ep,tb,ho,hex,hd,_,_,_,hf,hsz⟩:=id hS
    refine call_len_set (s:={ s1 with heap:=h',toks:=tk }) ho hex hd hf (by have:=cnt_le z z.cps.size;omega) ?_
    refine⟨.int _,H1,(I1.kept (t':=tk+1+1) fun b ob e=>up b ob (Heap.lt_size e) e),⟨_,rfl⟩,?_⟩
    rw[hsz]
    exact q
end L2
namespace L2
open PySem PySem.Spec PyProof.Rows
def SameT(H H':Hp):Prop:=∀p vs,H p=some (.tup vs)→H' p=some (.tup vs)
theorem SameT.refl(H:Hp):SameT H H:=fun _ _ h=>h
theorem SameT.trans{H H1 H2:Hp}(x:SameT H H1)(y:SameT H1 H2):SameT H H2:=fun p vs h=>y p vs (x p vs h)
theorem Same.t{H H':Hp}(x:Same H H'):SameT H H':=fun p vs h=>x p _ h
def Ents(Pd:Nat→V→Hp→Prop)(ys:List V)(n:Nat)(H:Hp):Prop:=ys.length=n∧∀j,j < n→∃u,ys[j]? = some u∧Pd j u H
section
variable{Pd Pe:Nat→V→Hp→Prop}{ys:List V}{n:Nat}{H H':Hp}{v:V}
theorem Ents.nil:Ents Pd [] 0 H:=⟨rfl,fun j h=>absurd h (Nat.not_lt_zero j)⟩
theorem Ents.mono(h:Ents Pd ys n H)(s:∀j u,j < n→Pd j u H→Pe j u H'):Ents Pe ys n H':=⟨h.1,fun j hj=>by
  obtain⟨u,e,p⟩:=h.2 j hj
  exact⟨u,e,s j u hj p⟩⟩
theorem Ents.snoc(h:Ents Pd ys n H)(p:Pd n v H):Ents Pd (ys++[v]) (n+1) H:=⟨by rw[List.length_append,h.1];rfl,fun j hj=>by
  by_cases hn:j < n
  · obtain⟨u,e,q⟩:=h.2 j hn
    exact⟨u,by rw[List.getElem?_append_left (by rw[h.1];exact hn)];exact e,q⟩
  · have e:j=n:=by omega
    subst e
    exact⟨v,by rw[List.getElem?_append_right (by rw[h.1];exact Nat.le_refl _),h.1,Nat.sub_self];rfl,p⟩⟩
theorem Ents.at(h:Ents Pd ys n H){j:Nat}{u:V}(e:ys[j]? = some u):j < n∧Pd j u H:=by
  have hj:j < n:=by rw[← h.1];exact(List.getElem?_eq_some_iff.mp e).1
  obtain⟨u',e',p⟩:=h.2 j hj
  rw[e]at e'
  cases e'
  exact⟨hj,p⟩
end
def TupOf(Pd:Nat→V→Hp→Prop)(n:Nat)(v:V)(H:Hp):Prop:=∃p vs,v=.ref p∧H p=some (.tup vs)∧Ents Pd vs n H
def SeqOf(K:PySem.W.Frag)(Pd:Nat→V→Hp→Prop)(n:Nat)(v:V)(H:Hp):Prop:=∃S vs,Sr.ofV S v∧S.vals K H vs∧(∀H',Same H H'→S.vals K H' vs∧LenV K v H' vs.length)∧Ents Pd vs n H
theorem TupOf.seq{K:PySem.W.Frag}{Pd:Nat→V→Hp→Prop}{n:Nat}{v:V}{H:Hp}(h:TupOf Pd n v H):SeqOf K Pd n v H:=by
  obtain⟨p,vs,rfl,hp,e⟩:=h
  exact⟨.tup p,vs,rfl,SqT.of hp,fun H' q=>⟨SqT.of (q _ _ hp),.inr ⟨_,SqT.of (q _ _ hp),rfl⟩⟩,e⟩
theorem TupOf.mono{Pd Pe:Nat→V→Hp→Prop}{n:Nat}{v:V}{H H':Hp}(h:TupOf Pd n v H)(s:SameT H H')(m:∀j u,j < n→Pd j u H→Pe j u H'):TupOf Pe n v H':=by
  obtain⟨p,vs,rfl,hp,e⟩:=h
  exact⟨p,vs,rfl,s _ _ hp,e.mono m⟩
theorem SeqOf.mono{K:PySem.W.Frag}{Pd Pe:Nat→V→Hp→Prop}{n:Nat}{v:V}{H H':Hp}(h:SeqOf K Pd n v H)(s:Same H H')(m:∀j u,j < n→Pd j u H→Pe j u H'):SeqOf K Pe n v H':=by
  obtain⟨S,vs,e,hv,hs,he⟩:=h
  exact⟨S,vs,e,(hs _ s).1,fun H2 q=>hs _ (s.trans q),he.mono m⟩
theorem SeqOf.list{K:PySem.W.Frag}{Pd:Nat→V→Hp→Prop}{n:Nat}{p:Addr}{vs:List V}{H:Hp}(hp:H p=some (.lst vs))(e:Ents Pd vs n H):SeqOf K Pd n (.ref p) H:=
  ⟨.lst p,vs,rfl,SqL.of hp,fun H' q=>⟨SqL.of (q _ _ hp),.inl ⟨_,SqL.of (q _ _ hp),rfl⟩⟩,e⟩
theorem TupOf.len{K:PySem.W.Frag}{Pd:Nat→V→Hp→Prop}{n:Nat}{v:V}{H:Hp}(h:TupOf Pd n v H):LenV K v H n:=by
  obtain⟨p,vs,rfl,hp,e⟩:=h
  have e1:=e.1
  subst e1
  exact .inr ⟨_,SqT.of hp,rfl⟩
theorem SeqOf.len{K:PySem.W.Frag}{Pd:Nat→V→Hp→Prop}{n:Nat}{v:V}{H:Hp}(h:SeqOf K Pd n v H):LenV K v H n:=by
  obtain⟨S,vs,_,_,hs,e⟩:=h
  have q:=(hs _ (Same.refl _)).2
  rw[e.1]at q
  exact q
theorem d0t{J:It}{n k:Nat}{g:TG}{te:TE}{σ:St}{Q:VK}{H1:Hp}(Pv:Nat→List V→Hp→Prop)(hn:n≤1000)(h0:Pv 0 [] H1)(hl:∀i ys H,Pv i ys H→ys.length=i)
    (hgo:∀i ys H,i < n→Pv i ys H→J.go i H∧∀x H',J.yld i H x H'→g x (σ++List.replicate k none) H' fun σ2 H2=>(∃zs,σ2=σ++zs∧zs.length=k)∧te σ2 H2 fun v H3=>Pv (i+1) (ys++[v]) H3)
    (hstop:∀ys H,Pv n ys H→J.stop n H) (hend:∀ys H p,Pv n ys H→H p=none→Q (.ref p) (upd H p (.lst ys))) :
    CTail J k g te σ Q H1:=by
  have z:1000 < sizeLine:=by decide
  refine⟨fun i m ys H=>m=n - i∧i≤n∧Pv i ys H,⟨n,rfl,Nat.zero_le _,h0⟩,?_⟩
  rintro i m ys H ⟨rfl,hi,p⟩
  have yl:=hl i ys H p
  by_cases hlt:i < n
  · obtain⟨a,b⟩:=hgo i ys H hlt p
    refine .inr ⟨a,by omega,fun x H' y=>?_⟩
    have c:=b x H' y
    have e:(fun σ2 H2=>(∃zs,σ2=σ++zs∧zs.length=k)∧te σ2 H2 fun v H3=>∃m',m' < n - i∧m'=n - (i+1)∧i+1≤n∧Pv (i+1) (ys++[v]) H3)=fun σ2 H2=>(∃zs,σ2=σ++zs∧zs.length=k)∧te σ2 H2 fun v H3=>Pv (i+1) (ys++[v]) H3:=by
      funext σ2 H2
      congr 2
      funext v H3
      exact propext ⟨fun⟨_,_,_,_,q⟩=>q,fun q=>⟨_,by omega,rfl,hlt,q⟩⟩
    rw[e]
    exact c
  · have e:i=n:=by omega
    subst e
    exact .inl ⟨hstop ys H p,by omega,fun q nq=>hend ys H q p nq⟩
end L2
namespace L2
open PySem PySem.Spec PyProof.Rows
section
variable{X:Cx}{n:Nat}{st:Stmt}{rest:List Stmt}{t u:TS}
theorem i0r{α:Type}{t:Sem α}{Q:α→Shared→Prop}{M:Model}{A:Around}{E:Value→Shared→Prop}{s:Shared}(hn:n≤s.toks)(h:wpAny M A t Q E s) :
    wpAny M A t (fun a s'=>n≤s'.toks∧Q a s') E s:=wpAny_mono (wpAny_toks_of hn h) (fun _ _ x=>x) fun _ _ x=>x.2
def PSn(X:Cx)(n:Nat)(st:Stmt)(t:TS):Prop:=
  ∀pins s σ H D,n≤s.toks→Inv X pins σ H s→t D σ H→wpAny (model X.prog X.w) X.A (exec st X.env) (SP X pins D) X.xe s
def PSsn(X:Cx)(n:Nat)(ss:List Stmt)(t:TS):Prop:=
  ∀pins s σ H D,n≤s.toks→Inv X pins σ H s→t D σ H→wpAny (model X.prog X.w) X.A (execs ss X.env) (SP X pins D) X.xe s
theorem PS.fl(h:PS X st t):PSn X n st t:=fun pins s σ H D _=>h pins s σ H D
theorem PSs.fl(h:PSs X rest t):PSsn X n rest t:=fun pins s σ H D _=>h pins s σ H D
theorem pssn_cons(h1:PSn X n st t)(h2:PSsn X n rest u):PSsn X n (st::rest) (tSeq t u):=by
  intro pins s σ H D hn I h
  refine wpAny_execs_cons (thn (i0r hn (h1 pins s σ H { D with nx:=u D } hn I h)) fun f s1 q=>?_)
  obtain⟨hn1,q⟩:=q
  cases f with
  | next=>
    obtain⟨σ',H',I',q⟩:=q
    exact h2 pins s1 σ' H' D hn1 I' q
  | brk=>exact q
  | cont=>exact q
  | ret v=>exact q
theorem ps_forn{tg iter:Expr}{body:List Stmt}{wi:TI}{g:TG}{tb:TS}{pos:Pos}(hp:PassesOwn (model X.prog X.w) X.A X.env X.xe)(hc:X.calm=true)(hi:PI X tg iter wi)(hg:PG X tg g)(hb:PSsn X n body tb)
    (hs:∀x,foldedSetIterable iter X.env x=pure x:=by intro _;rfl):PSn X n (.For tg iter body [] pos) (tFor wi g tb):=by
  intro pins s σ H D hn I h
  refine wpAny_For (thn (i0r hn (hi pins s σ H _ I h)) fun v s1 hh1=>thn (i0r hh1.1 hh1.2) fun itv s2 hh2=>?_) hs
  obtain⟨n2,it,fp,tn,J,H2,e,I2,T,st2,f2,W,⟨m0,w0⟩,turn⟩:=hh2
  subst e
  have stat:∀{G:Hp},(∀b∈fp,G b=none)→∀b∈fp,FpOk X pins G b:=fun k b hb=>⟨k b hb,(f2 b hb).2⟩
  refine codeAny_forLoop_any (fun k s'=>n≤s'.toks∧∃i τ G,Inv X pins τ G s'∧tn i s'.heap∧(∀b∈fp,G b=none)∧W i k τ G) ?_ m0 ⟨n2,0,σ,H2,I2,st2,fun b hb=>(f2 b hb).1,w0⟩
  rintro k s3 ⟨n3,i,τ,G,I3,st3,fr3,w3⟩
  rcases turn i k τ G w3 with ⟨stop,qn⟩ | ⟨go,N,hN,step⟩
  · refine wpAny_passesOwn hp (thn (T.done X rfl rfl rfl hc i pins s3 τ G X.xe I3 (stat fr3) st3 stop) fun r s4 ⟨hr,I4⟩=>?_)
    subst hr
    exact wpAny_execs_nil ⟨τ,G,I4,qn⟩
  · refine wpAny_passesOwn hp (thn (i0r n3 (T.item X rfl rfl rfl hc i pins s3 τ G X.xe I3 (stat fr3) st3 go)) fun r s4 ⟨n4,u,hr,h4⟩=>?_)
    subst hr
    refine wpAny_passesOwn hp (thn (i0r n4 h4) fun _ s5 ⟨n5,x,H5,I5,r5,y5,st5,fr5⟩=>?_)
    have J5:=I5.pinned (stat fr5) (T.obj _ _ st5)
    refine wpAny_passesOwn hp (thn (i0r n5 (hg _ s5 τ H5 x u _ J5 r5 (step x H5 y5))) fun _ s6 ⟨n6,σ6,H6,I6,q6⟩=>?_)
    refine wpAny_passesOwn hp (thn (i0r n6 (hb _ s6 σ6 H6 _ n6 I6 q6)) fun f s7 hh7=>?_)
    obtain⟨n7,q7⟩:=hh7
    have more:∀{σ7:St} {H7:Hp},Inv X (pins++pinsAt fp s5.heap) σ7 H7 s7→N σ7 H7→∃m,m < k∧n≤s7.toks∧∃i τ G,Inv X pins τ G s7∧tn i s7.heap∧(∀b∈fp,G b=none)∧W i m τ G:=fun{σ7 H7} I7 c7=>by
      obtain⟨m',hm,w7⟩:=hN σ7 H7 c7
      have pn:∀b∈fp,∀o,s5.heap.get? b=some o→s7.heap.get? b=some o∧H7 b=none:=fun b hb o e=>by
        have:=I7.pin (b,o) (List.mem_append_right _ (List.mem_append_right _ (c0i hb e)))
        exact⟨this.1,this.2.1⟩
      refine⟨m',hm,n7,i+1,σ7,H7,I7.unpinned,T.keep _ _ _ st5 fun b hb o e=>(pn b hb o e).1,fun b hb=>?_,w7⟩
      obtain⟨o,e,_⟩:=T.obj _ _ st5 b hb
      exact(pn b hb o e).2
    cases f with
    | next=>obtain⟨σ7,H7,I7,c7⟩:=q7;exact more I7 c7
    | cont=>obtain⟨σ7,H7,I7,c7⟩:=q7;exact more I7 c7
    | brk=>obtain⟨σ7,H7,I7,c7⟩:=q7;exact⟨σ7,H7,I7.unpinned,c7⟩
    | ret v=>obtain⟨x7,σ7,H7,I7,r7,c7⟩:=q7;exact⟨x7,σ7,H7,I7.unpinned,r7,c7⟩
theorem Inv.stored{pins:List (Addr × Obj)}{σ:St}{H:Hp}{s:Shared}{i:Nat}{x:Str}{v:V}{w:Value}{m:Str→Option Value}{h':Heap}(I:Inv X pins σ H s)(hN:X.N.Nodup)(hi:X.N[i]? = some x)
    (hk:X.env.kindOf x=some .local) (r:RelV v w) (hm:∀(j:Nat) (y:Str) (z:V),X.N[j]? = some y→σ[j]? = some (some z)→Vis X.env.scope y→∃w',RelV z w'∧Look X.env s.heap m y w')
    (hn:h'.Ns X.env.locals (fun y=>if y=x then some w else m y)) (hs:Heap.SameBut X.env.locals s.heap h') (k:Nat):Inv X pins (σ.set i (some v)) H { s with heap:=h',toks:=k }:=by
  have old:∀b o,X.s₀.heap.get? b=some o→h'.get? b=s.heap.get? b:=fun b o e=>hs.2 b (Nat.ne_of_lt (Nat.lt_of_lt_of_le (Heap.lt_size e) I.ok.above))
  have hσ:i < σ.length:=by rw[I.len];exact(List.getElem?_eq_some_iff.mp hi).1
  have B:=I.base
  refine{ ok:=I.ok,os:=I.os,bare:=I.bare,base:=⟨?_,?_,B.free,?_,B.tups,B.frzs,B.tbls⟩,loc:=⟨_,hn,?_⟩,cell:=?_,free:=I.free,freeC:=I.freeC,pin:=?_,hok:=?_,len:=by simpa using I.len }
  · intro b o e a1 a2 a3
    rw[← B.keep b o e a1 a2 a3];exact old b o e
  · intro b o e a1 a2 a3
    obtain⟨sl,q⟩:=B.slot b o e a1 a2 a3
    exact⟨sl,(old b o e).trans q⟩
  · intro b o e a1
    obtain⟨o',q⟩:=B.there b o e a1
    exact⟨o',(old b o e).trans q⟩
  · intro j y z e1 e2 e3
    by_cases hj:i=j
    · subst hj
      rw[hi]at e1
      cases e1
      rw[List.getElem?_set_self hσ]at e2
      cases e2
      exact⟨w,r,.inl ⟨hk,if_pos rfl⟩⟩
    · rw[List.getElem?_set_ne hj]at e2
      have ny:y≠x:=fun q=>hj (f0w hN hi (q▸e1))
      obtain⟨w',r',q⟩:=hm j y z e1 e2 e3
      rcases q with ⟨a1,a2⟩ | ⟨a1,c,a2,a3⟩
      · exact⟨w',r',.inl ⟨a1,(if_neg ny).trans a2⟩⟩
      · exact⟨w',r',.inr ⟨a1,c,a2,a3.sameBut hs (I.cne y c a2)⟩⟩
  · intro y c e
    obtain⟨z,q⟩:=I.cell y c e
    exact⟨z,q.sameBut hs (I.cne y c e)⟩
  · intro p hp
    obtain⟨a1,a2,a3,a4⟩:=I.pin p hp
    exact⟨(hs.2 p.1 a3).trans a1,a2,a3,a4⟩
  · intro b ob e
    obtain⟨m0,⟨oL,_,_,hoL,_⟩,_⟩:=I.loc
    refine(I.hok b ob e).stay (fun c w' hc q=>(hs.2 c ?_).trans q) (fun _ q=>q) fun _ _ q=>q
    intro z
    subst z
    rcases hc with z | z
    · subst z;rw[I.free]at e;cases e
    · rw[I.free]at z;cases z
theorem Inv.nocls{pins:List (Addr × Obj)}{σ:St}{H:Hp}{s:Shared}(I:Inv X pins σ H s):(X.env.scope.kind == .class || (X.env.scope.kind == .module && X.env.locals != X.env.globals))=false:=by rw[I.ok.kind];rfl
theorem Inv.here{σ:St}{s:Shared}{i:Nat}{x:Str}{v:V}{m:Str→Option Value}(hm:∀(j:Nat) (y:Str) (z:V),X.N[j]? = some y→σ[j]? = some (some z)→Vis X.env.scope y→∃w',RelV z w'∧Look X.env s.heap m y w')
    (hi:X.N[i]? = some x) (e:σ[i]? = some (some v)) (hk:X.env.kindOf x=some .local):∃w,RelV v w∧m x=some w:=by
  obtain⟨w,r,q⟩:=hm i x v hi e (.inl hk)
  rcases q with ⟨_,q⟩ | ⟨q,_⟩
  · exact⟨w,r,q⟩
  · rw[hk]at q
    rcases q with q | q <;>cases q
theorem pss_fl{i:Nat}{x:Str}{e:Expr}{te:TE}{pos pos':Pos}(hN:X.N.Nodup)(hi:X.N[i]? = some x)(hk:X.env.kindOf x=some .local)(he:PE X e te)(h2:PSsn X 1 rest u)
    (hs:swapsWith e (some (.Name x pos')) pos.line X.env=pure false:=by rfl):PSs X (.Assign [.Name x pos'] e pos::rest) (tSeq (tAsg te (b0l i)) u):=by
  intro pins s σ H D I h
  refine wpAny_execs_cons (wpAny_Assign_Name (thn (he pins s σ H _ I h) fun v s1 ⟨y,H1,I1,r1,q1⟩=>?_) hs)
  obtain⟨m,hn,hm⟩:=I1.loc
  exact wpAny_storeName_local hk hn (fun h' hn' hs'=>h2 pins _ _ H1 D (Nat.le_add_left 1 _) (I1.stored hN hi hk r1 hm hn' hs' _) q1) I1.nocls
def tLetter(il ia iw:Nat)(ti:TE):TS:=fun D σ H=>∃z y:Str,σ[ia]? = some (some (.str z))∧σ[iw]? = some (some (.str y))∧z.length≤1000∧y.length≤1000∧ti σ H fun x H1=>∃(i:Int) (c:Nat),x=.int i∧atI z.cps.toList i=some c∧
  D.nx (((σ.set il (some (.str ⟨#[c]⟩))).set iw (some (.str (y++⟨#[c]⟩)))).set ia (some (.str (Txt.replace z ⟨#[c]⟩ "")))) H1
theorem pssn_letter{il ia iw:Nat}{l a w:Str}{idx:Expr}{ti:TE}{j:Nat}{p1 p2 p3 p4 p5 p6 p7 p8 p9 p10 p11 p12 p13 p14 p15 p16:Pos}(hN:X.N.Nodup)(hl:X.N[il]? = some l)(ha:X.N[ia]? = some a)(hw:X.N[iw]? = some w)
    (kl:X.env.kindOf l=some .local) (ka:X.env.kindOf a=some .local) (kw:X.env.kindOf w=some .local) (nla:l≠a) (nlw:l≠w) (naw:a≠w) (hi:PE X idx ti) (hpl:PlainIx idx)
    (dl:(l == ("__debug__":Str))=false:=by decide) (da:(a == ("__debug__":Str))=false:=by decide) (dw:(w == ("__debug__":Str))=false:=by decide)
    (dca:(a == ("__classdict__":Str))=false:=by decide)
    (hs1:swapsWith (.Subscript (.Name a p2) idx p3) (some (.Name l p1)) p4.line X.env=pure false:=by rfl)
    (hs2:swapsWith (.BinOp (.Name w p6) .Add (.Name l p7) p8) (some (.Name w p5)) p9.line X.env=pure false:=by rfl)
    (hs3:swapsWith (.Call (.Attribute (.Name a p11) "replace" p12) [.Name l p13,.Constant (.str "") j p14] [] p15) (some (.Name a p10)) p16.line X.env=pure false:=by rfl)
    (hbase:attributeBase (.Name a p11) "replace" X.env (eval (.Name a p11) X.env)=eval (.Name a p11) X.env:=by rfl)
    (hfew:((backTo p15 (starEach [.Name l p13,.Constant (.str "") j p14] X.env)).all (fun x=>!x.1) && (backToKw p15 (keywordEach [] X.env)).all (fun x=>x.1.isSome)
      && decide (([.Name l p13,.Constant (.str "") j p14]:List Expr).length+([]:List Keyword).length+(if([]:List Keyword).isEmpty then 0 else 1) < 30))=true:=by rfl)
    (hline:(p12.endLine == p15.line)=true:=by rfl)
    (hst:backTo p15 (starEach [.Name l p13,.Constant (.str "") j p14] X.env)=[(false,eval (.Name l p13) X.env),(false,eval (.Constant (.str "") j p14) X.env)]:=by rfl) :
    PSsn X 1 [.Assign [.Name l p1] (.Subscript (.Name a p2) idx p3) p4,.Assign [.Name w p5] (.BinOp (.Name w p6) .Add (.Name l p7) p8) p9,
      .Assign [.Name a p10] (.Call (.Attribute (.Name a p11) "replace" p12) [.Name l p13,.Constant (.str "") j p14] [] p15) p16] (tLetter il ia iw ti):=by
  intro pins s σ H D hn I h
  obtain⟨z,y,ez,ey,lz,ly,h⟩:=h
  refine wpAny_execs_cons (wpAny_Assign_Name (Subscript_ ?_) hs1)
  refine thn (i0r hn ((pe_var ha (.inl ka) da dca) pins s σ H (fun x H1=>x=.str z∧ti σ H1 _) I ⟨.str z,ez,rfl,h⟩)) fun v s1 ⟨n1,x1,H1,I1,r1,e1,q1⟩=>?_
  subst e1
  obtain⟨t1,rfl⟩:=r1
  refine thn (i0r n1 (hi pins s1 σ H1 _ I1 q1)) fun v2 s2 ⟨n2,x2,H2,I2,r2,i,c,e2,hc,q2⟩=>?_
  subst e2
  obtain⟨t2,rfl⟩:=r2
  obtain⟨k0,k1,k2,k3,k4,k5⟩:=k0n hc
  have hzl:z.cps.toList.length=z.length:=by simp[Str.length]
  rw[hzl]at k1 k4 k5
  have l63:=i0w
  have h1s:(⟨#[c]⟩:Str).length=1:=rfl
  refine tail_any (typeIs_str s2 z t1) slot_str_getitem.lookup (getItem_str (c:=c) (by
    have e1:decide (i < -(2 ^ 63:Int))=false:=decide_eq_false (by omega)
    have e2:decide (i ≥ 2 ^ 63)=false:=decide_eq_false (by omega)
    rw[e1,e2,Bool.or_false]) (by rw[k1];simpa using k2) ?_) (hpl _ _)
  obtain⟨m,hm0,hm⟩:=I2.loc
  obtain⟨_,⟨ta,rfl⟩,mz⟩:=Inv.here hm ha ez ka
  obtain⟨_,⟨tw,rfl⟩,my⟩:=Inv.here hm hw ey kw
  refine wpAny_storeName_local kl (show Heap.Ns { s2 with toks:=s2.toks+1 }.heap _ m from hm0) (fun g1 ns1 sb1=>?_) I2.nocls
  have I3:=I2.stored hN hl kl (show RelV (.str ⟨#[c]⟩) (.str ⟨#[c]⟩ s2.toks)from⟨_,rfl⟩) hm ns1 sb1
  obtain⟨m3,hm3,hmm3⟩:=(I3 0).loc
  refine wpAny_execs_cons (wpAny_Assign_Name (wpAny_BinOp ?_) hs2)
  refine wpAny_Name (wpAny_loadName_local I.ok.kind kw ns1 ((if_neg (Ne.symm nlw)).trans my) ?_) dw
  refine wpAny_Name (wpAny_loadName_local I.ok.kind kl ns1 (if_pos rfl) ?_) dl
  refine thn (i0r (n:=s2.toks+1) (show s2.toks+1≤s2.toks+1+1 from Nat.le_succ _) (add_str (Q:=fun v s'=>∃t' tk,v=.str (y++⟨#[c]⟩) t'∧s'={ s2 with heap:=g1,toks:=tk }) (fun t' tk=>⟨t',tk,rfl,rfl⟩) (by rw[h1s,sizeLine_eq];omega))) ?_
  rintro _ _ ⟨n3,t3,tk,rfl,rfl⟩
  refine wpAny_storeName_local kw (show Heap.Ns { s2 with heap:=g1,toks:=tk }.heap _ _ from ns1) (fun g2 ns2 sb2=>?_) I2.nocls
  have I4:∀k,Inv X pins ((σ.set il (some (.str ⟨#[c]⟩))).set iw (some (.str (y++⟨#[c]⟩)))) H2 { s2 with heap:=g2,toks:=k }:=fun k=>by
    refine(I3 tk).stored hN hw kw (show RelV (.str (y++⟨#[c]⟩)) (.str (y++⟨#[c]⟩) t3)from⟨_,rfl⟩) (fun j y' z' e1 e2 e3=>?_) ns2 sb2 k
    by_cases hj:il=j
    · subst hj
      rw[hl]at e1
      cases e1
      rw[List.getElem?_set_self (by rw[I.len];exact(List.getElem?_eq_some_iff.mp hl).1)]at e2
      cases e2
      exact⟨_,⟨_,rfl⟩,.inl ⟨kl,if_pos rfl⟩⟩
    · rw[List.getElem?_set_ne hj]at e2
      have ny:y'≠l:=fun q=>hj (f0w hN hl (q▸e1))
      obtain⟨w',r',q⟩:=hm j y' z' e1 e2 e3
      rcases q with ⟨a1,a2⟩ | ⟨a1,c',a2,a3⟩
      · exact⟨w',r',.inl ⟨a1,(if_neg ny).trans a2⟩⟩
      · exact⟨w',r',.inr ⟨a1,c',a2,a3.sameBut sb1 (I2.cne y' c' a2)⟩⟩
  have ml:(if l=w then some (Value.str (y++⟨#[c]⟩) t3)else if l=l then some (Value.str ⟨#[c]⟩ s2.toks)else m l)=some (Value.str ⟨#[c]⟩ s2.toks):=by rw[if_neg nlw,if_pos rfl]
  have ma:(if a=w then some (Value.str (y++⟨#[c]⟩) t3)else if a=l then some (Value.str ⟨#[c]⟩ s2.toks)else m a)=some (Value.str z ta):=by rw[if_neg naw,if_neg (Ne.symm nla)];exact mz
  refine wpAny_execs_cons (wpAny_Assign_Name (wpAny_Call_method_late hbase hfew hline rfl (wpAny_Name (wpAny_loadName_local I.ok.kind ka ns2 ma ?_) da)) hs3)
  refine⟨"str","str.replace",F.plainAttrs_str,F.slot_str_replace,F.type_str_replace,typeIs_str _ _ _,(fun b e=>by nomatch e),?_⟩
  rw[hst]
  refine Calls.callWith_builtin rfl (Calls.evalArgs_plain ?_)
  refine Calls.spliced_cons (wpAny_Name (wpAny_loadName_local I.ok.kind kl ns2 ml ?_) dl)
  refine Calls.spliced_cons (Calls.Constant_str (Calls.spliced_nil ?_))
  refine SC.replace (show s2.toks≠0 from Nat.ne_of_gt n2) (show tk+1≠0 by omega) (show s2.toks≠tk+1 by have:s2.toks+1≤tk:=n3;omega) (by rfl) (by show z.length+(z.length+1) * 0≤16777216;omega) fun t' k=>?_
  obtain⟨m4,hm4,hl4⟩:=(I4 k).loc
  refine wpAny_storeName_local ka hm4 (fun g3 ns3 sb3=>?_) I2.nocls
  exact wpAny_execs_nil ⟨_,H2,(I4 k).stored hN ha ka (show RelV (.str (Txt.replace z ⟨#[c]⟩ "")) (.str (Txt.replace z ⟨#[c]⟩ "") t')from⟨_,rfl⟩) hl4 ns3 sb3 _,q2⟩
end
end L2
namespace L2
open PySem PySem.Spec PyProof.Rows
section
variable{X:Cx}
def rStarts:V→List V→Hp→VK→Prop:=fun x xs H Q=>∃z y,x=.str z∧xs=[.str y]∧Q (.bl (Txt.startswith z y)) H
theorem mt_starts:MtR X "str.startswith" rStarts:=by
  intro pins s σ H x xs v us Q I rx rs h
  obtain⟨z,y,rfl,rfl,q⟩:=h
  obtain⟨t,rfl⟩:=rx
  obtain⟨u,rfl,ru⟩:=rs.one
  obtain⟨t',rfl⟩:=ru
  exact PySem.SC.startswith (b0h I q rfl)
def rPartition:V→List V→Hp→VK→Prop:=fun x xs H Q=>∃z y,x=.str z∧xs=[.str y]∧(y.length == 0)=false∧z.length≤sizeLine∧∀p,H p=none→Q (.ref p) (upd H p (.tup [.str (Txt.partition z y).1,.str (Txt.partition z y).2.1,.str (Txt.partition z y).2.2]))
theorem g0y:MtR X "str.partition" rPartition:=by
  intro pins s σ H x xs v us Q I rx rs h
  obtain⟨z,y,rfl,rfl,hy,hz,q⟩:=h
  obtain⟨t,rfl⟩:=rx
  obtain⟨u,rfl,ru⟩:=rs.one
  obtain⟨t',rfl⟩:=ru
  refine call_meets F.slot_str_partition (typeIs_str _ _ _) F.entry_str_partition (F.args_str_partition_2 _ _) (meets_str_partition z y t t' hy hz) ?_
  have q':=q _ (I.hok.fresh (Nat.le_refl _))
  revert q'
  unfold Txt.partition
  cases Builtin.Str.occurrences z y 0 z.length 1 with
  | nil=>
    intro q'
    refine⟨.ref _,_,I.laid (t':=s.toks+1) (o:=.tup [.str z,.str Str.empty,.str Str.empty]) (fun b ob q=>Heap.get?_push_of_some _ q) (Nat.le_refl _) ⟨by show 3≤sizeLine;decide,_,.cons ⟨_,rfl⟩ (.cons ⟨_,rfl⟩ (.cons ⟨_,rfl⟩ .nil)),IsTup.new _ _,fun _=>⟨_,Heap.get?_push_size _ rfl,rfl⟩⟩,rfl,q'⟩
  | cons i r=>
    intro q'
    refine⟨.ref _,_,I.laid (t':=s.toks+1+1) (o:=.tup [.str (Builtin.Str.strSub z 0 i),.str y,.str (Builtin.Str.strSub z (i+y.length) z.length)]) (fun b ob q=>Heap.get?_push_of_some _ q) (Nat.le_refl _) ⟨by show 3≤sizeLine;decide,_,.cons ⟨_,rfl⟩ (.cons ⟨_,rfl⟩ (.cons ⟨_,rfl⟩ .nil)),IsTup.new _ _,fun _=>⟨_,Heap.get?_push_size _ rfl,rfl⟩⟩,rfl,q'⟩
theorem g0e:CallR X (.type "int") (fun xs H Q=>∃z n,xs=[.str z]∧PySem.intText? z=some n∧z.length≤640∧Q (.int n) H):=by
  intro pins s σ H xs us Q I rs h
  obtain⟨z,n,rfl,hn,hl,q⟩:=h
  obtain⟨u,rfl,ru⟩:=rs.one
  obtain⟨t,rfl⟩:=ru
  exact PySem.W.KIN.call_text hn hl ⟨.int _,H,I.tok _,⟨_,rfl⟩,q⟩
variable{m:Str}{pos apos:Pos}{e o:Expr}{es:List Expr}{ta:TE}{t:TA}{tx:TX}
end
end L2
namespace L2
open PySem PySem.Spec PyProof.Rows PySem.Builtin PySem.Builtin.Str
section
variable{X:Cx}
theorem vals_str:∀{ls:List Str} {its:List Value},Vals (ls.map V.str) its→∃l:List (Str × Tok),its=strValues l∧l.map (·.1)=ls
  | [],_,.nil=>⟨[],rfl,rfl⟩
  | x::ls,_,.cons r rs=>by
    obtain⟨t,rfl⟩:=r
    obtain⟨l,rfl,e⟩:=vals_str rs
    exact⟨(x,t)::l,rfl,by rw[List.map_cons,e]⟩
theorem vals_of:∀l:List (Str × Tok),Vals ((l.map (·.1)).map V.str) (strValues l)
  | []=>.nil
  | (x,t)::l=>.cons ⟨t,rfl⟩ (vals_of l)
def rJoin(K:PySem.W.Frag):V→List V→Hp→VK→Prop:=fun x xs H Q=>∃z a ls,x=.str z∧xs=[.ref a]∧SqL K H a (ls.map V.str)∧JoinOk z ls=true∧Q (.str (Txt.join z ls)) H
theorem h0r:MtR X "str.join" (rJoin X.K):=by
  intro pins s σ H x xs v us Q I rx rs h
  obtain⟨z,a,ls,rfl,rfl,hq,ok,q⟩:=h
  obtain⟨t,rfl⟩:=rx
  obtain⟨u,rfl,ru⟩:=rs.one
  cases (show u=Value.ref a from ru)
  obtain⟨its,rv,p,hz⟩:=I.list hq
  obtain⟨l,rfl,e⟩:=vals_str rv
  exact PySem.SC.join (l:=l) p.isList e ok fun t' k=>⟨.str _,H,I.tok _,⟨_,rfl⟩,q⟩
def rSplit:V→List V→Hp→VK→Prop:=fun x xs H Q=>∃z y,x=.str z∧xs=[.str y]∧(y.length == 0)=false∧z.length≤sizeLine∧(partsBetween z (occurrences z y 0 z.length (z.length+1)) y.length).length≤sizeLine∧(Txt.split z y).length≤sizeLine∧∀p,H p=none→Q (.ref p) (upd H p (.lst ((Txt.split z y).map V.str)))
theorem c0d:MtR X "str.split" rSplit:=by
  intro pins s σ H x xs v us Q I rx rs h
  obtain⟨z,y,rfl,rfl,hy,hz,hz2,hz3,q⟩:=h
  obtain⟨t,rfl⟩:=rx
  obtain⟨u,rfl,ru⟩:=rs.one
  obtain⟨t',rfl⟩:=ru
  have q':=q _ (I.hok.fresh (Nat.le_refl _))
  have fin:∀(l:List (Str × Tok)) (tk:Nat),l.map (·.1)=Txt.split z y→EP X pins σ Q (.ref s.heap.objs.size) { s with heap:=s.heap.push { cls:=.type "list",data:=.seq (strValues l).toArray },toks:=tk }:=fun l tk e=>
    ⟨.ref _,_,I.laid (t':=tk) (o:=.lst ((Txt.split z y).map V.str)) (fun b ob q=>Heap.get?_push_of_some _ q) (Nat.le_refl _) ⟨by rw[List.length_map];exact hz3,_,_,by rw[← e];exact vals_of l,Heap.get?_push_size _ rfl⟩,rfl,q'⟩
  unfold Txt.split at fin
  cases h1:(decide (z.length < y.length) || decide (strKind z < strKind y))
  · rw[h1]at fin
    cases hf:(occurrences z y 0 z.length (z.length+1)).isEmpty
    · rw[hf]at fin
      refine call_meets F.slot_str_split (typeIs_str _ _ _) F.entry_str_split (F.args_str_split_2 _ _) (meets_str_split_sep z y t t' h1 hy hf hz hz2) ?_
      show wants _ _ _ { s with toks:=_,heap:=s.heap.push { cls:=.type "list",data:=.seq (strsFrom s.toks (partsBetween z (occurrences z y 0 z.length (z.length+1)) y.length)).toArray } }
      rw[strsFrom_eq]
      exact fin (numbered s.toks _) _ (by rw[numbered_texts];rfl)
    · rw[hf]at fin
      exact call_meets F.slot_str_split (typeIs_str _ _ _) F.entry_str_split (F.args_str_split_2 _ _) (meets_str_split_not_found z y t t' h1 hy hf) (fin [(z,t)] s.toks rfl)
  · rw[h1]at fin
    exact call_meets F.slot_str_split (typeIs_str _ _ _) F.entry_str_split (F.args_str_split_2 _ _) (meets_str_split_cannot_occur z y t t' h1) (fin [(z,t)] s.toks rfl)
end
end L2
namespace L2
open PySem PySem.Spec PyProof.Rows PySem.Builtin PySem.Builtin.Str
section
variable{X:Cx}
theorem ps_forget{st:Stmt}{t:TS}(i:Nat)(h:PS X st t):PS X st (fun D σ H=>t D (σ.set i none) H):=by
  intro pins s σ H D I q
  refine h pins s (σ.set i none) H D (I.weak List.length_set fun j v e=>?_) q
  by_cases z:i=j
  · subst z
    by_cases z2:i < σ.length
    · rw[List.getElem?_set_self z2]at e;cases e
    · rw[List.getElem?_eq_none (by rw[List.length_set];omega)]at e;cases e
  · rwa [List.getElem?_set_ne z]at e
end
end L2
namespace L2
open PySem PySem.Spec PyProof.Rows
section
variable{X:Cx}{k:Nat}{f C:Addr}{fd:FuncData}{ps:List Str}{sp:Sp}{dvs:List V}{ds:List Value}{E:XK}{x m:Str}{p np cpos pos apos:Pos}{e o:Expr}{es:List Expr}{ta:TE}{t:TA}{tx:TX}
end
end L2
namespace L2
open PySem PySem.Spec PyProof.Rows
theorem noteFrame_of{e:Value}{env env':Env}(h:env.frame=env'.frame):noteFrame e env=noteFrame e env':=by
  unfold noteFrame PySem.frameOf
  rw[h]
theorem k0k{prog:Program}{w:World}{A:Around}{R:Result→Shared→Prop}{s:Shared}{elt target iter:Expr}{scope:Scope}{pos:Pos}{it acc:Value}{env:Env}(I:Nat→Shared→Prop)(EX:Value→Shared→Prop)
    (hEX:∀e s',EX e s'→notedBy (model prog w) A env (fun x s''=>R (.error x) s'') e s')
    (turn:∀n s,I n s→wpAny (model prog w) A (pyNext it) (fun r s₁=>match r with
      | none=>R (.ok .next) s₁
      | some v=>wpAny (model prog w) A (letOwnedTupleGo target it v) (fun _ s₁'=>wpAny (model prog w) A (assign target env v) (fun _ s₂=>wpAny (model prog w) A (eval elt env) (fun x s₃=>
          wpAny (model prog w) A (call (.builtin "list.append") [acc,x]) (fun _ s₄=>∃m,m < n∧I m s₄) (fun _ _=>False) s₃) EX s₂) (fun _ _=>False) s₁') (fun _ _=>False) s₁) (fun _ _=>False) s)
    (n:Nat) (h:I n s) :
    codeAny (model prog w) A (.compLoop (.ListComp elt [⟨target,iter,[],0⟩] scope pos) 0 it acc env) R s:=by
  refine codeAny_loop rfl I (fun n s hI=>?_) n h
  show wpAny _ _ ((compTurn (.ListComp elt [⟨target,iter,[],0⟩] scope pos) 0 it acc env).onRaise (fun x=>do noteFrame x env;theTreesLotGoes x)) _ _ s
  refine wpAny_noted ?_
  rw[compTurn_list1]
  refine wpAny_bind (wpAny_standAt (wpAny_bind (wpAny_mono (turn n s hI) (fun r s₁ h₁=>?_) fun _ _ h'=>h'.elim)))
  cases r with
  | none=>exact wpAny_pure h₁
  | some v=>
    exact wpAny_bind (wpAny_mono h₁ (fun _ s1' h1'=>wpAny_bind (wpAny_mono h1' (fun _ s₂ h₂=>wpAny_bind (wpAny_bind (wpAny_mono h₂ (fun x s₃ h₃=>wpAny_bind (wpAny_mono h₃
      (fun _ s₄ h₄=>wpAny_pure (wpAny_pure ⟨rfl,h₄⟩)) fun _ _ h'=>h'.elim)) fun e s' h'=>hEX e s' h'))) fun _ _ h'=>h'.elim)) fun _ _ h'=>h'.elim)
section
variable{M:Model}{A:Around}{E:Value→Shared→Prop}{s:Shared}{env:Env}
def i0c(M:Model)(A:Around)(E:Value→Shared→Prop)(Q:Value→Shared→Prop)(acc:Value)(cenv:Env)(r:Result)(s':Shared):Prop:=
  match r with
  | .ok _=>∃m,s'.heap.Ns cenv.locals m∧∀h',Heap.SameBut cenv.locals s'.heap h'→Q acc { s' with heap:=h' }
  | .error x=>∃m,s'.heap.Ns cenv.locals m∧∀h' m',h'.Ns cenv.locals m'→Heap.SameBut cenv.locals s'.heap h'→wpAny M A (PySem.passOn "comprehension.variables-let-go" x cenv:Sem Value) (fun _ _=>False) E { s' with heap:=h' }
theorem e0q{e:Expr}{scope:Scope}{pos:Pos}{newAcc first:Sem Value}{g:Comprehension}{gs:List Comprehension}{cl:List (Str × Addr)}{Q:Value→Shared→Prop}
    (hcl:clausesOf e=g::gs) (hs:∀x,foldedSetIterable g.iter env x=pure x) (hclos:closureFor scope env=pure cl)
    (hkind:scope.kind=.function) (hnames:∀x∈scope.names,x.2=.local→scope.names.lookup x.1=some .local)
    (h:wpAny M A first (fun x s₁=>wpAny M A (pyIter x) (fun it s₂=>wpAny M A newAcc (fun acc s₃=>
      wpAny M A (newFunctionEnv scope env.globals cl [] env.qual none .none (some env)) (fun cenv s₄=>
        codeAny M A (.compStart e 0 it acc { cenv with scope:=relabel scope env }) (i0c M A E Q acc { cenv with scope:=relabel scope env }) s₄) E s₃) E s₂) E s₁) E s) :
    wpAny M A (comprehension e scope env pos newAcc false first none) Q E s:=by
  unfold comprehension
  rw[hclos,hcl]
  refine wpAny_bind (wpAny_mono h (fun x s₁ h₁=>wpAny_bind (wpAny_standAt (wpAny_bind (wpAny_of_eq (hs x) (wpAny_bind (wpAny_holding (wpAny_mono h₁ (fun it s₂ h₂=>
    wpAny_standIf (wpAny_bind (wpAny_mono h₂ (fun acc s₃ h₃=>wpAny_bind (wpAny_pure (wpAny_bind (wpAny_mono h₃ (fun cenv s₄ h₄=>?_) fun _ _ h'=>h')))) fun _ _ h'=>h')))
      fun _ _ h'=>h'))))))) fun _ _ h'=>h')
  dsimp only
  have hv:∀x∈(scope.names.filter fun x=>(x.2 == .local || x.2 == .cell) && x.1 != (".0":Str)).reverse,x.2=.local→
      Env.kindOf { cenv with scope:=relabel scope env } x.1=some .local:=fun x hx hl=>lookup_relabel_local (hnames x (List.mem_filter.mp (List.mem_reverse.mp hx)).1 hl)
  refine wpAny_holding (wpAny_bind (wpAny_attempt (wpAny_holding (wpAny_run (codeAny_mono h₄ fun r s' hr=>?_)))))
  cases r with
  | ok f=>
    obtain⟨m,hn,hr⟩:=hr
    exact wpAny_bind (wpAny_holding (wpAny_comp_letGo (cenv:={ cenv with scope:=relabel scope env }) hkind _ s' m hv hn fun h' m' _ hs'=>wpAny_pure (hr h' hs')))
  | error x=>
    obtain⟨m,hn,hr⟩:=hr
    exact wpAny_bind (wpAny_holding (wpAny_comp_letGo (cenv:={ cenv with scope:=relabel scope env }) hkind _ s' m hv hn fun h' m' hm hs'=>wpAny_mono (hr h' m' hm hs') (fun _ _ f=>f.elim) fun _ _ y=>y))
theorem e0u{base:Heap}{l:List Env}{e L:Addr}{cls a0:Value}{Q:Unit→Shared→Prop}(hh:Heap.HeldW base l e cls a0 L s.heap)
    (h:∀h',Heap.HeldW base l e cls a0 L h'→s.heap.UpToSlots h'→Q () { s with heap:=h' }):wpAny M A (setFlight (.ref e) (some L)) Q E s:=by
  obtain⟨hkb,hen,hl,oe,vs,T,oT,ts,he,hcls,hd,h1,hnT,hTe,hT,hdT,h3⟩:=hh
  have hsz3:3 < ts.size:=(Array.getElem?_eq_some_iff.mp h3).1
  have other:∀b,b≠T→(s.heap.update T (Obj.mapFields (·.setIfInBounds 3 ((some L:Option Addr).elim Value.none fun f=>rawInt f)))).get? b=s.heap.get? b:=
    fun b hb=>Heap.get?_update_other _ _ (Ne.symm hb)
  have noRecord:∀b o,s.heap.get? b=some o→(∀vs,o.data≠.fields vs)→b≠T:=fun b o hb hnf q=>by
    rw[q,hT]at hb;injection hb with hb;subst hb;exact hnf ts hdT
  unfold setFlight
  refine wpAny_bind (wpAny_field he hd h1 ?_)
  rw[if_pos (show(Value.ref T != Value.none)=true from by simp)]
  refine wpAny_setField hT hdT hsz3 (h _ ⟨(fun b o hbo=>(other b fun q=>by rw[q,hnT]at hbo;cases hbo).trans (hkb b o hbo)),hen,
    (hl.of_keeps fun b o hb hnf=>⟨o,(other b (noRecord b o hb hnf)).trans hb,rfl⟩),?_⟩ fun b o hb hnf=>⟨o.slots,(other b (noRecord b o hb hnf)).trans hb⟩)
  exact⟨oe,vs,T,_,_,(other e (Ne.symm hTe)).trans he,hcls,hd,h1,hnT,hTe,Heap.get?_update_self _ hT (Obj.isFreed_of_fields (Obj.data_mapFields hdT _)),Obj.data_mapFields hdT _,by simp[hsz3]⟩
theorem passOn_held{α:Type}{what:String}{cenv:Env}{base:Heap}{l:List Env}{e L:Addr}{cls a0:Value}{Q:α→Shared→Prop}(hf:cenv.frame=some L)(hh:Heap.HeldW base l e cls a0 L s.heap)
    (h:∀h',Heap.HeldW base l e cls a0 L h'→s.heap.UpToSlots h'→E (.ref e) { s with heap:=h' }):wpAny M A (PySem.passOn what (.ref e) cenv:Sem α) Q E s:=by
  obtain⟨_,_,_,oe,vs,T,oT,ts,he,hcls,hd,h1,hnT,hTe,hT,hdT,h3⟩:=id hh
  unfold PySem.passOn
  refine wpAny_bind (wpAny_field he hd h1 ?_)
  rw[if_neg (show ¬((Value.ref T == Value.none)=true)from by simp)]
  rw[hf]
  first
  | exact wpAny_bind (e0u hh fun h' k u=>wpAny_throw (h h' k u))
  | exact wpAny_bind (wpAny_pure (wpAny_bind (e0u hh fun h' k u=>wpAny_throw (h h' k u))))
end
theorem k0g{h h' base:Heap}:∀{l:List Env},h.FunFrames base l→(∀b∈frs l,∀o,h.get? b=some o→∃o',h'.get? b=some o'∧o'.data=o.data)→h'.FunFrames base l
  | [],_,_=>trivial
  | env::r,⟨k,⟨L,o,hf,hb,ho,hd⟩,t⟩,hm=>by
    obtain⟨o',e1,e2⟩:=hm L (by unfold frs;rw[List.filterMap_cons,hf];exact List.mem_cons_self) o ho
    exact⟨k,⟨L,o',hf,hb,e1,fun vs z=>hd vs (e2▸z)⟩,k0g t fun b hb'=>hm b (by unfold frs;rw[List.filterMap_cons,hf];exact List.mem_cons_of_mem _ hb')⟩
theorem h0o{h:Heap}{a:Addr}{m:Str→Option Value}(n:h.Ns a m){o:Obj}(e:h.get? a=some o):∀vs,o.data≠.fields vs:=fun vs z=>by
  obtain⟨o',es,ep,e',d',_⟩:=n
  rw[e]at e';cases e'
  rw[d']at z;cases z
theorem comp_err{X:Cx}{pins:List (Addr × Obj)}{σ:St}{E:XK}{H2 Hs H':Hp}{s2 s s5:Shared}{a T C Cc:Addr}{ex:List Addr}{cenv:Env}{Q:Value→Shared→Prop}{acc:Value}(R:Thru X E)(I2:Inv X pins σ H2 s2)
    (u:Un (frs X.stack) ex H2 Hs s2.heap s.heap) (os:s.os=s2.os)
    (hex:∀b∈ex,(b∈X.ex∨X.s₀.heap.objs.size≤b)∧b≠X.env.locals∧(∀x c,X.env.cells.lookup x=some c→c≠b)∧∀p∈X.pn++pins,p.1≠b)
    {mC:Str→Option Value} (ns:s.heap.Ns Cc mC) (nC:s2.heap.get? Cc=none) (hC:Hs Cc=none) (fC:cenv.frame=X.env.frame) (lC:cenv.locals=Cc) (ff:s.heap.FunFrames X.base X.stack) (stkF:∀b∈frs X.stack,Hs b=none)
    (F:Fly X.prog X.w (frs X.stack) Hs H' s s5 a T C) (q:E (.ref C) none H') :
    notedBy (model X.prog X.w) X.A cenv (fun x s''=>i0c (model X.prog X.w) X.A X.xe Q acc cenv (.error x) s'') (.ref a) s5:=by
  subst lC
  have cf:cenv.locals ∉ frs X.stack:=fun hb=>by
    obtain⟨_,o,e,_⟩:=I2.stack.mem hb
    rw[nC]at e;cases e
  have ff5:s5.heap.FunFrames X.base X.stack:=k0g ff fun b hb o e=>by
    obtain⟨sl,e'⟩:=F.un.slot b o e (stkF b hb) hb (by simp)
    exact⟨_,e',rfl⟩
  have ns5:s5.heap.Ns cenv.locals mC:=by
    obtain⟨o,es,ep,e,d,r⟩:=ns
    exact⟨o,es,ep,F.un.keep _ o e hC cf (by simp),d,r⟩
  have hC':H' cenv.locals=none:=by
    obtain⟨o,es,ep,e,d,r⟩:=ns
    exact F.un.free _ o e hC (by simp)
  have stkF':∀b∈frs X.stack,H' b=none:=fun b hb=>by
    obtain⟨_,o,e,_⟩:=ff.mem hb
    exact F.un.free b o e (stkF b hb) (by simp)
  have aC:cenv.locals≠a:=fun z=>by
    obtain⟨o,es,ep,e,d,r⟩:=ns
    rw[z,F.na]at e;cases e
  obtain⟨oe,vs,a0,oT,ts,e1,e2,e3,e4,e5,e6,e7,e8⟩:=F.xt
  have fl:Heap.FlyingW (PySem.W.hideAll s5.heap (a::T::cenv.locals::frs X.stack)) X.stack a (.ref C) a0 s5.heap:=
    ⟨fun b o e=>PySem.W.of_hideAll _ e,PySem.W.hideAll_none _ (by simp),c0y ff5 fun b hb=>PySem.W.hideAll_none _ (by simp[hb]),
      oe,vs,T,oT,ts,e1,e2,e3,e4,PySem.W.hideAll_none _ (by simp),e5,e6,e7,e8⟩
  have bC:(PySem.W.hideAll s5.heap (a::T::cenv.locals::frs X.stack)).get? cenv.locals=none:=PySem.W.hideAll_none _ (by simp)
  have bG:∀b o,s5.heap.get? b=some o→b≠a→b≠T→b≠cenv.locals→b ∉ frs X.stack→(PySem.W.hideAll s5.heap (a::T::cenv.locals::frs X.stack)).get? b=some o:=fun b o e n1 n2 n3 n4=>PySem.W.hideAll_get _ e (by simp[n1,n2,n3,n4])
  revert fl bC bG
  generalize PySem.W.hideAll s5.heap (a::T::cenv.locals::frs X.stack)=B
  intro fl bC bG
  unfold notedBy
  rw[noteFrame_of fC]
  rw[R.stk]at fl
  refine wpAny_looks_onW (I2.ok.frames.trans (by rw[R.stk])) R.fr fl fun h6 hh up6=>?_
  rw[← R.stk]at hh
  have ns6:=up6.ns ns5
  refine⟨mC,ns6,fun h7 m7 ns7 sb=>?_⟩
  have sb':∀b o,b≠cenv.locals→h6.get? b=some o→h7.get? b=some o:=fun b o hn e=>sb.extBut b o hn e
  have hh7:Heap.HeldW B X.stack a (.ref C) a0 X.env.locals h7:=by
    obtain⟨k1,k2,k3,oe',vs',T',oT',ts',g1,g2,g3,g4,g0,g5,g6,g7,g8⟩:=hh
    refine⟨fun b o e=>sb' b o (fun z=>by rw[z,bC]at e;cases e) (k1 b o e),k2,k0g k3 fun b hb o e=>⟨o,sb' b o (fun z=>cf (z▸hb)) e,rfl⟩,oe',vs',T',oT',ts',sb' _ _ (Ne.symm aC) g1,g2,g3,g4,g0,g5,sb' _ _ (fun z=>?_) g6,g7,g8⟩
    rw[z]at g6
    exact h0o ns6 g6 _ g7
  refine passOn_held (s:={ s5 with heap:=h7 }) (fC.trans R.fr) hh7 fun h8 hh8 up8=>?_
  rw[R.xe]
  unfold leaving
  refine wpAny_bind (wpAny_noteFrame_againW (s:={ s5 with heap:=h8 }) R.fr hh8.2.2.2 ?_)
  refine wpAny_landsW (s:={ s5 with heap:=h8 }) hh8 fun h9 fl9 up9=>?_
  obtain⟨k1,_,_,oe',vs',T',oT',ts',g1,g2,g3,g4,g0,g5,g6,g7,g8⟩:=fl9
  have ns9:=up9.ns (up8.ns ns7)
  have keep:∀b o,s5.heap.get? b=some o→b≠a→b≠T→b≠cenv.locals→b ∉ frs X.stack→h9.get? b=some o:=fun b o e n1 n2 n3 n4=>k1 b o (bG b o e n1 n2 n3 n4)
  have slot:∀b o,s5.heap.get? b=some o→b∈frs X.stack→(∃sl,h9.get? b=some { o with slots:=sl })∧∀vs,o.data≠.fields vs:=fun b o e hb=>by
    obtain⟨_,o1,q1,q2⟩:=ff5.mem hb
    rw[e]at q1;cases q1
    obtain⟨sl6,x6⟩:=up6 b o e q2
    have x7:=sb' b _ (fun z=>cf (z▸hb)) x6
    obtain⟨sl8,x8⟩:=up8 b _ x7 q2
    obtain⟨sl9,x9⟩:=up9 b _ x8 q2
    exact⟨⟨sl9,x9⟩,q2⟩
  have TC:T'≠cenv.locals:=fun z=>by
    rw[z]at g6
    exact h0o ns9 g6 _ g7
  have nf:T' ∉ frs X.stack:=fun hb=>by
    obtain⟨_,o1,q1,q2⟩:=ff5.mem hb
    obtain⟨⟨sl,q3⟩,_⟩:=slot _ o1 q1 hb
    rw[g6]at q3;cases q3
    exact q2 _ g7
  have tt:T'=T∨s5.heap.get? T'=none:=by
    by_cases z:T'=T
    · exact .inl z
    · right
      cases q:s5.heap.get? T' with
      | none=>rfl
      | some o=>
        have:=bG T' o q g5 z TC nf
        rw[g0]at this;cases this
  have hT':H' T'=none:=by
    rcases tt with z | z
    · rw[z];exact F.hT
    · exact F.hok.nothing z
  have ne:∀b o,s.heap.get? b=some o→b≠a∧b≠T:=fun b o e=>⟨(fun z=>by rw[z,F.na]at e;cases e),(fun z=>by rw[z,F.nT]at e;cases e)⟩
  have neC:∀b o,s2.heap.get? b=some o→b≠cenv.locals:=fun b o e z=>by rw[z,nC]at e;cases e
  have u5:Un (frs X.stack) ex H2 H' s2.heap s5.heap:=u.trans (F.un.mono (fun _ h=>h) (by simp))
  have u9:Un (frs X.stack) ex H2 H' s2.heap h9:=by
    refine⟨fun b o e n hb hx=>?_,fun b o e n hb hx=>?_,u5.free,fun b o e hx=>?_,u5.tups,u5.frzs,u5.tbls⟩
    · have e':=u.keep b o e n hb hx
      exact keep b o (u5.keep b o e n hb hx) (ne b o e').1 (ne b o e').2 (neC b o e) hb
    · obtain⟨sl,q⟩:=u5.slot b o e n hb hx
      obtain⟨⟨sl',q'⟩,_⟩:=slot b _ q hb
      exact⟨sl',q'⟩
    · obtain⟨os,qs⟩:=u.there b o e hx
      obtain⟨o',q⟩:=u5.there b o e hx
      by_cases hb:b∈frs X.stack
      · obtain⟨⟨sl,q'⟩,_⟩:=slot b o' q hb
        exact⟨_,q'⟩
      · exact⟨o',keep b o' q (ne b os qs).1 (ne b os qs).2 (neC b o e) hb⟩
  have hok9:HOk X.prog X.w H' h9:=F.hok.loose fun b v hb e=>keep b v e (fun z=>hb (z▸F.ha)) (fun z=>hb (z▸F.hT)) (fun z=>hb (z▸hC')) fun z=>hb (stkF' b z)
  have Ie:Inv X pins σ H' { s5 with heap:=h9 }:=I2.call' (s':={ s5 with heap:=h9 }) (ch:=ex) (F.os.trans os) u9 hok9 F.bare hex
  have none0:∀b,s.heap.get? b=none→X.s₀.heap.get? b=none:=fun b n=>by
    cases q:X.s₀.heap.get? b with
    | none=>rfl
    | some o=>
      obtain⟨o',q'⟩:=I2.base.there b o q (by rw[R.ex];simp)
      have hx:b ∉ ex:=fun hb=>by
        rcases(hex b hb).1 with z | z
        · rw[R.ex]at z;cases z
        · exact absurd (Nat.lt_of_lt_of_le (Heap.lt_size q) z) (Nat.lt_irrefl _)
      obtain⟨o'',q''⟩:=u.there b o' q' hx
      rw[n]at q'';cases q''
  have nT0:X.s₀.heap.get? T'=none:=by
    rcases tt with z | z
    · rw[z];exact none0 T F.nT
    · cases q:X.s₀.heap.get? T' with
      | none=>rfl
      | some o=>
        cases qs:s.heap.get? T' with
        | none=>rw[none0 T' qs]at q;cases q
        | some o'=>
          obtain⟨o'',q''⟩:=F.un.there T' o' qs (by simp)
          rw[z]at q'';cases q''
  have ub:Un (frs X.outer) [] X.H₀ H' X.s₀.heap h9:=by
    have:=Ie.base
    rw[R.ex]at this
    exact this
  exact⟨a,T',C,H',rfl,⟨Ie.os,F.bare,ub,hok9,⟨oe',vs',a0,oT',ts',g1,g2,g3,g4,g5,g6,g7,g8⟩,none0 a F.na,nT0,F.ha,hT'⟩,q⟩
theorem thnX{α:Type}{M:Model}{A:Around}{m:Sem α}{Q Q':α→Shared→Prop}{E E':Value→Shared→Prop}{s:Shared}(h:wpAny M A m Q E s)(hE:∀e s',E e s'→E' e s')(k:∀v s',Q v s'→Q' v s'):wpAny M A m Q' E' s:=wpAny_mono h k hE
theorem j0o{X:Cx}{E:XK}{tx:TX}{elt target iter:Expr}{scope:Scope}{pos:Pos}{wi:TI}{g:TG}{xs:List Str}(R:Thru X E)(hc:X.calm=true)(ok:c0f X.N X.env.scope scope)(hi:PI X target iter wi)
    (hg:∀C s H fp pn,PG (c0z X scope xs C s H fp pn) target g) (he:∀C s H fp pn,PEX (c0z X scope xs C s H fp pn) elt tx)
    (hs:∀x,foldedSetIterable iter X.env x=pure x:=by intro _;rfl):PE X (.ListComp elt [⟨target,iter,[],0⟩] scope pos) (tComp xs.length wi g fun σ H Q=>tx σ H Q E):=by
  intro pins s σ H Q I h
  rw[eval_ListComp]
  refine e0q rfl hs (i0d (g0b I ok)) ok.kind ok.names (thn (hi pins s σ H _ I h) fun v s1 h1=>thn h1 fun itv s2 h2=>?_)
  obtain⟨it,fp,tn,J,H2,rfl,I2,T,st2,f2,W,⟨m0,w0⟩,turn⟩:=h2
  refine wpAny_newObj_type (h0p fun h₁ hns₁ hsb₁ hcl₁=>?_)
  dsimp only at hns₁ hsb₁ hcl₁ ⊢
  generalize hD:s2.heap.objs.size=D
  generalize hH3:s2.heap.push { cls:=.type "list",dict:=none,data:=.seq ([]:List Value).toArray }=h3 at hns₁ hsb₁ hcl₁ ⊢
  have k23:∀b o,s2.heap.get? b=some o→h3.get? b=some o:=fun b o e=>hH3▸Heap.get?_push_of_some _ e
  have hC:h3.objs.size=D+1:=by rw[← hH3,Heap.size_push,hD]
  have eD3:h3.get? D=some { cls:=.type "list",dict:=none,data:=.seq ([]:List Value).toArray }:=by
    rw[← hH3,← hD];exact Heap.get?_push_size _ rfl
  have I3:Inv X pins σ H2 { s2 with heap:=h3 }:=I2.kept (t':=s2.toks) k23
  have fD:FpOk X pins H2 D:=I2.fpOk (by omega) (I2.hok.fresh (by omega))
  have lt2:∀b∈fp,b < D:=fun b hb=>by
    obtain⟨o,e,_⟩:=T.obj 0 _ st2 b hb
    rw[← hD]
    exact Heap.lt_size e
  have f3:∀b∈D::fp,FpOk X pins H2 b:=fun b hb=>by
    rcases List.mem_cons.mp hb with rfl | hb
    · exact fD
    · exact f2 b hb
  have hx3:∀b∈D::fp,b < ({ s2 with heap:=h3 }:Shared).heap.objs.size:=fun b hb=>by
    show b < h3.objs.size
    rcases List.mem_cons.mp hb with rfl | hb
    · rw[hC];exact Nat.lt_succ_self _
    · rw[hC];exact Nat.lt_succ_of_lt (lt2 b hb)
  have k31:∀b o,h3.get? b=some o→h₁.get? b=some o:=hsb₁
  have okX:=comp_ok (C:=h3.objs.size) (xs:=xs) I3 ok f3 hx3 (Nat.le_refl _)
  have I4:=i0z (C:=h3.objs.size) (xs:=xs) (t':=s2.toks+([]:List (Str × Value)).length) I3 ok f3 hx3 (Nat.le_refl _) hns₁ k31 hcl₁
  have mD:D∈D::fp:=List.mem_cons_self
  have neC:∀b∈D::fp,b≠h3.objs.size:=fun b hb=>(okX.exf b hb).1
  have stat:∀{H':Hp} {pl:List (Addr × Obj)},(∀b∈fp,H' b=none)→(∀p∈pl,p.1=D)→∀b∈fp,FpOk (c0z X scope xs h3.objs.size { s2 with heap:=h3 } H2 (D::fp) (X.pn++pins)) pl H' b:=fun hn hpl b hb=>by
    have hb':b∈D::fp:=List.mem_cons_of_mem _ hb
    refine⟨hn b hb,neC b hb',okX.exfs b hb',.inl hb',(okX.exf b hb').2,fun p hp=>?_⟩
    rcases List.mem_append.mp hp with hp | hp
    · exact(f2 b hb).2.2.2.2.2 p hp
    · rw[hpl p hp]
      exact Nat.ne_of_gt (lt2 b hb)
  have loop:codeAny (model X.prog X.w) X.A (.compLoop (.ListComp elt [⟨target,iter,[],0⟩] scope pos) 0 (.ref it) (.ref D) (compEnvC scope (cbOf X.env scope h3.objs.size) h3.objs.size X.env))
      (i0c (model X.prog X.w) X.A X.xe (EP X pins σ Q) (.ref D) (compEnvC scope (cbOf X.env scope h3.objs.size) h3.objs.size X.env)) { s2 with heap:=h₁,toks:=s2.toks+([]:List (Str × Value)).length }:=by
    refine k0k (fun n s'=>∃i ys its k H',Inv (c0z X scope xs h3.objs.size { s2 with heap:=h3 } H2 (D::fp) (X.pn++pins)) [] (σ++List.replicate xs.length none) H' s'∧
      s'.heap.get? D=some { cls:=.type "list",data:=.seq (its:List Value).toArray k }∧Vals ys its∧H' D=none∧tn i s'.heap∧(∀b∈fp,H' b=none)∧W i n ys H') (fun e s'=>∃pl σ',XP (c0z X scope xs h3.objs.size { s2 with heap:=h3 } H2 (D::fp) (X.pn++pins)) pl σ' E e s') ?_ ?_ m0
      ⟨0,[],[],_,H2,I4,k31 _ _ eD3,.nil,fD.1,T.keep _ _ _ st2 (fun b _ o e=>k31 b o (k23 b o e)),fun b hb=>(f2 b hb).1,w0⟩
    · rintro e s' ⟨pl,σ',sE,HE,IE,aE,TE',CE,HE',rfl,FE,qE⟩
      obtain⟨mm,hnm,_⟩:=IE.loc
      have u0:Un (frs X.stack) (D::fp) H2 HE h3 sE.heap:=IE.base
      refine comp_err R I2 ((Un.kept k23).trans u0) IE.os (fun b hb=>?_) hnm ?_ IE.free rfl rfl IE.stack IE.stkFree FE qE
      · have z:=f3 b hb
        exact⟨z.2.2.2.1,z.2.1,z.2.2.2.2.1,z.2.2.2.2.2⟩
      · show s2.heap.get? h3.objs.size=none
        cases q:s2.heap.get? h3.objs.size with
        | none=>rfl
        | some o=>
          have z:h3.objs.size < s2.heap.objs.size:=Heap.lt_size q
          rw[hC,hD]at z
          exact absurd z (Nat.not_lt.mpr (Nat.le_succ D))
    rintro n s' ⟨i,ys,its,k,H',I',eD,rv,nD,st,fr,w⟩
    have Ip:=I'.pins_of (pins':=[(D,{ cls:=.type "list",data:=.seq its.toArray k })]) fun p hp=>by
      rw[List.mem_singleton]at hp
      subst hp
      exact⟨eD,nD,neC D mD,okX.exfs D mD,fun v z=>by cases z⟩
    have one:∀p∈[(D,({ cls:=.type "list",data:=.seq its.toArray k }:Obj))],p.1=D:=fun p hp=>by rw[List.mem_singleton]at hp;rw[hp]
    rcases turn i n ys H' w with ⟨stop,hz,q⟩ | ⟨go,hz,step⟩
    · refine thn (T.done (c0z X scope xs h3.objs.size { s2 with heap:=h3 } H2 (D::fp) (X.pn++pins)) rfl rfl rfl hc i _ s' _ H' (fun _ _=>False) Ip (stat fr one) st stop) fun r s4 ⟨hr,J4⟩=>?_
      subst hr
      obtain⟨mm,hnm,_⟩:=J4.loc
      refine⟨mm,hnm,fun h' sb=>?_⟩
      obtain⟨eD4,nD4,_⟩:=J4.pin (D,{ cls:=.type "list",data:=.seq its.toArray k }) (List.mem_append_right _ List.mem_cons_self)
      have hb:∀b o,b≠h3.objs.size→s4.heap.get? b=some o→h'.get? b=some o:=fun b o hn e=>sb.extBut b o hn e
      have u0:Un (frs X.stack) (D::fp) H2 H' h3 s4.heap:=J4.base
      have u:Un (frs X.stack) (D::fp) H2 H' s2.heap h':=((Un.kept k23).trans u0).but hb (by omega)
      have os4:s4.os=s2.os:=J4.os
      refine⟨.ref D,upd H' D (.lst ys),I2.call' (s':={ s4 with heap:=h' }) (ch:=D::fp) os4 (u.track (by omega) nD4) ((J4.hok.but hb J4.free).track nD4 ⟨hz,its,k,rv,hb D _ (neC D mD) eD4⟩) J4.bare (fun b hb=>?_),rfl,q D nD4⟩
      have z:=f3 b hb
      exact⟨z.2.2.2.1,z.2.1,z.2.2.2.2.1,z.2.2.2.2.2⟩
    · refine thn (T.item (c0z X scope xs h3.objs.size { s2 with heap:=h3 } H2 (D::fp) (X.pn++pins)) rfl rfl rfl hc i _ s' _ H' (fun _ _=>False) Ip (stat fr one) st go) fun r s4 ⟨u,hr,h4⟩=>?_
      subst hr
      refine thn h4 fun _ s5 ⟨x,H5,I5,r5,y5,st5,fr5⟩=>?_
      have I5':=I5.pinned (stat fr5 one) (T.obj _ _ st5)
      refine thn (hg _ _ _ _ _ _ s5 _ H5 x u _ I5' r5 (step x H5 y5)) fun _ s6 ⟨σ6,H6,I6,⟨zs,hz6,hl6⟩,q6⟩=>?_
      refine thnX (he _ _ _ _ _ _ s6 σ6 H6 _ _ I6 q6) (fun _ _ z=>⟨_,_,z⟩) fun xv s7 ⟨v,H7,I7,r7,m',hm',w7⟩=>?_
      obtain⟨eD7,nD7,_⟩:=I7.pin (D,{ cls:=.type "list",data:=.seq its.toArray k }) (List.mem_append_right _ (List.mem_append_left _ List.mem_cons_self))
      have len:=rv.length
      refine call_meets F.slot_list_append ⟨_,eD7,rfl⟩ F.entry_list_append (F.args_list_append_2 _ _) (PySem.list_append D its.toArray k xv (by rw[List.size_toArray];omega)) ⟨eD7,?_⟩
      have q:=PySem.IsL.update eD7 (fun a=>a.push xv)
      have other:∀b o,b≠D→s7.heap.get? b=some o→(s7.heap.update D (Obj.mapSeq fun a=>a.push xv)).get? b=some o:=fun b o hb e=>(Heap.get?_update_other s7.heap _ (Ne.symm hb)).trans e
      have pinF:∀b∈fp,∀o,s5.heap.get? b=some o→s7.heap.get? b=some o∧H7 b=none:=fun b hb o e=>
        ⟨(I7.pin (b,o) (List.mem_append_right _ (List.mem_append_right _ (c0i hb e)))).1,(I7.pin (b,o) (List.mem_append_right _ (List.mem_append_right _ (c0i hb e)))).2.1⟩
      have I7':=I7.pins_of (pins':=[]) fun p hp=>by cases hp
      have I8:=I7'.turned (t':=s7.toks) (it:=D) other nD7 (neC D mD) (.inl mD) (okX.exf D mD).2 (fun p hp=>by
        rw[List.append_nil]at hp
        exact fD.2.2.2.2.2 p hp)
      have I9:=I8.weak (σ':=σ++List.replicate xs.length none) (by rw[hz6,List.length_append,List.length_append,List.length_replicate,hl6]) (fun j v' e=>by
        have hj:j < σ.length:=by
          by_cases hj:j < σ.length
          · exact hj
          · rw[List.getElem?_append_right (by omega),List.getElem?_replicate]at e
            split at e <;>cases e
        rw[List.getElem?_append_left hj]at e
        rw[hz6,List.getElem?_append_left hj]
        exact e)
      have e9:its.toArray.push xv=(its++[xv]).toArray:=by simp
      rw[e9]at q
      refine⟨m',hm',i+1,ys++[v],its++[xv],_,H7,I9,q,rv.append (.cons r7 .nil),nD7,T.keep _ _ _ st5 (fun b hb o e=>other b o (Nat.ne_of_lt (lt2 b hb)) (pinF b hb o e).1),fun b hb=>?_,w7⟩
      obtain⟨o,e,_⟩:=T.obj _ _ st5 b hb
      exact(pinF b hb o e).2
  exact codeAny_compStart_list loop (T.self _ 0 _ _ _ (T.keep _ _ _ st2 fun b _ o e=>k31 b o (k23 b o e)) loop)
end L2
namespace L2
open PySem PySem.Spec PyProof.Rows PySem.W
structure Tb(mg:Str→Option Value)(h:Heap)(c P:Addr):Prop where
  cd:CodeHd h c P
  bl:h.BuiltinsAt mg P
  gl:mainGlobals≠P
section
variable{P:Program}{w:World}{H:Hp}{h h':Heap}{p:Addr}{ps qs:Array Value}
end
section
variable{X:Cx}{pins:List (Addr × Obj)}{σ:St}{H:Hp}{s:Shared}
theorem Tb.keeps{mg:Str→Option Value}{h h':Heap}{c P:Addr}(t:Tb mg h c P)(k:∀b o,h.get? b=some o→h'.get? b=some o):Tb mg h' c P:=
  ⟨t.cd.keeps k,let⟨bm,o,a1,a2,a3,a4,a5,r⟩:=t.bl;⟨bm,o,a1,a2,a3,a4,k _ _ a5,r⟩,t.gl⟩
end
section
variable{P:Program}{w:World}{K:PySem.W.Frag}{mg:Str→Option Value}{base:Heap}
end
end L2
namespace L2
open PySem PySem.Spec PyProof.Rows
section
variable{X:Cx}
def ipL:TIp:=fun x y H Q=>∃l b xs zs,x=.ref l∧y=.ref b∧H l=some (.lst xs)∧H b=some (.lst zs)∧xs.length+zs.length≤sizeLine∧Q (.ref l) (upd H l (.lst (xs++zs)))
theorem j0c:seqSlot? (.type "list") (dunderI "add")=pure (some (.builtin "list.__iadd__")):=PySem.seqSlot_of F.slot_list_iadd.lookup (by decide +kernel)
theorem h0a:fillsInplaceSlot (.type "list") "add" (Operator.Add == .Add)=pure false:=by
  unfold fillsInplaceSlot
  show(typeLookup (.type "list") (dunderI "add") >>= fun fi=>pure (fi.isSome && !isSeqSlot fi))=pure false
  rw[F.slot_list_iadd.lookup]
  rfl
theorem ip_lst:PIp X .Add ipL:=by
  intro pins s σ H x y v u Q I rx ry h
  obtain⟨l,b,xs,zs,rfl,rfl,hH,hB,hz,q⟩:=h
  cases (show v=Value.ref l from rx)
  cases (show u=Value.ref b from ry)
  obtain⟨z,its,n,r,hl,e⟩:=I.lstM hH
  obtain⟨z2,its2,n2,r2,hl2,e2⟩:=I.lstM hB
  have hsz:its.toArray.size+its2.toArray.size≤sizeLine:=by rw[List.size_toArray,List.size_toArray];omega
  have hlong:¬(!its.toArray.isEmpty && Builtin.List.listTooLong (its.toArray.size+its2.toArray.size))=true:=by
    rw[notLongL hsz,Bool.and_false]
    exact Bool.false_ne_true
  unfold inplaceOp
  refine wpAny_holding ?_
  refine wpAny_bind (wpAny_typeOf (T:="list") ⟨_,e,rfl⟩ (wpAny_bind (wpAny_of_eq h0a ?_)))
  show wpAny _ _ (if false=true then _ else _) _ _ _
  rw[if_neg Bool.false_ne_true]
  refine wpAny_bind (wpAny_binaryOp1_none (nm:="add") (T:="list") ⟨_,e,rfl⟩ ⟨_,e2,rfl⟩ PySem.noFill_list_add ?_)
  refine wpAny_bind (wpAny_of_eq j0c ?_)
  refine wpAny_bind (wpAny_rule ?_)
  refine call_meets F.slot_list_iadd ⟨_,e,rfl⟩ F.entry_list_iadd (F.args_list_iadd_2 _ _)
    (AutoSeq1.list___iadd___list_list_0 l its.toArray n b its2.toArray n2 hlong (by rw[List.size_toArray];omega) (by omega)) ⟨e,e2,?_⟩
  refine⟨.ref l,_,I.lset (its':=its++its2) hH e (by simp) (r.append r2) ?_,rfl,q⟩
  rw[List.length_append]
  omega
end
end L2
set_option maxHeartbeats 0
lay_quick PySem.Challenge.pw_weighwalk_k92_odd_machines
namespace H92
open PySem PySem.W
noncomputable section
abbrev q0:=SL.s658472552662922059x5
abbrev q1:=SL.s14018661285674007319x4
abbrev q2:=SL.s7097527257260152453x26
abbrev q3:=SL.s6070975301684473832x10
abbrev q4:=SL.s11030030927630378310x26
abbrev q5:=SL.s10062305145149207511x16
abbrev q6:=SL.s17162191345867700912x4
abbrev q7:=SL.s5946037652744460706x9
abbrev q8:=SL.s4278001404047624695x13
abbrev q9:=SL.s2742458400755230247x6
abbrev q10:=SL.s4209523147560561109x18
abbrev q11:=SL.s14755015743595814543x17
abbrev q12:=SL.s4290257624100764138x5
abbrev q13:=SL.s4860613602091757760x24
abbrev q14:=SL.s11443829558043349243x14
def i(n:Int):Value:=.int n 0
def r(n:Addr):Value:=.ref n
def tu(a:Array Value)(n:Nat):Obj:=⟨.type SL.s2766695959194262286x5,none,.seq a n,#[]⟩
def co(a:Array Value):Obj:=⟨.type SL.s5856160107412720595x4,none,.fields a,#[]⟩
def fo(n q:Str)(s:Stmt)(m c:Value):Obj:=⟨.type SL.s7174869446012820540x8,none,.func ⟨n,q,L2.c0j s,.stmts (L2.b0z s),L2.a0i s,3,[],.none,.none,.none,m,none,c,.none,0⟩,#[]⟩
def f0(n q:Str)(s:Stmt):Obj:=⟨.none,none,.func ⟨n,q,L2.c0j s,.stmts (L2.b0z s),L2.a0i s,0,[],.none,.none,.none,.none,none,.none,.none,0⟩,#[]⟩
abbrev nd:=@BT.node
abbrev nl:=BT.nil
abbrev lf(x:Obj):BT:=.node x .nil .nil
abbrev kh:=@PySem.PyData.keyHash
def topT(i:Nat):Stmt:=Fast.tw9920906252200871378.main.body.getD i (.Pass ⟨0,0,0,0⟩)
def s0:Str:=⟨⟨[60,109,111,100,117,108,101,62]⟩⟩
def s1:Str:=⟨⟨[47,99,108,97,105,109,47,99,117,116,46,112,121]⟩⟩
def s2:Str:=⟨⟨[95,95,109,97,105,110,95,95]⟩⟩
def s3:Str:=⟨⟨[95,95,110,97,109,101,95,95]⟩⟩
def s4:Str:=⟨⟨[119,101,105,103,104,119,97,108,107,46,107,105,110,100,115]⟩⟩
def s5:Str:=⟨⟨[95,95,100,111,99,95,95]⟩⟩
def s6:Str:=⟨⟨[95,95,112,97,99,107,97,103,101,95,95]⟩⟩
def s7:Str:=⟨⟨[95,95,108,111,97,100,101,114,95,95]⟩⟩
def s8:Str:=⟨⟨[95,95,115,112,101,99,95,95]⟩⟩
def s9:Str:=⟨⟨[95,95,97,110,110,111,116,97,116,105,111,110,115,95,95]⟩⟩
def s10:Str:=⟨⟨[95,95,98,117,105,108,116,105,110,115,95,95]⟩⟩
def s11:Str:=⟨⟨[95,95,102,105,108,101,95,95]⟩⟩
def s12:Str:=⟨⟨[95,95,99,97,99,104,101,100,95,95]⟩⟩
def s13:Str:=⟨⟨[95,119,97,108,108]⟩⟩
def s14:Str:=⟨⟨[87,101,105,103,104,69,114,114,111,114]⟩⟩
def s15:Str:=⟨⟨[78,111,75,105,110,100]⟩⟩
def s16:Str:=⟨⟨[87,114,111,110,103,75,105,110,100]⟩⟩
def s17:Str:=⟨⟨[78,111,87,101,105,103,104,116]⟩⟩
def s18:Str:=⟨⟨[78,111,87,111,114,100]⟩⟩
def s19:Str:=⟨⟨[85,110,108,105,107,101]⟩⟩
def s20:Str:=⟨⟨[78,111,67,108,111,115,117,114,101]⟩⟩
def s21:Str:=⟨⟨[84,111,111,71,114,101,97,116]⟩⟩
def s22:Str:=⟨⟨[78,111,84,101,120,116]⟩⟩
def s23:Str:=⟨⟨[78,111,78,97,109,101]⟩⟩
def s24:Str:=⟨⟨[78,111,82,111,119]⟩⟩
def s25:Str:=⟨⟨[105,115,95,119,104,111,108,101]⟩⟩
def s26:Str:=⟨⟨[100,105,118,105,115,111,114]⟩⟩
def s27:Str:=⟨⟨[105,115,95,112,114,105,109,101]⟩⟩
def s28:Str:=⟨⟨[70,73,71,85,82,69,83]⟩⟩
def s29:Str:=⟨⟨[48,49,50,51,52,53,54,55,56,57]⟩⟩
def s30:Str:=⟨⟨[77,79,83,84,95,70,73,71,85,82,69,83]⟩⟩
def s31:Str:=⟨⟨[71,82,69,65,84,69,83,84,95,80,82,73,77,69]⟩⟩
def s32:Str:=⟨⟨[105,115,95,119,114,105,116,116,101,110]⟩⟩
def s33:Str:=⟨⟨[114,101,97,100,95,119,104,111,108,101]⟩⟩
def s34:Str:=⟨⟨[110,101,101,100,95,116,101,120,116]⟩⟩
def s35:Str:=⟨⟨[75,105,110,100]⟩⟩
def s36:Str:=⟨⟨[107]⟩⟩
def s37:Str:=⟨⟨[95,95,109,111,100,117,108,101,95,95]⟩⟩
def s38:Str:=⟨⟨[119,101,105,103,104,119,97,108,107,46,101,114,114,111,114,115]⟩⟩
def s39:Str:=⟨⟨[95,95,113,117,97,108,110,97,109,101,95,95]⟩⟩
def s40:Str:=⟨⟨[95,95,102,105,114,115,116,108,105,110,101,110,111,95,95]⟩⟩
def s41:Str:=⟨⟨[95,95,115,116,97,116,105,99,95,97,116,116,114,105,98,117,116,101,115,95,95]⟩⟩
def s42:Str:=⟨⟨[95,95,119,101,97,107,114,101,102,95,95]⟩⟩
def s43:Str:=⟨⟨[116,104,105,110,103]⟩⟩
def s44:Str:=⟨⟨[119,101,105,103,104,119,97,108,107,46,114,97,116,105,111,115]⟩⟩
def s45:Str:=⟨⟨[111,110,101]⟩⟩
def s46:Str:=⟨⟨[111,116,104,101,114]⟩⟩
def s47:Str:=⟨⟨[103,114,101,97,116,101,115,116]⟩⟩
def s48:Str:=⟨⟨[114,101,115,116]⟩⟩
def s49:Str:=⟨⟨[108,101,102,116]⟩⟩
def s50:Str:=⟨⟨[110,117,109,98,101,114]⟩⟩
def s51:Str:=⟨⟨[102,97,99,116,111,114]⟩⟩
def s52:Str:=⟨⟨[116,101,120,116]⟩⟩
def s53:Str:=⟨⟨[95,95,100,105,99,116,95,95]⟩⟩
def s54:Str:=⟨⟨[108,97,119,95,119,101,105,103,104,119,97,108,107,95,107,57,50,95,111,100,100,95,109,97,99,104,105,110,101,115]⟩⟩
def s55:Str:=⟨⟨[70,105,101,108,100]⟩⟩
def s56:Str:=⟨⟨[80,105,99,107,105,110,103]⟩⟩
def s57:Str:=⟨⟨[70,114,97,99,116,105,111,110,115]⟩⟩
def s58:Str:=⟨⟨[82,101,115,105,100,117,101,115]⟩⟩
def s59:Str:=⟨⟨[67,111,115,116,115]⟩⟩
def s60:Str:=⟨⟨[84,114,117,116,104,115]⟩⟩
def s61:Str:=⟨⟨[83,77,65,76,76,95,76,69,84,84,69,82,83]⟩⟩
def s62:Str:=⟨⟨[97,98,99,100,101,102,103,104,105,106,107,108,109,110,111,112,113,114,115,116,117,118,119,120,121,122]⟩⟩
def s63:Str:=⟨⟨[77,79,83,84,95,76,69,84,84,69,82,83]⟩⟩
def s64:Str:=⟨⟨[77,79,83,84,95,82,79,79,77,83]⟩⟩
def s65:Str:=⟨⟨[105,115,95,108,101,116,116,101,114,115]⟩⟩
def s66:Str:=⟨⟨[78,79,95,82,79,79,77,83]⟩⟩
def s67:Str:=⟨⟨[45]⟩⟩
def s68:Str:=⟨⟨[114,101,97,100,95,114,111,119]⟩⟩
def s69:Str:=⟨⟨[114,101,97,100,95,114,111,119,95,111,102]⟩⟩
def s70:Str:=⟨⟨[114,101,97,100,95,116,97,98,108,101]⟩⟩
def s71:Str:=⟨⟨[114,101,97,100,95,109,97,99,104,105,110,101]⟩⟩
def s72:Str:=⟨⟨[95,108,97,119,95,115,116,97,116,101]⟩⟩
def s73:Str:=⟨⟨[95,108,97,119,95,110,101,120,116]⟩⟩
def s74:Str:=⟨⟨[95,108,97,119,95,114,111,111,109,115]⟩⟩
def s75:Str:=⟨⟨[105,115,95,102,105,101,108,100]⟩⟩
def s76:Str:=⟨⟨[112,105,99,107,115]⟩⟩
def s77:Str:=⟨⟨[115,101,108,102]⟩⟩
def s78:Str:=⟨⟨[70,105,101,108,100,46,105,115,95,102,105,101,108,100]⟩⟩
def s79:Str:=⟨⟨[70,105,101,108,100,46,112,105,99,107,115]⟩⟩
def s80:Str:=⟨⟨[109,105,110,117,115]⟩⟩
def s81:Str:=⟨⟨[105,110,118,101,114,115,101]⟩⟩
def s82:Str:=⟨⟨[80,105,99,107,105,110,103,46,105,115,95,102,105,101,108,100]⟩⟩
def s83:Str:=⟨⟨[80,105,99,107,105,110,103,46,112,105,99,107,115]⟩⟩
def s84:Str:=⟨⟨[120]⟩⟩
def s85:Str:=⟨⟨[80,105,99,107,105,110,103,46,109,105,110,117,115]⟩⟩
def s86:Str:=⟨⟨[80,105,99,107,105,110,103,46,105,110,118,101,114,115,101]⟩⟩
def s87:Str:=⟨⟨[116,111,108,100]⟩⟩
def s88:Str:=⟨⟨[110,111,117,103,104,116]⟩⟩
def s89:Str:=⟨⟨[112,108,117,115]⟩⟩
def s90:Str:=⟨⟨[116,105,109,101,115]⟩⟩
def s91:Str:=⟨⟨[105,115,95,119,101,105,103,104,116]⟩⟩
def s92:Str:=⟨⟨[115,104,111,119,110]⟩⟩
def s93:Str:=⟨⟨[114,101,97,100]⟩⟩
def s94:Str:=⟨⟨[70,114,97,99,116,105,111,110,115,46,116,111,108,100]⟩⟩
def s95:Str:=⟨⟨[70,114,97,99,116,105,111,110,115,46,110,111,117,103,104,116]⟩⟩
def s96:Str:=⟨⟨[70,114,97,99,116,105,111,110,115,46,111,110,101]⟩⟩
def s97:Str:=⟨⟨[121]⟩⟩
def s98:Str:=⟨⟨[70,114,97,99,116,105,111,110,115,46,112,108,117,115]⟩⟩
def s99:Str:=⟨⟨[70,114,97,99,116,105,111,110,115,46,116,105,109,101,115]⟩⟩
def s100:Str:=⟨⟨[70,114,97,99,116,105,111,110,115,46,109,105,110,117,115]⟩⟩
def s101:Str:=⟨⟨[70,114,97,99,116,105,111,110,115,46,105,110,118,101,114,115,101]⟩⟩
def s102:Str:=⟨⟨[70,114,97,99,116,105,111,110,115,46,105,115,95,119,101,105,103,104,116]⟩⟩
def s103:Str:=⟨⟨[70,114,97,99,116,105,111,110,115,46,115,104,111,119,110]⟩⟩
def s104:Str:=⟨⟨[112,105,101,99,101,115]⟩⟩
def s105:Str:=⟨⟨[116,111,112]⟩⟩
def s106:Str:=⟨⟨[98,111,116,116,111,109]⟩⟩
def s107:Str:=⟨⟨[70,114,97,99,116,105,111,110,115,46,114,101,97,100]⟩⟩
def s108:Str:=⟨⟨[95,95,105,110,105,116,95,95]⟩⟩
def s109:Str:=⟨⟨[112,114,105,109,101]⟩⟩
def s110:Str:=⟨⟨[82,101,115,105,100,117,101,115,46,95,95,105,110,105,116,95,95]⟩⟩
def s111:Str:=⟨⟨[82,101,115,105,100,117,101,115,46,116,111,108,100]⟩⟩
def s112:Str:=⟨⟨[82,101,115,105,100,117,101,115,46,110,111,117,103,104,116]⟩⟩
def s113:Str:=⟨⟨[82,101,115,105,100,117,101,115,46,111,110,101]⟩⟩
def s114:Str:=⟨⟨[82,101,115,105,100,117,101,115,46,112,108,117,115]⟩⟩
def s115:Str:=⟨⟨[82,101,115,105,100,117,101,115,46,116,105,109,101,115]⟩⟩
def s116:Str:=⟨⟨[82,101,115,105,100,117,101,115,46,109,105,110,117,115]⟩⟩
def s117:Str:=⟨⟨[82,101,115,105,100,117,101,115,46,105,110,118,101,114,115,101]⟩⟩
def s118:Str:=⟨⟨[82,101,115,105,100,117,101,115,46,105,115,95,119,101,105,103,104,116]⟩⟩
def s119:Str:=⟨⟨[82,101,115,105,100,117,101,115,46,115,104,111,119,110]⟩⟩
def s120:Str:=⟨⟨[82,101,115,105,100,117,101,115,46,114,101,97,100]⟩⟩
def s121:Str:=⟨⟨[67,111,115,116,115,46,116,111,108,100]⟩⟩
def s122:Str:=⟨⟨[67,111,115,116,115,46,110,111,117,103,104,116]⟩⟩
def s123:Str:=⟨⟨[67,111,115,116,115,46,111,110,101]⟩⟩
def s124:Str:=⟨⟨[67,111,115,116,115,46,112,108,117,115]⟩⟩
def s125:Str:=⟨⟨[67,111,115,116,115,46,116,105,109,101,115]⟩⟩
def s126:Str:=⟨⟨[67,111,115,116,115,46,105,115,95,119,101,105,103,104,116]⟩⟩
def s127:Str:=⟨⟨[67,111,115,116,115,46,115,104,111,119,110]⟩⟩
def s128:Str:=⟨⟨[67,111,115,116,115,46,114,101,97,100]⟩⟩
def s129:Str:=⟨⟨[84,114,117,116,104,115,46,116,111,108,100]⟩⟩
def s130:Str:=⟨⟨[84,114,117,116,104,115,46,110,111,117,103,104,116]⟩⟩
def s131:Str:=⟨⟨[84,114,117,116,104,115,46,111,110,101]⟩⟩
def s132:Str:=⟨⟨[84,114,117,116,104,115,46,112,108,117,115]⟩⟩
def s133:Str:=⟨⟨[84,114,117,116,104,115,46,116,105,109,101,115]⟩⟩
def s134:Str:=⟨⟨[84,114,117,116,104,115,46,105,115,95,119,101,105,103,104,116]⟩⟩
def s135:Str:=⟨⟨[84,114,117,116,104,115,46,115,104,111,119,110]⟩⟩
def s136:Str:=⟨⟨[84,114,117,116,104,115,46,114,101,97,100]⟩⟩
def s137:Str:=⟨⟨[119,101,105,103,104,119,97,108,107,46,109,97,99,104,105,110,101,115]⟩⟩
def s138:Str:=⟨⟨[119,101,105,103,104,119,97,108,107,46,116,101,120,116,115]⟩⟩
def s139:Str:=⟨⟨[107,105,110,100]⟩⟩
def s140:Str:=⟨⟨[115,105,122,101]⟩⟩
def s141:Str:=⟨⟨[114,111,119]⟩⟩
def s142:Str:=⟨⟨[95,108,97,119,95,115,99,114,105,112,116]⟩⟩
def s143:Str:=⟨⟨[95,108,97,119,95,115,101,101,100]⟩⟩
def s144:Str:=⟨⟨[95,108,97,119,95,99,101,108,108]⟩⟩
def s145:Str:=⟨⟨[95,108,97,119,95,115,116,97,116,101,95,104,101,114,101]⟩⟩
def s146:Str:=⟨⟨[95,108,97,119,95,109,97,110,121]⟩⟩
def s147:Str:=⟨⟨[95,108,97,119,95,102,111,117,110,100]⟩⟩
def s148:Str:=⟨⟨[95,108,97,119,95,102,101,119]⟩⟩
def s149:Str:=⟨⟨[95,108,97,119,95,109,111,115,116]⟩⟩
def s150:Str:=⟨⟨[95,108,97,119,95,108,101,116,116,101,114,115]⟩⟩
def s151:Str:=⟨⟨[95,108,97,119,95,100,105,118,105,115,111,114]⟩⟩
def s152:Str:=⟨⟨[95,108,97,119,95,108,111,119]⟩⟩
def s153:Str:=⟨⟨[95,108,97,119,95,115,111,114,116]⟩⟩
def s154:Str:=⟨⟨[95,108,97,119,95,107,105,110,100]⟩⟩
def s155:Str:=⟨⟨[95,108,97,119,95,115,104,111,119,110]⟩⟩
def s156:Str:=⟨⟨[95,108,97,119,95,119,101,105,103,104,116]⟩⟩
def s157:Str:=⟨⟨[95,108,97,119,95,109,97,99,104,105,110,101]⟩⟩
def s158:Str:=⟨⟨[95,108,97,119,95,108,105,110,101]⟩⟩
def s159:Str:=⟨⟨[95,108,97,119,95,116,101,120,116]⟩⟩
def s160:Str:=⟨⟨[95,108,97,119,95,119,104,111,108,101]⟩⟩
def s161:Str:=⟨⟨[95,108,97,119,95,114,101,97,100,95,119,101,105,103,104,116]⟩⟩
def s162:Str:=⟨⟨[95,108,97,119,95,114,101,97,100,95,114,111,119]⟩⟩
def s163:Str:=⟨⟨[95,108,97,119,95,114,101,97,100,95,116,97,98,108,101]⟩⟩
def s164:Str:=⟨⟨[95,108,97,119,95,114,101,97,100]⟩⟩
def s165:Str:=⟨⟨[95,108,97,119,95,112,105,101,99,101,115]⟩⟩
def s166:Str:=⟨⟨[95,108,97,119,95,99,104,97,110,103,101,100]⟩⟩
def s167:Str:=⟨⟨[95,108,97,119,95,116,111,108,100]⟩⟩
def s168:Str:=⟨⟨[108,97,119]⟩⟩
def s169:Str:=⟨⟨[95,108,97,119,95,115,111,109,101]⟩⟩
def s170:Str:=⟨⟨[95,108,97,119,95,97,110,115,119,101,114]⟩⟩
def s171:Str:=⟨⟨[95,108,97,119,95,107]⟩⟩
def s172:Str:=⟨⟨[95,108,97,119,95,108,101,116,116,101,114]⟩⟩
def s173:Str:=⟨⟨[95,108,97,119,95,111,110,101]⟩⟩
def s174:Str:=⟨⟨[95,108,97,119,95,111,116,104,101,114]⟩⟩
def s175:Str:=⟨⟨[95,108,97,119,95,116,111,112]⟩⟩
def s176:Str:=⟨⟨[95,108,97,119,95,98,111,116,116,111,109]⟩⟩
def s177:Str:=⟨⟨[95,108,97,119,95,98,121]⟩⟩
def s178:Str:=⟨⟨[95,108,97,119,95,119,97,121]⟩⟩
def s179:Str:=⟨⟨[95,108,97,119,95,112,114,105,109,101]⟩⟩
def s180:Str:=⟨⟨[95,108,97,119,95,115,111,114,116,95,104,101,114,101]⟩⟩
def s181:Str:=⟨⟨[95,108,97,119,95,120]⟩⟩
def s182:Str:=⟨⟨[95,108,97,119,95,103,114,101,97,116]⟩⟩
def s183:Str:=⟨⟨[95,108,97,119,95,116,101,120,116,95,104,101,114,101]⟩⟩
def s184:Str:=⟨⟨[95,108,97,119,95,115,116,114,111,107,101]⟩⟩
def s185:Str:=⟨⟨[95,108,97,119,95,110,117,109,98,101,114]⟩⟩
def s186:Str:=⟨⟨[95,108,97,119,95,114,111,119]⟩⟩
def s187:Str:=⟨⟨[95,108,97,119,95,112,105,101,99,101]⟩⟩
def s188:Str:=⟨⟨[95,108,97,119,95,114,111,119,115]⟩⟩
def s189:Str:=⟨⟨[95,108,97,119,95,98,101,116,119,101,101,110]⟩⟩
def s190:Str:=⟨⟨[95,108,97,119,95,97,116]⟩⟩
def s191:Str:=⟨⟨[95,108,97,119,95,115,105,103,110,115]⟩⟩
def s192:Str:=⟨⟨[95,108,97,119,95,115,105,103,110]⟩⟩
def s193:Str:=⟨⟨[95,108,97,119,95,112,105,101,99,101,115,95,104,101,114,101]⟩⟩
def s194:Str:=⟨⟨[95,108,97,119,95,107,105,110,100,95,104,101,114,101]⟩⟩
def s195:Str:=⟨⟨[95,108,97,119,95,116,104,105,110,103]⟩⟩
def s196:Str:=⟨⟨[95,108,97,119,95,116,111,108,100,95,104,101,114,101]⟩⟩
def s197:Str:=⟨⟨[101]⟩⟩
def s198:Str:=⟨⟨[95,108,97,119,95,111,100,100]⟩⟩
def s199:Str:=⟨⟨[95,108,97,119,95,108,101,116,116,101,114,115,95,104,101,114,101]⟩⟩
def s200:Str:=⟨⟨[95,108,97,119,95,100,117,101]⟩⟩
def o11a:Obj:=tu #[] 0
def o12a:Obj:=⟨.none,none,.fields #[],#[]⟩
def o13a:Obj:=co #[.str s0 182,.str s0 183,.str s1 184,i 1,i 0,i 0,i 0,i 0,r 11,.bool false,i 181,r 12,.none,.none,.none,.none,i 185,i 1,.str s1 186]
def o14a:Obj:=⟨.type q0,none,.plain,#[some (r 13),some (r 3),some (r 3),none,some (.str s2 164),none,some (r 0)]⟩
def o3_0(P:Params):Obj:=⟨.type q1,none,.dict #[⟨kh P s3,.str s3 165,.str s4 402⟩,⟨kh P s5,.str s5 166,.none⟩,⟨kh P s6,.str s6 167,.none⟩,⟨kh P s7,.str s7 168,.builtin q2⟩,⟨kh P s8,.str s8 169,.none⟩,⟨kh P s9,.str s9 170,r 6⟩,⟨kh P s10,.str s10 171,r 4⟩,⟨kh P s11,.str s11 173,.str s1 172⟩,⟨kh P s12,.str s12 174,.none⟩,⟨kh P s13,.str s13 193,r 21⟩,⟨kh P s14,.str s14 213,r 31⟩,⟨kh P s15,.str s15 229,r 44⟩,⟨kh P s16,.str s16 245,r 56⟩,⟨kh P s17,.str s17 261,r 68⟩,⟨kh P s18,.str s18 277,r 80⟩,⟨kh P s19,.str s19 293,r 92⟩,⟨kh P s20,.str s20 309,r 104⟩,⟨kh P s21,.str s21 325,r 116⟩,⟨kh P s22,.str s22 341,r 128⟩,⟨kh P s23,.str s23 357,r 140⟩,⟨kh P s24,.str s24 373,r 152⟩,⟨kh P s25,.str s25 382,r 161⟩,⟨kh P s26,.str s26 393,r 168⟩,⟨kh P s27,.str s27 401,r 175⟩,⟨kh P s28,.str s28 405,.str s29 404⟩,⟨kh P s30,.str s30 407,.int 30 406⟩,⟨kh P s31,.str s31 409,.int 1000000 408⟩,⟨kh P s32,.str s32 415,r 180⟩,⟨kh P s33,.str s33 422,r 187⟩,⟨kh P s34,.str s34 429,r 194⟩,⟨kh P s35,.str s35 449,r 204⟩] 31,#[]⟩
def o12_0:Obj:=⟨.none,none,.fields #[i 1,i 0,r 20,i 5,i 0,r 27,i 7,i 0,r 40,i 9,i 0,r 52,i 11,i 0,r 64,i 13,i 0,r 76,i 15,i 0,r 88,i 17,i 0,r 100,i 19,i 0,r 112,i 21,i 0,r 124,i 23,i 0,r 136,i 25,i 0,r 148,i 28,i 0,r 160,i 30,i 0,r 167,i 38,i 0,r 174,i 51,i 0,r 179,i 60,i 0,r 186,i 64,i 0,r 193,i 67,i 0,r 200],#[]⟩
def o15:Obj:=tu #[] 0
def o16:Obj:=⟨.none,none,.fields #[],#[]⟩
def o17:Obj:=tu #[.str s36 190] 0
def o18:Obj:=tu #[] 0
def o19:Obj:=f0 s13 s13 (topT 0)
def o20:Obj:=co #[.str s13 187,.str s13 188,.str s1 189,i 1,i 1,i 0,i 0,i 3,r 15,.bool true,i 181,r 16,.none,r 17,r 18,r 19,i 191,i 1,.str s1 192]
def o21:Obj:=fo s13 s13 (topT 0) (.str s2 164) (r 20)
def o22:Obj:=tu #[.type q3] 0
def o23:Obj:=⟨.type q4,none,.fields #[.builtin q5,.type q6],#[]⟩
def o24(P:Params):Obj:=⟨.type q1,none,.dict #[⟨kh P s37,.str s37 203,.str s38 194⟩,⟨kh P s39,.str s39 205,.str s14 204⟩,⟨kh P s40,.str s40 207,.int 5 206⟩,⟨kh P s41,.str s41 208,r 29⟩] 4,#[]⟩
def o25:Obj:=tu #[] 0
def o26:Obj:=⟨.none,none,.fields #[],#[]⟩
def o27:Obj:=co #[.str s14 198,.str s14 199,.str s1 200,i 5,i 0,i 0,i 0,i 0,r 25,.bool false,i 181,r 26,.none,.none,.none,.none,i 201,i 5,.str s1 202]
def o28:Obj:=⟨.type q0,none,.plain,#[some (r 27),some (r 3),some (r 24),none,some (.str s38 194),none,some (r 0)]⟩
def o29:Obj:=tu #[] 0
def o30(P:Params):Obj:=⟨.type q1,none,.dict #[⟨kh P s37,.str s37 203,.str s38 194⟩,⟨kh P s40,.str s40 207,.int 5 206⟩,⟨kh P s41,.str s41 208,r 29⟩,⟨kh P s42,.str s42 210,r 32⟩,⟨kh P s5,.str s5 211,.none⟩] 3,#[]⟩
def o31:Obj:=⟨.type q6,none,.cls ⟨s14,[.type q3],[r 31,.type q3,.type q7,.type q8,.type q9],30,s14,true,[],[r 44,r 56,r 68,r 80,r 92,r 104,r 116,r 128,r 140,r 152],false,none,false⟩,#[some (r 22),none,some (.str s14 196),some (.str s14 204),some (.builtin q10),some (.bool true)]⟩
def o32:Obj:=⟨.type q11,none,.fields #[.str s42 209,r 31,.builtin SL.s10220274742760427390x26,.none],#[]⟩
def o33:Obj:=⟨.type q12,none,.fields #[r 31,r 31,r 31],#[]⟩
def o34:Obj:=⟨.type q4,none,.fields #[.builtin q13,r 31],#[]⟩
def o35:Obj:=tu #[r 31] 0
def o36:Obj:=⟨.type q4,none,.fields #[.builtin q5,.type q6],#[]⟩
def o37(P:Params):Obj:=⟨.type q1,none,.dict #[⟨kh P s37,.str s37 221,.str s38 194⟩,⟨kh P s39,.str s39 223,.str s15 222⟩,⟨kh P s40,.str s40 225,.int 7 224⟩,⟨kh P s41,.str s41 226,r 42⟩] 4,#[]⟩
def o38:Obj:=tu #[] 0
def o39:Obj:=⟨.none,none,.fields #[],#[]⟩
def o40:Obj:=co #[.str s15 216,.str s15 217,.str s1 218,i 7,i 0,i 0,i 0,i 0,r 38,.bool false,i 181,r 39,.none,.none,.none,.none,i 219,i 7,.str s1 220]
def o41:Obj:=⟨.type q0,none,.plain,#[some (r 40),some (r 3),some (r 37),none,some (.str s38 194),none,some (r 0)]⟩
def o42:Obj:=tu #[] 0
def o43(P:Params):Obj:=⟨.type q1,none,.dict #[⟨kh P s37,.str s37 221,.str s38 194⟩,⟨kh P s40,.str s40 225,.int 7 224⟩,⟨kh P s41,.str s41 226,r 42⟩,⟨kh P s5,.str s5 227,.none⟩] 2,#[]⟩
def o44:Obj:=⟨.type q6,none,.cls ⟨s15,[r 31],[r 44,r 31,.type q3,.type q7,.type q8,.type q9],43,s15,true,[],[],false,none,false⟩,#[some (r 35),none,some (.str s15 214),some (.str s15 222),some (.builtin q10),some (.bool true)]⟩
def o45:Obj:=⟨.type q12,none,.fields #[r 44,r 44,r 44],#[]⟩
def o46:Obj:=⟨.type q4,none,.fields #[.builtin q13,r 44],#[]⟩
def o47:Obj:=tu #[r 31] 0
def o48:Obj:=⟨.type q4,none,.fields #[.builtin q5,.type q6],#[]⟩
def o49(P:Params):Obj:=⟨.type q1,none,.dict #[⟨kh P s37,.str s37 237,.str s38 194⟩,⟨kh P s39,.str s39 239,.str s16 238⟩,⟨kh P s40,.str s40 241,.int 9 240⟩,⟨kh P s41,.str s41 242,r 54⟩] 4,#[]⟩
def o50:Obj:=tu #[] 0
def o51:Obj:=⟨.none,none,.fields #[],#[]⟩
def o52:Obj:=co #[.str s16 232,.str s16 233,.str s1 234,i 9,i 0,i 0,i 0,i 0,r 50,.bool false,i 181,r 51,.none,.none,.none,.none,i 235,i 9,.str s1 236]
def o53:Obj:=⟨.type q0,none,.plain,#[some (r 52),some (r 3),some (r 49),none,some (.str s38 194),none,some (r 0)]⟩
def o54:Obj:=tu #[] 0
def o55(P:Params):Obj:=⟨.type q1,none,.dict #[⟨kh P s37,.str s37 237,.str s38 194⟩,⟨kh P s40,.str s40 241,.int 9 240⟩,⟨kh P s41,.str s41 242,r 54⟩,⟨kh P s5,.str s5 243,.none⟩] 2,#[]⟩
def o56:Obj:=⟨.type q6,none,.cls ⟨s16,[r 31],[r 56,r 31,.type q3,.type q7,.type q8,.type q9],55,s16,true,[],[],false,none,false⟩,#[some (r 47),none,some (.str s16 230),some (.str s16 238),some (.builtin q10),some (.bool true)]⟩
def o57:Obj:=⟨.type q12,none,.fields #[r 56,r 56,r 56],#[]⟩
def o58:Obj:=⟨.type q4,none,.fields #[.builtin q13,r 56],#[]⟩
def o59:Obj:=tu #[r 31] 0
def o60:Obj:=⟨.type q4,none,.fields #[.builtin q5,.type q6],#[]⟩
def o61(P:Params):Obj:=⟨.type q1,none,.dict #[⟨kh P s37,.str s37 253,.str s38 194⟩,⟨kh P s39,.str s39 255,.str s17 254⟩,⟨kh P s40,.str s40 257,.int 11 256⟩,⟨kh P s41,.str s41 258,r 66⟩] 4,#[]⟩
def o62:Obj:=tu #[] 0
def o63:Obj:=⟨.none,none,.fields #[],#[]⟩
def o64:Obj:=co #[.str s17 248,.str s17 249,.str s1 250,i 11,i 0,i 0,i 0,i 0,r 62,.bool false,i 181,r 63,.none,.none,.none,.none,i 251,i 11,.str s1 252]
def o65:Obj:=⟨.type q0,none,.plain,#[some (r 64),some (r 3),some (r 61),none,some (.str s38 194),none,some (r 0)]⟩
def o66:Obj:=tu #[] 0
def o67(P:Params):Obj:=⟨.type q1,none,.dict #[⟨kh P s37,.str s37 253,.str s38 194⟩,⟨kh P s40,.str s40 257,.int 11 256⟩,⟨kh P s41,.str s41 258,r 66⟩,⟨kh P s5,.str s5 259,.none⟩] 2,#[]⟩
def o68:Obj:=⟨.type q6,none,.cls ⟨s17,[r 31],[r 68,r 31,.type q3,.type q7,.type q8,.type q9],67,s17,true,[],[],false,none,false⟩,#[some (r 59),none,some (.str s17 246),some (.str s17 254),some (.builtin q10),some (.bool true)]⟩
def o69:Obj:=⟨.type q12,none,.fields #[r 68,r 68,r 68],#[]⟩
def o70:Obj:=⟨.type q4,none,.fields #[.builtin q13,r 68],#[]⟩
def o71:Obj:=tu #[r 31] 0
def o72:Obj:=⟨.type q4,none,.fields #[.builtin q5,.type q6],#[]⟩
def o73(P:Params):Obj:=⟨.type q1,none,.dict #[⟨kh P s37,.str s37 269,.str s38 194⟩,⟨kh P s39,.str s39 271,.str s18 270⟩,⟨kh P s40,.str s40 273,.int 13 272⟩,⟨kh P s41,.str s41 274,r 78⟩] 4,#[]⟩
def o74:Obj:=tu #[] 0
def o75:Obj:=⟨.none,none,.fields #[],#[]⟩
def o76:Obj:=co #[.str s18 264,.str s18 265,.str s1 266,i 13,i 0,i 0,i 0,i 0,r 74,.bool false,i 181,r 75,.none,.none,.none,.none,i 267,i 13,.str s1 268]
def o77:Obj:=⟨.type q0,none,.plain,#[some (r 76),some (r 3),some (r 73),none,some (.str s38 194),none,some (r 0)]⟩
def o78:Obj:=tu #[] 0
def o79(P:Params):Obj:=⟨.type q1,none,.dict #[⟨kh P s37,.str s37 269,.str s38 194⟩,⟨kh P s40,.str s40 273,.int 13 272⟩,⟨kh P s41,.str s41 274,r 78⟩,⟨kh P s5,.str s5 275,.none⟩] 2,#[]⟩
def o80:Obj:=⟨.type q6,none,.cls ⟨s18,[r 31],[r 80,r 31,.type q3,.type q7,.type q8,.type q9],79,s18,true,[],[],false,none,false⟩,#[some (r 71),none,some (.str s18 262),some (.str s18 270),some (.builtin q10),some (.bool true)]⟩
def o81:Obj:=⟨.type q12,none,.fields #[r 80,r 80,r 80],#[]⟩
def o82:Obj:=⟨.type q4,none,.fields #[.builtin q13,r 80],#[]⟩
def o83:Obj:=tu #[r 31] 0
def o84:Obj:=⟨.type q4,none,.fields #[.builtin q5,.type q6],#[]⟩
def o85(P:Params):Obj:=⟨.type q1,none,.dict #[⟨kh P s37,.str s37 285,.str s38 194⟩,⟨kh P s39,.str s39 287,.str s19 286⟩,⟨kh P s40,.str s40 289,.int 15 288⟩,⟨kh P s41,.str s41 290,r 90⟩] 4,#[]⟩
def o86:Obj:=tu #[] 0
def o87:Obj:=⟨.none,none,.fields #[],#[]⟩
def o88:Obj:=co #[.str s19 280,.str s19 281,.str s1 282,i 15,i 0,i 0,i 0,i 0,r 86,.bool false,i 181,r 87,.none,.none,.none,.none,i 283,i 15,.str s1 284]
def o89:Obj:=⟨.type q0,none,.plain,#[some (r 88),some (r 3),some (r 85),none,some (.str s38 194),none,some (r 0)]⟩
def o90:Obj:=tu #[] 0
def o91(P:Params):Obj:=⟨.type q1,none,.dict #[⟨kh P s37,.str s37 285,.str s38 194⟩,⟨kh P s40,.str s40 289,.int 15 288⟩,⟨kh P s41,.str s41 290,r 90⟩,⟨kh P s5,.str s5 291,.none⟩] 2,#[]⟩
def o92:Obj:=⟨.type q6,none,.cls ⟨s19,[r 31],[r 92,r 31,.type q3,.type q7,.type q8,.type q9],91,s19,true,[],[],false,none,false⟩,#[some (r 83),none,some (.str s19 278),some (.str s19 286),some (.builtin q10),some (.bool true)]⟩
def o93:Obj:=⟨.type q12,none,.fields #[r 92,r 92,r 92],#[]⟩
def o94:Obj:=⟨.type q4,none,.fields #[.builtin q13,r 92],#[]⟩
def o95:Obj:=tu #[r 31] 0
def o96:Obj:=⟨.type q4,none,.fields #[.builtin q5,.type q6],#[]⟩
def o97(P:Params):Obj:=⟨.type q1,none,.dict #[⟨kh P s37,.str s37 301,.str s38 194⟩,⟨kh P s39,.str s39 303,.str s20 302⟩,⟨kh P s40,.str s40 305,.int 17 304⟩,⟨kh P s41,.str s41 306,r 102⟩] 4,#[]⟩
def o98:Obj:=tu #[] 0
def o99:Obj:=⟨.none,none,.fields #[],#[]⟩
def o100:Obj:=co #[.str s20 296,.str s20 297,.str s1 298,i 17,i 0,i 0,i 0,i 0,r 98,.bool false,i 181,r 99,.none,.none,.none,.none,i 299,i 17,.str s1 300]
def o101:Obj:=⟨.type q0,none,.plain,#[some (r 100),some (r 3),some (r 97),none,some (.str s38 194),none,some (r 0)]⟩
def o102:Obj:=tu #[] 0
def o103(P:Params):Obj:=⟨.type q1,none,.dict #[⟨kh P s37,.str s37 301,.str s38 194⟩,⟨kh P s40,.str s40 305,.int 17 304⟩,⟨kh P s41,.str s41 306,r 102⟩,⟨kh P s5,.str s5 307,.none⟩] 2,#[]⟩
def o104:Obj:=⟨.type q6,none,.cls ⟨s20,[r 31],[r 104,r 31,.type q3,.type q7,.type q8,.type q9],103,s20,true,[],[],false,none,false⟩,#[some (r 95),none,some (.str s20 294),some (.str s20 302),some (.builtin q10),some (.bool true)]⟩
def o105:Obj:=⟨.type q12,none,.fields #[r 104,r 104,r 104],#[]⟩
def o106:Obj:=⟨.type q4,none,.fields #[.builtin q13,r 104],#[]⟩
def o107:Obj:=tu #[r 31] 0
def o108:Obj:=⟨.type q4,none,.fields #[.builtin q5,.type q6],#[]⟩
def o109(P:Params):Obj:=⟨.type q1,none,.dict #[⟨kh P s37,.str s37 317,.str s38 194⟩,⟨kh P s39,.str s39 319,.str s21 318⟩,⟨kh P s40,.str s40 321,.int 19 320⟩,⟨kh P s41,.str s41 322,r 114⟩] 4,#[]⟩
def o110:Obj:=tu #[] 0
def o111:Obj:=⟨.none,none,.fields #[],#[]⟩
def o112:Obj:=co #[.str s21 312,.str s21 313,.str s1 314,i 19,i 0,i 0,i 0,i 0,r 110,.bool false,i 181,r 111,.none,.none,.none,.none,i 315,i 19,.str s1 316]
def o113:Obj:=⟨.type q0,none,.plain,#[some (r 112),some (r 3),some (r 109),none,some (.str s38 194),none,some (r 0)]⟩
def o114:Obj:=tu #[] 0
def o115(P:Params):Obj:=⟨.type q1,none,.dict #[⟨kh P s37,.str s37 317,.str s38 194⟩,⟨kh P s40,.str s40 321,.int 19 320⟩,⟨kh P s41,.str s41 322,r 114⟩,⟨kh P s5,.str s5 323,.none⟩] 2,#[]⟩
def o116:Obj:=⟨.type q6,none,.cls ⟨s21,[r 31],[r 116,r 31,.type q3,.type q7,.type q8,.type q9],115,s21,true,[],[],false,none,false⟩,#[some (r 107),none,some (.str s21 310),some (.str s21 318),some (.builtin q10),some (.bool true)]⟩
def o117:Obj:=⟨.type q12,none,.fields #[r 116,r 116,r 116],#[]⟩
def o118:Obj:=⟨.type q4,none,.fields #[.builtin q13,r 116],#[]⟩
def o119:Obj:=tu #[r 31] 0
def o120:Obj:=⟨.type q4,none,.fields #[.builtin q5,.type q6],#[]⟩
def o121(P:Params):Obj:=⟨.type q1,none,.dict #[⟨kh P s37,.str s37 333,.str s38 194⟩,⟨kh P s39,.str s39 335,.str s22 334⟩,⟨kh P s40,.str s40 337,.int 21 336⟩,⟨kh P s41,.str s41 338,r 126⟩] 4,#[]⟩
def o122:Obj:=tu #[] 0
def o123:Obj:=⟨.none,none,.fields #[],#[]⟩
def o124:Obj:=co #[.str s22 328,.str s22 329,.str s1 330,i 21,i 0,i 0,i 0,i 0,r 122,.bool false,i 181,r 123,.none,.none,.none,.none,i 331,i 21,.str s1 332]
def o125:Obj:=⟨.type q0,none,.plain,#[some (r 124),some (r 3),some (r 121),none,some (.str s38 194),none,some (r 0)]⟩
def o126:Obj:=tu #[] 0
def o127(P:Params):Obj:=⟨.type q1,none,.dict #[⟨kh P s37,.str s37 333,.str s38 194⟩,⟨kh P s40,.str s40 337,.int 21 336⟩,⟨kh P s41,.str s41 338,r 126⟩,⟨kh P s5,.str s5 339,.none⟩] 2,#[]⟩
def o128:Obj:=⟨.type q6,none,.cls ⟨s22,[r 31],[r 128,r 31,.type q3,.type q7,.type q8,.type q9],127,s22,true,[],[],false,none,false⟩,#[some (r 119),none,some (.str s22 326),some (.str s22 334),some (.builtin q10),some (.bool true)]⟩
def o129:Obj:=⟨.type q12,none,.fields #[r 128,r 128,r 128],#[]⟩
def o130:Obj:=⟨.type q4,none,.fields #[.builtin q13,r 128],#[]⟩
def o131:Obj:=tu #[r 31] 0
def o132:Obj:=⟨.type q4,none,.fields #[.builtin q5,.type q6],#[]⟩
def o133(P:Params):Obj:=⟨.type q1,none,.dict #[⟨kh P s37,.str s37 349,.str s38 194⟩,⟨kh P s39,.str s39 351,.str s23 350⟩,⟨kh P s40,.str s40 353,.int 23 352⟩,⟨kh P s41,.str s41 354,r 138⟩] 4,#[]⟩
def o134:Obj:=tu #[] 0
def o135:Obj:=⟨.none,none,.fields #[],#[]⟩
def o136:Obj:=co #[.str s23 344,.str s23 345,.str s1 346,i 23,i 0,i 0,i 0,i 0,r 134,.bool false,i 181,r 135,.none,.none,.none,.none,i 347,i 23,.str s1 348]
def o137:Obj:=⟨.type q0,none,.plain,#[some (r 136),some (r 3),some (r 133),none,some (.str s38 194),none,some (r 0)]⟩
def o138:Obj:=tu #[] 0
def o139(P:Params):Obj:=⟨.type q1,none,.dict #[⟨kh P s37,.str s37 349,.str s38 194⟩,⟨kh P s40,.str s40 353,.int 23 352⟩,⟨kh P s41,.str s41 354,r 138⟩,⟨kh P s5,.str s5 355,.none⟩] 2,#[]⟩
def o140:Obj:=⟨.type q6,none,.cls ⟨s23,[r 31],[r 140,r 31,.type q3,.type q7,.type q8,.type q9],139,s23,true,[],[],false,none,false⟩,#[some (r 131),none,some (.str s23 342),some (.str s23 350),some (.builtin q10),some (.bool true)]⟩
def o141:Obj:=⟨.type q12,none,.fields #[r 140,r 140,r 140],#[]⟩
def o142:Obj:=⟨.type q4,none,.fields #[.builtin q13,r 140],#[]⟩
def o143:Obj:=tu #[r 31] 0
def o144:Obj:=⟨.type q4,none,.fields #[.builtin q5,.type q6],#[]⟩
def o145(P:Params):Obj:=⟨.type q1,none,.dict #[⟨kh P s37,.str s37 365,.str s38 194⟩,⟨kh P s39,.str s39 367,.str s24 366⟩,⟨kh P s40,.str s40 369,.int 25 368⟩,⟨kh P s41,.str s41 370,r 150⟩] 4,#[]⟩
def o146:Obj:=tu #[] 0
def o147:Obj:=⟨.none,none,.fields #[],#[]⟩
def o148:Obj:=co #[.str s24 360,.str s24 361,.str s1 362,i 25,i 0,i 0,i 0,i 0,r 146,.bool false,i 181,r 147,.none,.none,.none,.none,i 363,i 25,.str s1 364]
def o149:Obj:=⟨.type q0,none,.plain,#[some (r 148),some (r 3),some (r 145),none,some (.str s38 194),none,some (r 0)]⟩
def o150:Obj:=tu #[] 0
def o151(P:Params):Obj:=⟨.type q1,none,.dict #[⟨kh P s37,.str s37 365,.str s38 194⟩,⟨kh P s40,.str s40 369,.int 25 368⟩,⟨kh P s41,.str s41 370,r 150⟩,⟨kh P s5,.str s5 371,.none⟩] 2,#[]⟩
def o152:Obj:=⟨.type q6,none,.cls ⟨s24,[r 31],[r 152,r 31,.type q3,.type q7,.type q8,.type q9],151,s24,true,[],[],false,none,false⟩,#[some (r 143),none,some (.str s24 358),some (.str s24 366),some (.builtin q10),some (.bool true)]⟩
def o153:Obj:=⟨.type q12,none,.fields #[r 152,r 152,r 152],#[]⟩
def o154:Obj:=⟨.type q4,none,.fields #[.builtin q13,r 152],#[]⟩
def o155:Obj:=tu #[] 0
def o156:Obj:=⟨.none,none,.fields #[],#[]⟩
def o157:Obj:=tu #[.str s43 379] 0
def o158:Obj:=tu #[] 0
def o159:Obj:=f0 s25 s25 (topT 14)
def o160:Obj:=co #[.str s25 376,.str s25 377,.str s1 378,i 28,i 1,i 0,i 0,i 3,r 155,.bool true,i 181,r 156,.none,r 157,r 158,r 159,i 380,i 28,.str s1 381]
def o161:Obj:=fo s25 s25 (topT 14) (.str s44 374) (r 160)
def o162:Obj:=tu #[] 0
def o163:Obj:=⟨.none,none,.fields #[],#[]⟩
def o164:Obj:=tu #[.str s45 386,.str s46 387,.str s47 388,.str s48 389,.str s49 390] 0
def o165:Obj:=tu #[] 0
def o166:Obj:=f0 s26 s26 (topT 15)
def o167:Obj:=co #[.str s26 383,.str s26 384,.str s1 385,i 30,i 2,i 0,i 0,i 3,r 162,.bool true,i 181,r 163,.none,r 164,r 165,r 166,i 391,i 30,.str s1 392]
def o168:Obj:=fo s26 s26 (topT 15) (.str s44 374) (r 167)
def o169:Obj:=tu #[] 0
def o170:Obj:=⟨.none,none,.fields #[],#[]⟩
def o171:Obj:=tu #[.str s50 397,.str s51 398] 0
def o172:Obj:=tu #[] 0
def o173:Obj:=f0 s27 s27 (topT 16)
def o174:Obj:=co #[.str s27 394,.str s27 395,.str s1 396,i 38,i 1,i 0,i 0,i 3,r 169,.bool true,i 181,r 170,.none,r 171,r 172,r 173,i 399,i 38,.str s1 400]
def o175:Obj:=fo s27 s27 (topT 16) (.str s44 374) (r 174)
def o176:Obj:=tu #[] 0
def o177:Obj:=⟨.none,none,.fields #[],#[]⟩
def o178:Obj:=f0 s32 s32 (topT 21)
def o179:Obj:=co #[.str s32 410,.str s32 411,.str s1 412,i 51,i 1,i 0,i 0,i 3,r 176,.bool true,i 181,r 177,.none,.none,.none,r 178,i 413,i 51,.str s1 414]
def o180:Obj:=fo s32 s32 (topT 21) (.str s4 402) (r 179)
def o181:Obj:=tu #[] 0
def o182:Obj:=⟨.none,none,.fields #[],#[]⟩
def o183:Obj:=tu #[.str s52 419] 0
def o184:Obj:=tu #[] 0
def o185:Obj:=f0 s33 s33 (topT 22)
def o186:Obj:=co #[.str s33 416,.str s33 417,.str s1 418,i 60,i 1,i 0,i 0,i 3,r 181,.bool true,i 181,r 182,.none,r 183,r 184,r 185,i 420,i 60,.str s1 421]
def o187:Obj:=fo s33 s33 (topT 22) (.str s4 402) (r 186)
def o188:Obj:=tu #[] 0
def o189:Obj:=⟨.none,none,.fields #[],#[]⟩
def o190:Obj:=tu #[.str s52 426] 0
def o191:Obj:=tu #[] 0
def o192:Obj:=f0 s34 s34 (topT 23)
def o193:Obj:=co #[.str s34 423,.str s34 424,.str s1 425,i 64,i 1,i 0,i 0,i 3,r 188,.bool true,i 181,r 189,.none,r 190,r 191,r 192,i 427,i 64,.str s1 428]
def o194:Obj:=fo s34 s34 (topT 23) (.str s4 402) (r 193)
def o195:Obj:=tu #[] 0
def o196:Obj:=⟨.type q4,none,.fields #[.builtin q5,.type q6],#[]⟩
def o197(P:Params):Obj:=⟨.type q1,none,.dict #[⟨kh P s37,.str s37 437,.str s4 402⟩,⟨kh P s39,.str s39 439,.str s35 438⟩,⟨kh P s40,.str s40 441,.int 67 440⟩,⟨kh P s41,.str s41 442,r 202⟩] 4,#[]⟩
def o198:Obj:=tu #[] 0
def o199:Obj:=⟨.none,none,.fields #[],#[]⟩
def o200:Obj:=co #[.str s35 432,.str s35 433,.str s1 434,i 67,i 0,i 0,i 0,i 0,r 198,.bool false,i 181,r 199,.none,.none,.none,.none,i 435,i 67,.str s1 436]
def o201:Obj:=⟨.type q0,none,.plain,#[some (r 200),some (r 3),some (r 197),none,some (.str s4 402),none,some (r 0)]⟩
def o202:Obj:=tu #[] 0
def o203(P:Params):Obj:=⟨.type q1,none,.dict #[⟨kh P s37,.str s37 437,.str s4 402⟩,⟨kh P s40,.str s40 441,.int 67 440⟩,⟨kh P s41,.str s41 442,r 202⟩,⟨kh P s53,.str s53 444,r 205⟩,⟨kh P s42,.str s42 446,r 206⟩,⟨kh P s5,.str s5 447,.none⟩] 4,#[]⟩
def o204_0:Obj:=⟨.type q6,none,.cls ⟨s35,[.type q9],[r 204,.type q9],203,s35,true,[],[],false,none,false⟩,#[none,none,some (.str s35 430),some (.str s35 438),some (.builtin q14),some (.bool true)]⟩
def o205:Obj:=⟨.type q11,none,.fields #[.str s53 443,r 204,.builtin SL.s6511155373996960695x17,.builtin SL.s12411053484034534018x21],#[]⟩
def o206:Obj:=⟨.type q11,none,.fields #[.str s42 445,r 204,.builtin SL.s10220274742760427390x26,.none],#[]⟩
def o207:Obj:=⟨.type q12,none,.fields #[r 204,r 204,r 204],#[]⟩
def o208:Obj:=⟨.type q4,none,.fields #[.builtin q13,r 204],#[]⟩
def o3_1(P:Params):Obj:=⟨.type q1,none,.dict #[⟨kh P s3,.str s3 165,.str s54 933⟩,⟨kh P s5,.str s5 166,.none⟩,⟨kh P s6,.str s6 167,.none⟩,⟨kh P s7,.str s7 168,.builtin q2⟩,⟨kh P s8,.str s8 169,.none⟩,⟨kh P s9,.str s9 170,r 6⟩,⟨kh P s10,.str s10 171,r 4⟩,⟨kh P s11,.str s11 173,.str s1 172⟩,⟨kh P s12,.str s12 174,.none⟩,⟨kh P s13,.str s13 193,r 21⟩,⟨kh P s14,.str s14 213,r 31⟩,⟨kh P s15,.str s15 229,r 44⟩,⟨kh P s16,.str s16 245,r 56⟩,⟨kh P s17,.str s17 261,r 68⟩,⟨kh P s18,.str s18 277,r 80⟩,⟨kh P s19,.str s19 293,r 92⟩,⟨kh P s20,.str s20 309,r 104⟩,⟨kh P s21,.str s21 325,r 116⟩,⟨kh P s22,.str s22 341,r 128⟩,⟨kh P s23,.str s23 357,r 140⟩,⟨kh P s24,.str s24 373,r 152⟩,⟨kh P s25,.str s25 382,r 161⟩,⟨kh P s26,.str s26 393,r 168⟩,⟨kh P s27,.str s27 401,r 175⟩,⟨kh P s28,.str s28 405,.str s29 404⟩,⟨kh P s30,.str s30 407,.int 30 406⟩,⟨kh P s31,.str s31 409,.int 1000000 408⟩,⟨kh P s32,.str s32 415,r 180⟩,⟨kh P s33,.str s33 422,r 187⟩,⟨kh P s34,.str s34 429,r 194⟩,⟨kh P s35,.str s35 449,r 204⟩,⟨kh P s55,.str s55 479,r 232⟩,⟨kh P s56,.str s56 525,r 272⟩,⟨kh P s57,.str s57 623,r 354⟩,⟨kh P s58,.str s58 728,r 443⟩,⟨kh P s59,.str s59 807,r 511⟩,⟨kh P s60,.str s60 886,r 579⟩,⟨kh P s61,.str s61 890,.str s62 889⟩,⟨kh P s63,.str s63 892,.int 3 891⟩,⟨kh P s64,.str s64 894,.int 20 893⟩,⟨kh P s65,.str s65 900,r 586⟩,⟨kh P s66,.str s66 904,.str s67 903⟩,⟨kh P s68,.str s68 910,r 591⟩,⟨kh P s69,.str s69 920,r 598⟩,⟨kh P s70,.str s70 926,r 603⟩,⟨kh P s71,.str s71 932,r 608⟩,⟨kh P s72,.str s72 943,r 615⟩,⟨kh P s73,.str s73 952,r 622⟩,⟨kh P s74,.str s74 961,r 629⟩] 49,#[]⟩
def o12_1:Obj:=⟨.none,none,.fields #[i 1,i 0,r 20,i 5,i 0,r 27,i 7,i 0,r 40,i 9,i 0,r 52,i 11,i 0,r 64,i 13,i 0,r 76,i 15,i 0,r 88,i 17,i 0,r 100,i 19,i 0,r 112,i 21,i 0,r 124,i 23,i 0,r 136,i 25,i 0,r 148,i 28,i 0,r 160,i 30,i 0,r 167,i 38,i 0,r 174,i 51,i 0,r 179,i 60,i 0,r 186,i 64,i 0,r 193,i 67,i 0,r 200,i 69,i 0,r 214,i 76,i 0,r 240,i 89,i 0,r 280,i 132,i 0,r 362,i 171,i 0,r 451,i 199,i 0,r 519,i 233,i 0,r 585,i 239,i 0,r 590,i 243,i 0,r 597,i 248,i 0,r 602,i 255,i 0,r 607,i 268,i 0,r 614,i 275,i 0,r 621,i 284,i 0,r 628],#[]⟩
def o204_1:Obj:=⟨.type q6,none,.cls ⟨s35,[.type q9],[r 204,.type q9],203,s35,true,[],[r 232,r 272],false,none,false⟩,#[none,none,some (.str s35 430),some (.str s35 438),some (.builtin q14),some (.bool true)]⟩
def o209:Obj:=tu #[r 204] 0
def o210:Obj:=⟨.type q4,none,.fields #[.builtin q5,.type q6],#[]⟩
def o211(P:Params):Obj:=⟨.type q1,none,.dict #[⟨kh P s37,.str s37 457,.str s4 402⟩,⟨kh P s39,.str s39 459,.str s55 458⟩,⟨kh P s40,.str s40 461,.int 69 460⟩,⟨kh P s75,.str s75 468,r 222⟩,⟨kh P s76,.str s76 475,r 229⟩,⟨kh P s41,.str s41 476,r 230⟩] 6,#[]⟩
def o212:Obj:=tu #[] 0
def o213:Obj:=⟨.none,none,.fields #[i 71,i 4,r 221,i 74,i 4,r 228],#[]⟩
def o214:Obj:=co #[.str s55 452,.str s55 453,.str s1 454,i 69,i 0,i 0,i 0,i 0,r 212,.bool false,i 181,r 213,.none,.none,.none,.none,i 455,i 69,.str s1 456]
def o215:Obj:=⟨.type q0,none,.plain,#[some (r 214),some (r 3),some (r 211),none,some (.str s4 402),none,some (r 0)]⟩
def o216:Obj:=tu #[] 0
def o217:Obj:=⟨.none,none,.fields #[],#[]⟩
def o218:Obj:=tu #[.str s77 465] 0
def o219:Obj:=tu #[] 0
def o220:Obj:=f0 s75 s78 (L2.a0h (topT 25) 0)
def o221:Obj:=co #[.str s75 462,.str s78 463,.str s1 464,i 71,i 1,i 0,i 0,i 3,r 216,.bool true,i 181,r 217,.none,r 218,r 219,r 220,i 466,i 71,.str s1 467]
def o222:Obj:=fo s75 s78 (L2.a0h (topT 25) 0) (.str s4 402) (r 221)
def o223:Obj:=tu #[] 0
def o224:Obj:=⟨.none,none,.fields #[],#[]⟩
def o225:Obj:=tu #[.str s77 472] 0
def o226:Obj:=tu #[] 0
def o227:Obj:=f0 s76 s79 (L2.a0h (topT 25) 1)
def o228:Obj:=co #[.str s76 469,.str s79 470,.str s1 471,i 74,i 1,i 0,i 0,i 3,r 223,.bool true,i 181,r 224,.none,r 225,r 226,r 227,i 473,i 74,.str s1 474]
def o229:Obj:=fo s76 s79 (L2.a0h (topT 25) 1) (.str s4 402) (r 228)
def o230:Obj:=tu #[] 0
def o231(P:Params):Obj:=⟨.type q1,none,.dict #[⟨kh P s37,.str s37 457,.str s4 402⟩,⟨kh P s40,.str s40 461,.int 69 460⟩,⟨kh P s75,.str s75 468,r 222⟩,⟨kh P s76,.str s76 475,r 229⟩,⟨kh P s41,.str s41 476,r 230⟩,⟨kh P s5,.str s5 477,.none⟩] 2,#[]⟩
def o232:Obj:=⟨.type q6,none,.cls ⟨s55,[r 204],[r 232,r 204,.type q9],231,s55,true,[],[r 354,r 443],false,none,false⟩,#[some (r 209),none,some (.str s55 450),some (.str s55 458),some (.builtin q14),some (.bool true)]⟩
def o233:Obj:=⟨.type q12,none,.fields #[r 232,r 232,r 232],#[]⟩
def o234:Obj:=⟨.type q4,none,.fields #[.builtin q13,r 232],#[]⟩
def o235:Obj:=tu #[r 204] 0
def o236:Obj:=⟨.type q4,none,.fields #[.builtin q5,.type q6],#[]⟩
def o237(P:Params):Obj:=⟨.type q1,none,.dict #[⟨kh P s37,.str s37 487,.str s4 402⟩,⟨kh P s39,.str s39 489,.str s56 488⟩,⟨kh P s40,.str s40 491,.int 76 490⟩,⟨kh P s75,.str s75 498,r 248⟩,⟨kh P s76,.str s76 505,r 255⟩,⟨kh P s80,.str s80 513,r 262⟩,⟨kh P s81,.str s81 521,r 269⟩,⟨kh P s41,.str s41 522,r 270⟩] 8,#[]⟩
def o238:Obj:=tu #[] 0
def o239:Obj:=⟨.none,none,.fields #[i 78,i 4,r 247,i 81,i 4,r 254,i 84,i 4,r 261,i 87,i 4,r 268],#[]⟩
def o240:Obj:=co #[.str s56 482,.str s56 483,.str s1 484,i 76,i 0,i 0,i 0,i 0,r 238,.bool false,i 181,r 239,.none,.none,.none,.none,i 485,i 76,.str s1 486]
def o241:Obj:=⟨.type q0,none,.plain,#[some (r 240),some (r 3),some (r 237),none,some (.str s4 402),none,some (r 0)]⟩
def o242:Obj:=tu #[] 0
def o243:Obj:=⟨.none,none,.fields #[],#[]⟩
def o244:Obj:=tu #[.str s77 495] 0
def o245:Obj:=tu #[] 0
def o246:Obj:=f0 s75 s82 (L2.a0h (topT 26) 0)
def o247:Obj:=co #[.str s75 492,.str s82 493,.str s1 494,i 78,i 1,i 0,i 0,i 3,r 242,.bool true,i 181,r 243,.none,r 244,r 245,r 246,i 496,i 78,.str s1 497]
def o248:Obj:=fo s75 s82 (L2.a0h (topT 26) 0) (.str s4 402) (r 247)
def o249:Obj:=tu #[] 0
def o250:Obj:=⟨.none,none,.fields #[],#[]⟩
def o251:Obj:=tu #[.str s77 502] 0
def o252:Obj:=tu #[] 0
def o253:Obj:=f0 s76 s83 (L2.a0h (topT 26) 1)
def o254:Obj:=co #[.str s76 499,.str s83 500,.str s1 501,i 81,i 1,i 0,i 0,i 3,r 249,.bool true,i 181,r 250,.none,r 251,r 252,r 253,i 503,i 81,.str s1 504]
def o255:Obj:=fo s76 s83 (L2.a0h (topT 26) 1) (.str s4 402) (r 254)
def o256:Obj:=tu #[] 0
def o257:Obj:=⟨.none,none,.fields #[],#[]⟩
def o258:Obj:=tu #[.str s77 509,.str s84 510] 0
def o259:Obj:=tu #[] 0
def o260:Obj:=f0 s80 s85 (L2.a0h (topT 26) 2)
def o261:Obj:=co #[.str s80 506,.str s85 507,.str s1 508,i 84,i 2,i 0,i 0,i 3,r 256,.bool true,i 181,r 257,.none,r 258,r 259,r 260,i 511,i 84,.str s1 512]
def o262:Obj:=fo s80 s85 (L2.a0h (topT 26) 2) (.str s4 402) (r 261)
def o263:Obj:=tu #[] 0
def o264:Obj:=⟨.none,none,.fields #[],#[]⟩
def o265:Obj:=tu #[.str s77 517,.str s84 518] 0
def o266:Obj:=tu #[] 0
def o267:Obj:=f0 s81 s86 (L2.a0h (topT 26) 3)
def o268:Obj:=co #[.str s81 514,.str s86 515,.str s1 516,i 87,i 2,i 0,i 0,i 3,r 263,.bool true,i 181,r 264,.none,r 265,r 266,r 267,i 519,i 87,.str s1 520]
def o269:Obj:=fo s81 s86 (L2.a0h (topT 26) 3) (.str s4 402) (r 268)
def o270:Obj:=tu #[] 0
def o271(P:Params):Obj:=⟨.type q1,none,.dict #[⟨kh P s37,.str s37 487,.str s4 402⟩,⟨kh P s40,.str s40 491,.int 76 490⟩,⟨kh P s75,.str s75 498,r 248⟩,⟨kh P s76,.str s76 505,r 255⟩,⟨kh P s80,.str s80 513,r 262⟩,⟨kh P s81,.str s81 521,r 269⟩,⟨kh P s41,.str s41 522,r 270⟩,⟨kh P s5,.str s5 523,.none⟩] 2,#[]⟩
def o272:Obj:=⟨.type q6,none,.cls ⟨s56,[r 204],[r 272,r 204,.type q9],271,s56,true,[],[r 511,r 579],false,none,false⟩,#[some (r 235),none,some (.str s56 480),some (.str s56 488),some (.builtin q14),some (.bool true)]⟩
def o273:Obj:=⟨.type q12,none,.fields #[r 272,r 272,r 272],#[]⟩
def o274:Obj:=⟨.type q4,none,.fields #[.builtin q13,r 272],#[]⟩
def o275:Obj:=tu #[r 232] 0
def o276:Obj:=⟨.type q4,none,.fields #[.builtin q5,.type q6],#[]⟩
def o277(P:Params):Obj:=⟨.type q1,none,.dict #[⟨kh P s37,.str s37 533,.str s4 402⟩,⟨kh P s39,.str s39 535,.str s57 534⟩,⟨kh P s40,.str s40 537,.int 89 536⟩,⟨kh P s87,.str s87 544,r 288⟩,⟨kh P s88,.str s88 551,r 295⟩,⟨kh P s45,.str s45 558,r 302⟩,⟨kh P s89,.str s89 567,r 309⟩,⟨kh P s90,.str s90 576,r 316⟩,⟨kh P s80,.str s80 584,r 323⟩,⟨kh P s81,.str s81 592,r 330⟩,⟨kh P s91,.str s91 600,r 337⟩,⟨kh P s92,.str s92 608,r 344⟩,⟨kh P s93,.str s93 619,r 351⟩,⟨kh P s41,.str s41 620,r 352⟩] 14,#[]⟩
def o278:Obj:=tu #[] 0
def o279:Obj:=⟨.none,none,.fields #[i 91,i 4,r 287,i 94,i 4,r 294,i 97,i 4,r 301,i 100,i 4,r 308,i 103,i 4,r 315,i 106,i 4,r 322,i 109,i 4,r 329,i 112,i 4,r 336,i 119,i 4,r 343,i 122,i 4,r 350],#[]⟩
def o280:Obj:=co #[.str s57 528,.str s57 529,.str s1 530,i 89,i 0,i 0,i 0,i 0,r 278,.bool false,i 181,r 279,.none,.none,.none,.none,i 531,i 89,.str s1 532]
def o281:Obj:=⟨.type q0,none,.plain,#[some (r 280),some (r 3),some (r 277),none,some (.str s4 402),none,some (r 0)]⟩
def o282:Obj:=tu #[] 0
def o283:Obj:=⟨.none,none,.fields #[],#[]⟩
def o284:Obj:=tu #[.str s77 541] 0
def o285:Obj:=tu #[] 0
def o286:Obj:=f0 s87 s94 (L2.a0h (topT 27) 0)
def o287:Obj:=co #[.str s87 538,.str s94 539,.str s1 540,i 91,i 1,i 0,i 0,i 3,r 282,.bool true,i 181,r 283,.none,r 284,r 285,r 286,i 542,i 91,.str s1 543]
def o288:Obj:=fo s87 s94 (L2.a0h (topT 27) 0) (.str s4 402) (r 287)
def o289:Obj:=tu #[] 0
def o290:Obj:=⟨.none,none,.fields #[],#[]⟩
def o291:Obj:=tu #[.str s77 548] 0
def o292:Obj:=tu #[] 0
def o293:Obj:=f0 s88 s95 (L2.a0h (topT 27) 1)
def o294:Obj:=co #[.str s88 545,.str s95 546,.str s1 547,i 94,i 1,i 0,i 0,i 3,r 289,.bool true,i 181,r 290,.none,r 291,r 292,r 293,i 549,i 94,.str s1 550]
def o295:Obj:=fo s88 s95 (L2.a0h (topT 27) 1) (.str s4 402) (r 294)
def o296:Obj:=tu #[] 0
def o297:Obj:=⟨.none,none,.fields #[],#[]⟩
def o298:Obj:=tu #[.str s77 555] 0
def o299:Obj:=tu #[] 0
def o300:Obj:=f0 s45 s96 (L2.a0h (topT 27) 2)
def o301:Obj:=co #[.str s45 552,.str s96 553,.str s1 554,i 97,i 1,i 0,i 0,i 3,r 296,.bool true,i 181,r 297,.none,r 298,r 299,r 300,i 556,i 97,.str s1 557]
def o302:Obj:=fo s45 s96 (L2.a0h (topT 27) 2) (.str s4 402) (r 301)
def o303:Obj:=tu #[] 0
def o304:Obj:=⟨.none,none,.fields #[],#[]⟩
def o305:Obj:=tu #[.str s77 562,.str s84 563,.str s97 564] 0
def o306:Obj:=tu #[] 0
def o307:Obj:=f0 s89 s98 (L2.a0h (topT 27) 3)
def o308:Obj:=co #[.str s89 559,.str s98 560,.str s1 561,i 100,i 3,i 0,i 0,i 3,r 303,.bool true,i 181,r 304,.none,r 305,r 306,r 307,i 565,i 100,.str s1 566]
def o309:Obj:=fo s89 s98 (L2.a0h (topT 27) 3) (.str s4 402) (r 308)
def o310:Obj:=tu #[] 0
def o311:Obj:=⟨.none,none,.fields #[],#[]⟩
def o312:Obj:=tu #[.str s77 571,.str s84 572,.str s97 573] 0
def o313:Obj:=tu #[] 0
def o314:Obj:=f0 s90 s99 (L2.a0h (topT 27) 4)
def o315:Obj:=co #[.str s90 568,.str s99 569,.str s1 570,i 103,i 3,i 0,i 0,i 3,r 310,.bool true,i 181,r 311,.none,r 312,r 313,r 314,i 574,i 103,.str s1 575]
def o316:Obj:=fo s90 s99 (L2.a0h (topT 27) 4) (.str s4 402) (r 315)
def o317:Obj:=tu #[] 0
def o318:Obj:=⟨.none,none,.fields #[],#[]⟩
def o319:Obj:=tu #[.str s77 580,.str s84 581] 0
def o320:Obj:=tu #[] 0
def o321:Obj:=f0 s80 s100 (L2.a0h (topT 27) 5)
def o322:Obj:=co #[.str s80 577,.str s100 578,.str s1 579,i 106,i 2,i 0,i 0,i 3,r 317,.bool true,i 181,r 318,.none,r 319,r 320,r 321,i 582,i 106,.str s1 583]
def o323:Obj:=fo s80 s100 (L2.a0h (topT 27) 5) (.str s4 402) (r 322)
def o324:Obj:=tu #[] 0
def o325:Obj:=⟨.none,none,.fields #[],#[]⟩
def o326:Obj:=tu #[.str s77 588,.str s84 589] 0
def o327:Obj:=tu #[] 0
def o328:Obj:=f0 s81 s101 (L2.a0h (topT 27) 6)
def o329:Obj:=co #[.str s81 585,.str s101 586,.str s1 587,i 109,i 2,i 0,i 0,i 3,r 324,.bool true,i 181,r 325,.none,r 326,r 327,r 328,i 590,i 109,.str s1 591]
def o330:Obj:=fo s81 s101 (L2.a0h (topT 27) 6) (.str s4 402) (r 329)
def o331:Obj:=tu #[] 0
def o332:Obj:=⟨.none,none,.fields #[],#[]⟩
def o333:Obj:=tu #[.str s77 596,.str s43 597] 0
def o334:Obj:=tu #[] 0
def o335:Obj:=f0 s91 s102 (L2.a0h (topT 27) 7)
def o336:Obj:=co #[.str s91 593,.str s102 594,.str s1 595,i 112,i 2,i 0,i 0,i 3,r 331,.bool true,i 181,r 332,.none,r 333,r 334,r 335,i 598,i 112,.str s1 599]
def o337:Obj:=fo s91 s102 (L2.a0h (topT 27) 7) (.str s4 402) (r 336)
def o338:Obj:=tu #[] 0
def o339:Obj:=⟨.none,none,.fields #[],#[]⟩
def o340:Obj:=tu #[.str s77 604,.str s84 605] 0
def o341:Obj:=tu #[] 0
def o342:Obj:=f0 s92 s103 (L2.a0h (topT 27) 8)
def o343:Obj:=co #[.str s92 601,.str s103 602,.str s1 603,i 119,i 2,i 0,i 0,i 3,r 338,.bool true,i 181,r 339,.none,r 340,r 341,r 342,i 606,i 119,.str s1 607]
def o344:Obj:=fo s92 s103 (L2.a0h (topT 27) 8) (.str s4 402) (r 343)
def o345:Obj:=tu #[] 0
def o346:Obj:=⟨.none,none,.fields #[],#[]⟩
def o347:Obj:=tu #[.str s77 612,.str s52 613,.str s104 614,.str s105 615,.str s106 616] 0
def o348:Obj:=tu #[] 0
def o349:Obj:=f0 s93 s107 (L2.a0h (topT 27) 9)
def o350:Obj:=co #[.str s93 609,.str s107 610,.str s1 611,i 122,i 2,i 0,i 0,i 3,r 345,.bool true,i 181,r 346,.none,r 347,r 348,r 349,i 617,i 122,.str s1 618]
def o351:Obj:=fo s93 s107 (L2.a0h (topT 27) 9) (.str s4 402) (r 350)
def o352:Obj:=tu #[] 0
def o353(P:Params):Obj:=⟨.type q1,none,.dict #[⟨kh P s37,.str s37 533,.str s4 402⟩,⟨kh P s40,.str s40 537,.int 89 536⟩,⟨kh P s87,.str s87 544,r 288⟩,⟨kh P s88,.str s88 551,r 295⟩,⟨kh P s45,.str s45 558,r 302⟩,⟨kh P s89,.str s89 567,r 309⟩,⟨kh P s90,.str s90 576,r 316⟩,⟨kh P s80,.str s80 584,r 323⟩,⟨kh P s81,.str s81 592,r 330⟩,⟨kh P s91,.str s91 600,r 337⟩,⟨kh P s92,.str s92 608,r 344⟩,⟨kh P s93,.str s93 619,r 351⟩,⟨kh P s41,.str s41 620,r 352⟩,⟨kh P s5,.str s5 621,.none⟩] 2,#[]⟩
def o354:Obj:=⟨.type q6,none,.cls ⟨s57,[r 232],[r 354,r 232,r 204,.type q9],353,s57,true,[],[],false,none,false⟩,#[some (r 275),none,some (.str s57 526),some (.str s57 534),some (.builtin q14),some (.bool true)]⟩
def o355:Obj:=⟨.type q12,none,.fields #[r 354,r 354,r 354],#[]⟩
def o356:Obj:=⟨.type q4,none,.fields #[.builtin q13,r 354],#[]⟩
def o357:Obj:=tu #[r 232] 0
def o358:Obj:=⟨.type q4,none,.fields #[.builtin q5,.type q6],#[]⟩
def o359(P:Params):Obj:=⟨.type q1,none,.dict #[⟨kh P s37,.str s37 631,.str s4 402⟩,⟨kh P s39,.str s39 633,.str s58 632⟩,⟨kh P s40,.str s40 635,.int 132 634⟩,⟨kh P s108,.str s108 643,r 370⟩,⟨kh P s87,.str s87 650,r 377⟩,⟨kh P s88,.str s88 657,r 384⟩,⟨kh P s45,.str s45 664,r 391⟩,⟨kh P s89,.str s89 673,r 398⟩,⟨kh P s90,.str s90 682,r 405⟩,⟨kh P s80,.str s80 690,r 412⟩,⟨kh P s81,.str s81 698,r 419⟩,⟨kh P s91,.str s91 706,r 426⟩,⟨kh P s92,.str s92 714,r 433⟩,⟨kh P s93,.str s93 723,r 440⟩,⟨kh P s41,.str s41 725,r 441⟩] 15,#[]⟩
def o360:Obj:=tu #[] 0
def o361:Obj:=⟨.none,none,.fields #[i 134,i 4,r 369,i 139,i 4,r 376,i 142,i 4,r 383,i 145,i 4,r 390,i 148,i 4,r 397,i 151,i 4,r 404,i 154,i 4,r 411,i 157,i 4,r 418,i 160,i 4,r 425,i 163,i 4,r 432,i 166,i 4,r 439],#[]⟩
def o362:Obj:=co #[.str s58 626,.str s58 627,.str s1 628,i 132,i 0,i 0,i 0,i 0,r 360,.bool false,i 181,r 361,.none,.none,.none,.none,i 629,i 132,.str s1 630]
def o363:Obj:=⟨.type q0,none,.plain,#[some (r 362),some (r 3),some (r 359),none,some (.str s4 402),none,some (r 0)]⟩
def o364:Obj:=tu #[] 0
def o365:Obj:=⟨.none,none,.fields #[],#[]⟩
def o366:Obj:=tu #[.str s77 639,.str s109 640] 0
def o367:Obj:=tu #[] 0
def o368:Obj:=f0 s108 s110 (L2.a0h (topT 28) 0)
def o369:Obj:=co #[.str s108 636,.str s110 637,.str s1 638,i 134,i 2,i 0,i 0,i 3,r 364,.bool true,i 181,r 365,.none,r 366,r 367,r 368,i 641,i 134,.str s1 642]
def o370:Obj:=fo s108 s110 (L2.a0h (topT 28) 0) (.str s4 402) (r 369)
def o371:Obj:=tu #[] 0
def o372:Obj:=⟨.none,none,.fields #[],#[]⟩
def o373:Obj:=tu #[.str s77 647] 0
def o374:Obj:=tu #[] 0
def o375:Obj:=f0 s87 s111 (L2.a0h (topT 28) 1)
def o376:Obj:=co #[.str s87 644,.str s111 645,.str s1 646,i 139,i 1,i 0,i 0,i 3,r 371,.bool true,i 181,r 372,.none,r 373,r 374,r 375,i 648,i 139,.str s1 649]
def o377:Obj:=fo s87 s111 (L2.a0h (topT 28) 1) (.str s4 402) (r 376)
def o378:Obj:=tu #[] 0
def o379:Obj:=⟨.none,none,.fields #[],#[]⟩
def o380:Obj:=tu #[.str s77 654] 0
def o381:Obj:=tu #[] 0
def o382:Obj:=f0 s88 s112 (L2.a0h (topT 28) 2)
def o383:Obj:=co #[.str s88 651,.str s112 652,.str s1 653,i 142,i 1,i 0,i 0,i 3,r 378,.bool true,i 181,r 379,.none,r 380,r 381,r 382,i 655,i 142,.str s1 656]
def o384:Obj:=fo s88 s112 (L2.a0h (topT 28) 2) (.str s4 402) (r 383)
def o385:Obj:=tu #[] 0
def o386:Obj:=⟨.none,none,.fields #[],#[]⟩
def o387:Obj:=tu #[.str s77 661] 0
def o388:Obj:=tu #[] 0
def o389:Obj:=f0 s45 s113 (L2.a0h (topT 28) 3)
def o390:Obj:=co #[.str s45 658,.str s113 659,.str s1 660,i 145,i 1,i 0,i 0,i 3,r 385,.bool true,i 181,r 386,.none,r 387,r 388,r 389,i 662,i 145,.str s1 663]
def o391:Obj:=fo s45 s113 (L2.a0h (topT 28) 3) (.str s4 402) (r 390)
def o392:Obj:=tu #[] 0
def o393:Obj:=⟨.none,none,.fields #[],#[]⟩
def o394:Obj:=tu #[.str s77 668,.str s84 669,.str s97 670] 0
def o395:Obj:=tu #[] 0
def o396:Obj:=f0 s89 s114 (L2.a0h (topT 28) 4)
def o397:Obj:=co #[.str s89 665,.str s114 666,.str s1 667,i 148,i 3,i 0,i 0,i 3,r 392,.bool true,i 181,r 393,.none,r 394,r 395,r 396,i 671,i 148,.str s1 672]
def o398:Obj:=fo s89 s114 (L2.a0h (topT 28) 4) (.str s4 402) (r 397)
def o399:Obj:=tu #[] 0
def o400:Obj:=⟨.none,none,.fields #[],#[]⟩
def o401:Obj:=tu #[.str s77 677,.str s84 678,.str s97 679] 0
def o402:Obj:=tu #[] 0
def o403:Obj:=f0 s90 s115 (L2.a0h (topT 28) 5)
def o404:Obj:=co #[.str s90 674,.str s115 675,.str s1 676,i 151,i 3,i 0,i 0,i 3,r 399,.bool true,i 181,r 400,.none,r 401,r 402,r 403,i 680,i 151,.str s1 681]
def o405:Obj:=fo s90 s115 (L2.a0h (topT 28) 5) (.str s4 402) (r 404)
def o406:Obj:=tu #[] 0
def o407:Obj:=⟨.none,none,.fields #[],#[]⟩
def o408:Obj:=tu #[.str s77 686,.str s84 687] 0
def o409:Obj:=tu #[] 0
def o410:Obj:=f0 s80 s116 (L2.a0h (topT 28) 6)
def o411:Obj:=co #[.str s80 683,.str s116 684,.str s1 685,i 154,i 2,i 0,i 0,i 3,r 406,.bool true,i 181,r 407,.none,r 408,r 409,r 410,i 688,i 154,.str s1 689]
def o412:Obj:=fo s80 s116 (L2.a0h (topT 28) 6) (.str s4 402) (r 411)
def o413:Obj:=tu #[] 0
def o414:Obj:=⟨.none,none,.fields #[],#[]⟩
def o415:Obj:=tu #[.str s77 694,.str s84 695] 0
def o416:Obj:=tu #[] 0
def o417:Obj:=f0 s81 s117 (L2.a0h (topT 28) 7)
def o418:Obj:=co #[.str s81 691,.str s117 692,.str s1 693,i 157,i 2,i 0,i 0,i 3,r 413,.bool true,i 181,r 414,.none,r 415,r 416,r 417,i 696,i 157,.str s1 697]
def o419:Obj:=fo s81 s117 (L2.a0h (topT 28) 7) (.str s4 402) (r 418)
def o420:Obj:=tu #[] 0
def o421:Obj:=⟨.none,none,.fields #[],#[]⟩
def o422:Obj:=tu #[.str s77 702,.str s43 703] 0
def o423:Obj:=tu #[] 0
def o424:Obj:=f0 s91 s118 (L2.a0h (topT 28) 8)
def o425:Obj:=co #[.str s91 699,.str s118 700,.str s1 701,i 160,i 2,i 0,i 0,i 3,r 420,.bool true,i 181,r 421,.none,r 422,r 423,r 424,i 704,i 160,.str s1 705]
def o426:Obj:=fo s91 s118 (L2.a0h (topT 28) 8) (.str s4 402) (r 425)
def o427:Obj:=tu #[] 0
def o428:Obj:=⟨.none,none,.fields #[],#[]⟩
def o429:Obj:=tu #[.str s77 710,.str s84 711] 0
def o430:Obj:=tu #[] 0
def o431:Obj:=f0 s92 s119 (L2.a0h (topT 28) 9)
def o432:Obj:=co #[.str s92 707,.str s119 708,.str s1 709,i 163,i 2,i 0,i 0,i 3,r 427,.bool true,i 181,r 428,.none,r 429,r 430,r 431,i 712,i 163,.str s1 713]
def o433:Obj:=fo s92 s119 (L2.a0h (topT 28) 9) (.str s4 402) (r 432)
def o434:Obj:=tu #[] 0
def o435:Obj:=⟨.none,none,.fields #[],#[]⟩
def o436:Obj:=tu #[.str s77 718,.str s52 719,.str s50 720] 0
def o437:Obj:=tu #[] 0
def o438:Obj:=f0 s93 s120 (L2.a0h (topT 28) 10)
def o439:Obj:=co #[.str s93 715,.str s120 716,.str s1 717,i 166,i 2,i 0,i 0,i 3,r 434,.bool true,i 181,r 435,.none,r 436,r 437,r 438,i 721,i 166,.str s1 722]
def o440:Obj:=fo s93 s120 (L2.a0h (topT 28) 10) (.str s4 402) (r 439)
def o441:Obj:=tu #[.str s109 724] 0
def o442(P:Params):Obj:=⟨.type q1,none,.dict #[⟨kh P s37,.str s37 631,.str s4 402⟩,⟨kh P s40,.str s40 635,.int 132 634⟩,⟨kh P s108,.str s108 643,r 370⟩,⟨kh P s87,.str s87 650,r 377⟩,⟨kh P s88,.str s88 657,r 384⟩,⟨kh P s45,.str s45 664,r 391⟩,⟨kh P s89,.str s89 673,r 398⟩,⟨kh P s90,.str s90 682,r 405⟩,⟨kh P s80,.str s80 690,r 412⟩,⟨kh P s81,.str s81 698,r 419⟩,⟨kh P s91,.str s91 706,r 426⟩,⟨kh P s92,.str s92 714,r 433⟩,⟨kh P s93,.str s93 723,r 440⟩,⟨kh P s41,.str s41 725,r 441⟩,⟨kh P s5,.str s5 726,.none⟩] 2,#[]⟩
def o443:Obj:=⟨.type q6,none,.cls ⟨s58,[r 232],[r 443,r 232,r 204,.type q9],442,s58,true,[],[],false,none,false⟩,#[some (r 357),none,some (.str s58 624),some (.str s58 632),some (.builtin q14),some (.bool true)]⟩
def o444:Obj:=⟨.type q12,none,.fields #[r 443,r 443,r 443],#[]⟩
def o445:Obj:=⟨.type q4,none,.fields #[.builtin q13,r 443],#[]⟩
def o446:Obj:=tu #[r 272] 0
def o447:Obj:=⟨.type q4,none,.fields #[.builtin q5,.type q6],#[]⟩
def o448(P:Params):Obj:=⟨.type q1,none,.dict #[⟨kh P s37,.str s37 736,.str s4 402⟩,⟨kh P s39,.str s39 738,.str s59 737⟩,⟨kh P s40,.str s40 740,.int 171 739⟩,⟨kh P s87,.str s87 747,r 459⟩,⟨kh P s88,.str s88 754,r 466⟩,⟨kh P s45,.str s45 761,r 473⟩,⟨kh P s89,.str s89 770,r 480⟩,⟨kh P s90,.str s90 779,r 487⟩,⟨kh P s91,.str s91 787,r 494⟩,⟨kh P s92,.str s92 795,r 501⟩,⟨kh P s93,.str s93 803,r 508⟩,⟨kh P s41,.str s41 804,r 509⟩] 12,#[]⟩
def o449:Obj:=tu #[] 0
def o450:Obj:=⟨.none,none,.fields #[i 173,i 4,r 458,i 176,i 4,r 465,i 179,i 4,r 472,i 182,i 4,r 479,i 185,i 4,r 486,i 188,i 4,r 493,i 191,i 4,r 500,i 194,i 4,r 507],#[]⟩
def o451:Obj:=co #[.str s59 731,.str s59 732,.str s1 733,i 171,i 0,i 0,i 0,i 0,r 449,.bool false,i 181,r 450,.none,.none,.none,.none,i 734,i 171,.str s1 735]
def o452:Obj:=⟨.type q0,none,.plain,#[some (r 451),some (r 3),some (r 448),none,some (.str s4 402),none,some (r 0)]⟩
def o453:Obj:=tu #[] 0
def o454:Obj:=⟨.none,none,.fields #[],#[]⟩
def o455:Obj:=tu #[.str s77 744] 0
def o456:Obj:=tu #[] 0
def o457:Obj:=f0 s87 s121 (L2.a0h (topT 29) 0)
def o458:Obj:=co #[.str s87 741,.str s121 742,.str s1 743,i 173,i 1,i 0,i 0,i 3,r 453,.bool true,i 181,r 454,.none,r 455,r 456,r 457,i 745,i 173,.str s1 746]
def o459:Obj:=fo s87 s121 (L2.a0h (topT 29) 0) (.str s4 402) (r 458)
def o460:Obj:=tu #[] 0
def o461:Obj:=⟨.none,none,.fields #[],#[]⟩
def o462:Obj:=tu #[.str s77 751] 0
def o463:Obj:=tu #[] 0
def o464:Obj:=f0 s88 s122 (L2.a0h (topT 29) 1)
def o465:Obj:=co #[.str s88 748,.str s122 749,.str s1 750,i 176,i 1,i 0,i 0,i 3,r 460,.bool true,i 181,r 461,.none,r 462,r 463,r 464,i 752,i 176,.str s1 753]
def o466:Obj:=fo s88 s122 (L2.a0h (topT 29) 1) (.str s4 402) (r 465)
def o467:Obj:=tu #[] 0
def o468:Obj:=⟨.none,none,.fields #[],#[]⟩
def o469:Obj:=tu #[.str s77 758] 0
def o470:Obj:=tu #[] 0
def o471:Obj:=f0 s45 s123 (L2.a0h (topT 29) 2)
def o472:Obj:=co #[.str s45 755,.str s123 756,.str s1 757,i 179,i 1,i 0,i 0,i 3,r 467,.bool true,i 181,r 468,.none,r 469,r 470,r 471,i 759,i 179,.str s1 760]
def o473:Obj:=fo s45 s123 (L2.a0h (topT 29) 2) (.str s4 402) (r 472)
def o474:Obj:=tu #[] 0
def o475:Obj:=⟨.none,none,.fields #[],#[]⟩
def o476:Obj:=tu #[.str s77 765,.str s84 766,.str s97 767] 0
def o477:Obj:=tu #[] 0
def o478:Obj:=f0 s89 s124 (L2.a0h (topT 29) 3)
def o479:Obj:=co #[.str s89 762,.str s124 763,.str s1 764,i 182,i 3,i 0,i 0,i 3,r 474,.bool true,i 181,r 475,.none,r 476,r 477,r 478,i 768,i 182,.str s1 769]
def o480:Obj:=fo s89 s124 (L2.a0h (topT 29) 3) (.str s4 402) (r 479)
def o481:Obj:=tu #[] 0
def o482:Obj:=⟨.none,none,.fields #[],#[]⟩
def o483:Obj:=tu #[.str s77 774,.str s84 775,.str s97 776] 0
def o484:Obj:=tu #[] 0
def o485:Obj:=f0 s90 s125 (L2.a0h (topT 29) 4)
def o486:Obj:=co #[.str s90 771,.str s125 772,.str s1 773,i 185,i 3,i 0,i 0,i 3,r 481,.bool true,i 181,r 482,.none,r 483,r 484,r 485,i 777,i 185,.str s1 778]
def o487:Obj:=fo s90 s125 (L2.a0h (topT 29) 4) (.str s4 402) (r 486)
def o488:Obj:=tu #[] 0
def o489:Obj:=⟨.none,none,.fields #[],#[]⟩
def o490:Obj:=tu #[.str s77 783,.str s43 784] 0
def o491:Obj:=tu #[] 0
def o492:Obj:=f0 s91 s126 (L2.a0h (topT 29) 5)
def o493:Obj:=co #[.str s91 780,.str s126 781,.str s1 782,i 188,i 2,i 0,i 0,i 3,r 488,.bool true,i 181,r 489,.none,r 490,r 491,r 492,i 785,i 188,.str s1 786]
def o494:Obj:=fo s91 s126 (L2.a0h (topT 29) 5) (.str s4 402) (r 493)
def o495:Obj:=tu #[] 0
def o496:Obj:=⟨.none,none,.fields #[],#[]⟩
def o497:Obj:=tu #[.str s77 791,.str s84 792] 0
def o498:Obj:=tu #[] 0
def o499:Obj:=f0 s92 s127 (L2.a0h (topT 29) 6)
def o500:Obj:=co #[.str s92 788,.str s127 789,.str s1 790,i 191,i 2,i 0,i 0,i 3,r 495,.bool true,i 181,r 496,.none,r 497,r 498,r 499,i 793,i 191,.str s1 794]
def o501:Obj:=fo s92 s127 (L2.a0h (topT 29) 6) (.str s4 402) (r 500)
def o502:Obj:=tu #[] 0
def o503:Obj:=⟨.none,none,.fields #[],#[]⟩
def o504:Obj:=tu #[.str s77 799,.str s52 800] 0
def o505:Obj:=tu #[] 0
def o506:Obj:=f0 s93 s128 (L2.a0h (topT 29) 7)
def o507:Obj:=co #[.str s93 796,.str s128 797,.str s1 798,i 194,i 2,i 0,i 0,i 3,r 502,.bool true,i 181,r 503,.none,r 504,r 505,r 506,i 801,i 194,.str s1 802]
def o508:Obj:=fo s93 s128 (L2.a0h (topT 29) 7) (.str s4 402) (r 507)
def o509:Obj:=tu #[] 0
def o510(P:Params):Obj:=⟨.type q1,none,.dict #[⟨kh P s37,.str s37 736,.str s4 402⟩,⟨kh P s40,.str s40 740,.int 171 739⟩,⟨kh P s87,.str s87 747,r 459⟩,⟨kh P s88,.str s88 754,r 466⟩,⟨kh P s45,.str s45 761,r 473⟩,⟨kh P s89,.str s89 770,r 480⟩,⟨kh P s90,.str s90 779,r 487⟩,⟨kh P s91,.str s91 787,r 494⟩,⟨kh P s92,.str s92 795,r 501⟩,⟨kh P s93,.str s93 803,r 508⟩,⟨kh P s41,.str s41 804,r 509⟩,⟨kh P s5,.str s5 805,.none⟩] 2,#[]⟩
def o511:Obj:=⟨.type q6,none,.cls ⟨s59,[r 272],[r 511,r 272,r 204,.type q9],510,s59,true,[],[],false,none,false⟩,#[some (r 446),none,some (.str s59 729),some (.str s59 737),some (.builtin q14),some (.bool true)]⟩
def o512:Obj:=⟨.type q12,none,.fields #[r 511,r 511,r 511],#[]⟩
def o513:Obj:=⟨.type q4,none,.fields #[.builtin q13,r 511],#[]⟩
def o514:Obj:=tu #[r 272] 0
def o515:Obj:=⟨.type q4,none,.fields #[.builtin q5,.type q6],#[]⟩
def o516(P:Params):Obj:=⟨.type q1,none,.dict #[⟨kh P s37,.str s37 815,.str s4 402⟩,⟨kh P s39,.str s39 817,.str s60 816⟩,⟨kh P s40,.str s40 819,.int 199 818⟩,⟨kh P s87,.str s87 826,r 527⟩,⟨kh P s88,.str s88 833,r 534⟩,⟨kh P s45,.str s45 840,r 541⟩,⟨kh P s89,.str s89 849,r 548⟩,⟨kh P s90,.str s90 858,r 555⟩,⟨kh P s91,.str s91 866,r 562⟩,⟨kh P s92,.str s92 874,r 569⟩,⟨kh P s93,.str s93 882,r 576⟩,⟨kh P s41,.str s41 883,r 577⟩] 12,#[]⟩
def o517:Obj:=tu #[] 0
def o518:Obj:=⟨.none,none,.fields #[i 201,i 4,r 526,i 204,i 4,r 533,i 207,i 4,r 540,i 210,i 4,r 547,i 213,i 4,r 554,i 216,i 4,r 561,i 219,i 4,r 568,i 222,i 4,r 575],#[]⟩
def o519:Obj:=co #[.str s60 810,.str s60 811,.str s1 812,i 199,i 0,i 0,i 0,i 0,r 517,.bool false,i 181,r 518,.none,.none,.none,.none,i 813,i 199,.str s1 814]
def o520:Obj:=⟨.type q0,none,.plain,#[some (r 519),some (r 3),some (r 516),none,some (.str s4 402),none,some (r 0)]⟩
def o521:Obj:=tu #[] 0
def o522:Obj:=⟨.none,none,.fields #[],#[]⟩
def o523:Obj:=tu #[.str s77 823] 0
def o524:Obj:=tu #[] 0
def o525:Obj:=f0 s87 s129 (L2.a0h (topT 30) 0)
def o526:Obj:=co #[.str s87 820,.str s129 821,.str s1 822,i 201,i 1,i 0,i 0,i 3,r 521,.bool true,i 181,r 522,.none,r 523,r 524,r 525,i 824,i 201,.str s1 825]
def o527:Obj:=fo s87 s129 (L2.a0h (topT 30) 0) (.str s4 402) (r 526)
def o528:Obj:=tu #[] 0
def o529:Obj:=⟨.none,none,.fields #[],#[]⟩
def o530:Obj:=tu #[.str s77 830] 0
def o531:Obj:=tu #[] 0
def o532:Obj:=f0 s88 s130 (L2.a0h (topT 30) 1)
def o533:Obj:=co #[.str s88 827,.str s130 828,.str s1 829,i 204,i 1,i 0,i 0,i 3,r 528,.bool true,i 181,r 529,.none,r 530,r 531,r 532,i 831,i 204,.str s1 832]
def o534:Obj:=fo s88 s130 (L2.a0h (topT 30) 1) (.str s4 402) (r 533)
def o535:Obj:=tu #[] 0
def o536:Obj:=⟨.none,none,.fields #[],#[]⟩
def o537:Obj:=tu #[.str s77 837] 0
def o538:Obj:=tu #[] 0
def o539:Obj:=f0 s45 s131 (L2.a0h (topT 30) 2)
def o540:Obj:=co #[.str s45 834,.str s131 835,.str s1 836,i 207,i 1,i 0,i 0,i 3,r 535,.bool true,i 181,r 536,.none,r 537,r 538,r 539,i 838,i 207,.str s1 839]
def o541:Obj:=fo s45 s131 (L2.a0h (topT 30) 2) (.str s4 402) (r 540)
def o542:Obj:=tu #[] 0
def o543:Obj:=⟨.none,none,.fields #[],#[]⟩
def o544:Obj:=tu #[.str s77 844,.str s84 845,.str s97 846] 0
def o545:Obj:=tu #[] 0
def o546:Obj:=f0 s89 s132 (L2.a0h (topT 30) 3)
def o547:Obj:=co #[.str s89 841,.str s132 842,.str s1 843,i 210,i 3,i 0,i 0,i 3,r 542,.bool true,i 181,r 543,.none,r 544,r 545,r 546,i 847,i 210,.str s1 848]
def o548:Obj:=fo s89 s132 (L2.a0h (topT 30) 3) (.str s4 402) (r 547)
def o549:Obj:=tu #[] 0
def o550:Obj:=⟨.none,none,.fields #[],#[]⟩
def o551:Obj:=tu #[.str s77 853,.str s84 854,.str s97 855] 0
def o552:Obj:=tu #[] 0
def o553:Obj:=f0 s90 s133 (L2.a0h (topT 30) 4)
def o554:Obj:=co #[.str s90 850,.str s133 851,.str s1 852,i 213,i 3,i 0,i 0,i 3,r 549,.bool true,i 181,r 550,.none,r 551,r 552,r 553,i 856,i 213,.str s1 857]
def o555:Obj:=fo s90 s133 (L2.a0h (topT 30) 4) (.str s4 402) (r 554)
def o556:Obj:=tu #[] 0
def o557:Obj:=⟨.none,none,.fields #[],#[]⟩
def o558:Obj:=tu #[.str s77 862,.str s43 863] 0
def o559:Obj:=tu #[] 0
def o560:Obj:=f0 s91 s134 (L2.a0h (topT 30) 5)
def o561:Obj:=co #[.str s91 859,.str s134 860,.str s1 861,i 216,i 2,i 0,i 0,i 3,r 556,.bool true,i 181,r 557,.none,r 558,r 559,r 560,i 864,i 216,.str s1 865]
def o562:Obj:=fo s91 s134 (L2.a0h (topT 30) 5) (.str s4 402) (r 561)
def o563:Obj:=tu #[] 0
def o564:Obj:=⟨.none,none,.fields #[],#[]⟩
def o565:Obj:=tu #[.str s77 870,.str s84 871] 0
def o566:Obj:=tu #[] 0
def o567:Obj:=f0 s92 s135 (L2.a0h (topT 30) 6)
def o568:Obj:=co #[.str s92 867,.str s135 868,.str s1 869,i 219,i 2,i 0,i 0,i 3,r 563,.bool true,i 181,r 564,.none,r 565,r 566,r 567,i 872,i 219,.str s1 873]
def o569:Obj:=fo s92 s135 (L2.a0h (topT 30) 6) (.str s4 402) (r 568)
def o570:Obj:=tu #[] 0
def o571:Obj:=⟨.none,none,.fields #[],#[]⟩
def o572:Obj:=tu #[.str s77 878,.str s52 879] 0
def o573:Obj:=tu #[] 0
def o574:Obj:=f0 s93 s136 (L2.a0h (topT 30) 7)
def o575:Obj:=co #[.str s93 875,.str s136 876,.str s1 877,i 222,i 2,i 0,i 0,i 3,r 570,.bool true,i 181,r 571,.none,r 572,r 573,r 574,i 880,i 222,.str s1 881]
def o576:Obj:=fo s93 s136 (L2.a0h (topT 30) 7) (.str s4 402) (r 575)
def o577:Obj:=tu #[] 0
def o578(P:Params):Obj:=⟨.type q1,none,.dict #[⟨kh P s37,.str s37 815,.str s4 402⟩,⟨kh P s40,.str s40 819,.int 199 818⟩,⟨kh P s87,.str s87 826,r 527⟩,⟨kh P s88,.str s88 833,r 534⟩,⟨kh P s45,.str s45 840,r 541⟩,⟨kh P s89,.str s89 849,r 548⟩,⟨kh P s90,.str s90 858,r 555⟩,⟨kh P s91,.str s91 866,r 562⟩,⟨kh P s92,.str s92 874,r 569⟩,⟨kh P s93,.str s93 882,r 576⟩,⟨kh P s41,.str s41 883,r 577⟩,⟨kh P s5,.str s5 884,.none⟩] 2,#[]⟩
def o579:Obj:=⟨.type q6,none,.cls ⟨s60,[r 272],[r 579,r 272,r 204,.type q9],578,s60,true,[],[],false,none,false⟩,#[some (r 514),none,some (.str s60 808),some (.str s60 816),some (.builtin q14),some (.bool true)]⟩
def o580:Obj:=⟨.type q12,none,.fields #[r 579,r 579,r 579],#[]⟩
def o581:Obj:=⟨.type q4,none,.fields #[.builtin q13,r 579],#[]⟩
def o582:Obj:=tu #[] 0
def o583:Obj:=⟨.none,none,.fields #[],#[]⟩
def o584:Obj:=f0 s65 s65 (topT 35)
def o585:Obj:=co #[.str s65 895,.str s65 896,.str s1 897,i 233,i 1,i 0,i 0,i 3,r 582,.bool true,i 181,r 583,.none,.none,.none,r 584,i 898,i 233,.str s1 899]
def o586:Obj:=fo s65 s65 (topT 35) (.str s137 887) (r 585)
def o587:Obj:=tu #[] 0
def o588:Obj:=⟨.none,none,.fields #[],#[]⟩
def o589:Obj:=f0 s68 s68 (topT 38)
def o590:Obj:=co #[.str s68 905,.str s68 906,.str s1 907,i 239,i 2,i 0,i 0,i 3,r 587,.bool true,i 181,r 588,.none,.none,.none,r 589,i 908,i 239,.str s1 909]
def o591:Obj:=fo s68 s68 (topT 38) (.str s138 901) (r 590)
def o592:Obj:=tu #[] 0
def o593:Obj:=⟨.none,none,.fields #[],#[]⟩
def o594:Obj:=tu #[.str s139 914,.str s140 915,.str s52 916,.str s141 917] 0
def o595:Obj:=tu #[] 0
def o596:Obj:=f0 s69 s69 (topT 39)
def o597:Obj:=co #[.str s69 911,.str s69 912,.str s1 913,i 243,i 3,i 0,i 0,i 3,r 592,.bool true,i 181,r 593,.none,r 594,r 595,r 596,i 918,i 243,.str s1 919]
def o598:Obj:=fo s69 s69 (topT 39) (.str s138 901) (r 597)
def o599:Obj:=tu #[] 0
def o600:Obj:=⟨.none,none,.fields #[],#[]⟩
def o601:Obj:=f0 s70 s70 (topT 40)
def o602:Obj:=co #[.str s70 921,.str s70 922,.str s1 923,i 248,i 3,i 0,i 0,i 3,r 599,.bool true,i 181,r 600,.none,.none,.none,r 601,i 924,i 248,.str s1 925]
def o603:Obj:=fo s70 s70 (topT 40) (.str s138 901) (r 602)
def o604:Obj:=tu #[] 0
def o605:Obj:=⟨.none,none,.fields #[],#[]⟩
def o606:Obj:=f0 s71 s71 (topT 41)
def o607:Obj:=co #[.str s71 927,.str s71 928,.str s1 929,i 255,i 2,i 0,i 0,i 3,r 604,.bool true,i 181,r 605,.none,.none,.none,r 606,i 930,i 255,.str s1 931]
def o608:Obj:=fo s71 s71 (topT 41) (.str s138 901) (r 607)
def o609:Obj:=tu #[] 0
def o610:Obj:=⟨.none,none,.fields #[],#[]⟩
def o611:Obj:=tu #[.str s142 938,.str s143 939,.str s144 940] 0
def o612:Obj:=tu #[] 0
def o613:Obj:=f0 s72 s72 (topT 43)
def o614:Obj:=co #[.str s72 935,.str s72 936,.str s1 937,i 268,i 1,i 0,i 0,i 3,r 609,.bool true,i 181,r 610,.none,r 611,r 612,r 613,i 941,i 268,.str s1 942]
def o615:Obj:=fo s72 s72 (topT 43) (.str s54 933) (r 614)
def o616:Obj:=tu #[] 0
def o617:Obj:=⟨.none,none,.fields #[],#[]⟩
def o618:Obj:=tu #[.str s145 947,.str s146 948,.str s147 949] 0
def o619:Obj:=tu #[] 0
def o620:Obj:=f0 s73 s73 (topT 44)
def o621:Obj:=co #[.str s73 944,.str s73 945,.str s1 946,i 275,i 2,i 0,i 0,i 3,r 616,.bool true,i 181,r 617,.none,r 618,r 619,r 620,i 950,i 275,.str s1 951]
def o622:Obj:=fo s73 s73 (topT 44) (.str s54 933) (r 621)
def o623:Obj:=tu #[] 0
def o624:Obj:=⟨.none,none,.fields #[],#[]⟩
def o625:Obj:=tu #[.str s145 956,.str s148 957,.str s149 958] 0
def o626:Obj:=tu #[] 0
def o627:Obj:=f0 s74 s74 (topT 45)
def o628:Obj:=co #[.str s74 953,.str s74 954,.str s1 955,i 284,i 3,i 0,i 0,i 3,r 623,.bool true,i 181,r 624,.none,r 625,r 626,r 627,i 959,i 284,.str s1 960]
def o629:Obj:=fo s74 s74 (topT 45) (.str s54 933) (r 628)
def o3_2(P:Params):Obj:=⟨.type q1,none,.dict #[⟨kh P s3,.str s3 165,.str s54 933⟩,⟨kh P s5,.str s5 166,.none⟩,⟨kh P s6,.str s6 167,.none⟩,⟨kh P s7,.str s7 168,.builtin q2⟩,⟨kh P s8,.str s8 169,.none⟩,⟨kh P s9,.str s9 170,r 6⟩,⟨kh P s10,.str s10 171,r 4⟩,⟨kh P s11,.str s11 173,.str s1 172⟩,⟨kh P s12,.str s12 174,.none⟩,⟨kh P s13,.str s13 193,r 21⟩,⟨kh P s14,.str s14 213,r 31⟩,⟨kh P s15,.str s15 229,r 44⟩,⟨kh P s16,.str s16 245,r 56⟩,⟨kh P s17,.str s17 261,r 68⟩,⟨kh P s18,.str s18 277,r 80⟩,⟨kh P s19,.str s19 293,r 92⟩,⟨kh P s20,.str s20 309,r 104⟩,⟨kh P s21,.str s21 325,r 116⟩,⟨kh P s22,.str s22 341,r 128⟩,⟨kh P s23,.str s23 357,r 140⟩,⟨kh P s24,.str s24 373,r 152⟩,⟨kh P s25,.str s25 382,r 161⟩,⟨kh P s26,.str s26 393,r 168⟩,⟨kh P s27,.str s27 401,r 175⟩,⟨kh P s28,.str s28 405,.str s29 404⟩,⟨kh P s30,.str s30 407,.int 30 406⟩,⟨kh P s31,.str s31 409,.int 1000000 408⟩,⟨kh P s32,.str s32 415,r 180⟩,⟨kh P s33,.str s33 422,r 187⟩,⟨kh P s34,.str s34 429,r 194⟩,⟨kh P s35,.str s35 449,r 204⟩,⟨kh P s55,.str s55 479,r 232⟩,⟨kh P s56,.str s56 525,r 272⟩,⟨kh P s57,.str s57 623,r 354⟩,⟨kh P s58,.str s58 728,r 443⟩,⟨kh P s59,.str s59 807,r 511⟩,⟨kh P s60,.str s60 886,r 579⟩,⟨kh P s61,.str s61 890,.str s62 889⟩,⟨kh P s63,.str s63 892,.int 3 891⟩,⟨kh P s64,.str s64 894,.int 20 893⟩,⟨kh P s65,.str s65 900,r 586⟩,⟨kh P s66,.str s66 904,.str s67 903⟩,⟨kh P s68,.str s68 910,r 591⟩,⟨kh P s69,.str s69 920,r 598⟩,⟨kh P s70,.str s70 926,r 603⟩,⟨kh P s71,.str s71 932,r 608⟩,⟨kh P s72,.str s72 943,r 615⟩,⟨kh P s73,.str s73 952,r 622⟩,⟨kh P s74,.str s74 961,r 629⟩,⟨kh P s150,.str s150 972,r 636⟩,⟨kh P s151,.str s151 980,r 643⟩,⟨kh P s152,.str s152 989,r 650⟩,⟨kh P s153,.str s153 998,r 657⟩,⟨kh P s154,.str s154 1005,r 664⟩,⟨kh P s155,.str s155 1013,r 671⟩,⟨kh P s156,.str s156 1023,r 678⟩,⟨kh P s157,.str s157 1029,r 683⟩,⟨kh P s158,.str s158 1035,r 688⟩,⟨kh P s159,.str s159 1041,r 693⟩,⟨kh P s160,.str s160 1047,r 698⟩,⟨kh P s161,.str s161 1061,r 705⟩,⟨kh P s162,.str s162 1072,r 712⟩,⟨kh P s163,.str s163 1083,r 719⟩,⟨kh P s164,.str s164 1089,r 724⟩,⟨kh P s165,.str s165 1102,r 731⟩,⟨kh P s166,.str s166 1116,r 738⟩,⟨kh P s167,.str s167 1127,r 745⟩,⟨kh P s168,.str s168 1141,r 752⟩] 68,#[]⟩
def o12_2:Obj:=⟨.none,none,.fields #[i 1,i 0,r 20,i 5,i 0,r 27,i 7,i 0,r 40,i 9,i 0,r 52,i 11,i 0,r 64,i 13,i 0,r 76,i 15,i 0,r 88,i 17,i 0,r 100,i 19,i 0,r 112,i 21,i 0,r 124,i 23,i 0,r 136,i 25,i 0,r 148,i 28,i 0,r 160,i 30,i 0,r 167,i 38,i 0,r 174,i 51,i 0,r 179,i 60,i 0,r 186,i 64,i 0,r 193,i 67,i 0,r 200,i 69,i 0,r 214,i 76,i 0,r 240,i 89,i 0,r 280,i 132,i 0,r 362,i 171,i 0,r 451,i 199,i 0,r 519,i 233,i 0,r 585,i 239,i 0,r 590,i 243,i 0,r 597,i 248,i 0,r 602,i 255,i 0,r 607,i 268,i 0,r 614,i 275,i 0,r 621,i 284,i 0,r 628,i 288,i 0,r 635,i 296,i 0,r 642,i 300,i 0,r 649,i 303,i 0,r 656,i 306,i 0,r 663,i 314,i 0,r 670,i 324,i 0,r 677,i 339,i 0,r 682,i 348,i 0,r 687,i 352,i 0,r 692,i 360,i 0,r 697,i 369,i 0,r 704,i 387,i 0,r 711,i 396,i 0,r 718,i 405,i 0,r 723,i 425,i 0,r 730,i 437,i 0,r 737,i 454,i 0,r 744,i 464,i 0,r 751],#[]⟩
def o630:Obj:=tu #[] 0
def o631:Obj:=⟨.none,none,.fields #[],#[]⟩
def o632:Obj:=tu #[.str s145 965,.str s169 966,.str s170 967,.str s171 968,.str s172 969] 0
def o633:Obj:=tu #[] 0
def o634:Obj:=f0 s150 s150 (topT 46)
def o635:Obj:=co #[.str s150 962,.str s150 963,.str s1 964,i 288,i 1,i 0,i 0,i 3,r 630,.bool true,i 181,r 631,.none,r 632,r 633,r 634,i 970,i 288,.str s1 971]
def o636:Obj:=fo s150 s150 (topT 46) (.str s54 933) (r 635)
def o637:Obj:=tu #[] 0
def o638:Obj:=⟨.none,none,.fields #[],#[]⟩
def o639:Obj:=tu #[.str s173 976,.str s174 977] 0
def o640:Obj:=tu #[] 0
def o641:Obj:=f0 s151 s151 (topT 47)
def o642:Obj:=co #[.str s151 973,.str s151 974,.str s1 975,i 296,i 2,i 0,i 0,i 3,r 637,.bool true,i 181,r 638,.none,r 639,r 640,r 641,i 978,i 296,.str s1 979]
def o643:Obj:=fo s151 s151 (topT 47) (.str s54 933) (r 642)
def o644:Obj:=tu #[] 0
def o645:Obj:=⟨.none,none,.fields #[],#[]⟩
def o646:Obj:=tu #[.str s175 984,.str s176 985,.str s177 986] 0
def o647:Obj:=tu #[] 0
def o648:Obj:=f0 s152 s152 (topT 48)
def o649:Obj:=co #[.str s152 981,.str s152 982,.str s1 983,i 300,i 2,i 0,i 0,i 3,r 644,.bool true,i 181,r 645,.none,r 646,r 647,r 648,i 987,i 300,.str s1 988]
def o650:Obj:=fo s152 s152 (topT 48) (.str s54 933) (r 649)
def o651:Obj:=tu #[] 0
def o652:Obj:=⟨.none,none,.fields #[],#[]⟩
def o653:Obj:=tu #[.str s145 993,.str s178 994,.str s179 995] 0
def o654:Obj:=tu #[] 0
def o655:Obj:=f0 s153 s153 (topT 49)
def o656:Obj:=co #[.str s153 990,.str s153 991,.str s1 992,i 303,i 2,i 0,i 0,i 3,r 651,.bool true,i 181,r 652,.none,r 653,r 654,r 655,i 996,i 303,.str s1 997]
def o657:Obj:=fo s153 s153 (topT 49) (.str s54 933) (r 656)
def o658:Obj:=tu #[] 0
def o659:Obj:=⟨.none,none,.fields #[],#[]⟩
def o660:Obj:=tu #[.str s180 1002] 0
def o661:Obj:=tu #[] 0
def o662:Obj:=f0 s154 s154 (topT 50)
def o663:Obj:=co #[.str s154 999,.str s154 1000,.str s1 1001,i 306,i 1,i 0,i 0,i 3,r 658,.bool true,i 181,r 659,.none,r 660,r 661,r 662,i 1003,i 306,.str s1 1004]
def o664:Obj:=fo s154 s154 (topT 50) (.str s54 933) (r 663)
def o665:Obj:=tu #[] 0
def o666:Obj:=⟨.none,none,.fields #[],#[]⟩
def o667:Obj:=tu #[.str s180 1009,.str s181 1010] 0
def o668:Obj:=tu #[] 0
def o669:Obj:=f0 s155 s155 (topT 51)
def o670:Obj:=co #[.str s155 1006,.str s155 1007,.str s1 1008,i 314,i 2,i 0,i 0,i 3,r 665,.bool true,i 181,r 666,.none,r 667,r 668,r 669,i 1011,i 314,.str s1 1012]
def o671:Obj:=fo s155 s155 (topT 51) (.str s54 933) (r 670)
def o672:Obj:=tu #[] 0
def o673:Obj:=⟨.none,none,.fields #[],#[]⟩
def o674:Obj:=tu #[.str s145 1017,.str s180 1018,.str s182 1019,.str s176 1020] 0
def o675:Obj:=tu #[] 0
def o676:Obj:=f0 s156 s156 (topT 52)
def o677:Obj:=co #[.str s156 1014,.str s156 1015,.str s1 1016,i 324,i 2,i 0,i 0,i 3,r 672,.bool true,i 181,r 673,.none,r 674,r 675,r 676,i 1021,i 324,.str s1 1022]
def o678:Obj:=fo s156 s156 (topT 52) (.str s54 933) (r 677)
def o679:Obj:=tu #[] 0
def o680:Obj:=⟨.none,none,.fields #[],#[]⟩
def o681:Obj:=f0 s157 s157 (topT 53)
def o682:Obj:=co #[.str s157 1024,.str s157 1025,.str s1 1026,i 339,i 4,i 0,i 0,i 3,r 679,.bool true,i 181,r 680,.none,.none,.none,r 681,i 1027,i 339,.str s1 1028]
def o683:Obj:=fo s157 s157 (topT 53) (.str s54 933) (r 682)
def o684:Obj:=tu #[] 0
def o685:Obj:=⟨.none,none,.fields #[],#[]⟩
def o686:Obj:=f0 s158 s158 (topT 54)
def o687:Obj:=co #[.str s158 1030,.str s158 1031,.str s1 1032,i 348,i 2,i 0,i 0,i 3,r 684,.bool true,i 181,r 685,.none,.none,.none,r 686,i 1033,i 348,.str s1 1034]
def o688:Obj:=fo s158 s158 (topT 54) (.str s54 933) (r 687)
def o689:Obj:=tu #[] 0
def o690:Obj:=⟨.none,none,.fields #[],#[]⟩
def o691:Obj:=f0 s159 s159 (topT 55)
def o692:Obj:=co #[.str s159 1036,.str s159 1037,.str s1 1038,i 352,i 2,i 0,i 0,i 3,r 689,.bool true,i 181,r 690,.none,.none,.none,r 691,i 1039,i 352,.str s1 1040]
def o693:Obj:=fo s159 s159 (topT 55) (.str s54 933) (r 692)
def o694:Obj:=tu #[] 0
def o695:Obj:=⟨.none,none,.fields #[],#[]⟩
def o696:Obj:=f0 s160 s160 (topT 56)
def o697:Obj:=co #[.str s160 1042,.str s160 1043,.str s1 1044,i 360,i 1,i 0,i 0,i 3,r 694,.bool true,i 181,r 695,.none,.none,.none,r 696,i 1045,i 360,.str s1 1046]
def o698:Obj:=fo s160 s160 (topT 56) (.str s54 933) (r 697)
def o699:Obj:=tu #[] 0
def o700:Obj:=⟨.none,none,.fields #[],#[]⟩
def o701:Obj:=tu #[.str s180 1051,.str s183 1052,.str s175 1053,.str s184 1054,.str s176 1055,.str s173 1056,.str s174 1057,.str s185 1058] 0
def o702:Obj:=tu #[] 0
def o703:Obj:=f0 s161 s161 (topT 57)
def o704:Obj:=co #[.str s161 1048,.str s161 1049,.str s1 1050,i 369,i 2,i 0,i 0,i 3,r 699,.bool true,i 181,r 700,.none,r 701,r 702,r 703,i 1059,i 369,.str s1 1060]
def o705:Obj:=fo s161 s161 (topT 57) (.str s54 933) (r 704)
def o706:Obj:=tu #[] 0
def o707:Obj:=⟨.none,none,.fields #[],#[]⟩
def o708:Obj:=tu #[.str s180 1065,.str s183 1066,.str s146 1067,.str s186 1068,.str s187 1069] 0
def o709:Obj:=tu #[] 0
def o710:Obj:=f0 s162 s162 (topT 58)
def o711:Obj:=co #[.str s162 1062,.str s162 1063,.str s1 1064,i 387,i 3,i 0,i 0,i 3,r 706,.bool true,i 181,r 707,.none,r 708,r 709,r 710,i 1070,i 387,.str s1 1071]
def o712:Obj:=fo s162 s162 (topT 58) (.str s54 933) (r 711)
def o713:Obj:=tu #[] 0
def o714:Obj:=⟨.none,none,.fields #[],#[]⟩
def o715:Obj:=tu #[.str s180 1076,.str s183 1077,.str s146 1078,.str s188 1079,.str s187 1080] 0
def o716:Obj:=tu #[] 0
def o717:Obj:=f0 s163 s163 (topT 59)
def o718:Obj:=co #[.str s163 1073,.str s163 1074,.str s1 1075,i 396,i 3,i 0,i 0,i 3,r 713,.bool true,i 181,r 714,.none,r 715,r 716,r 717,i 1081,i 396,.str s1 1082]
def o719:Obj:=fo s163 s163 (topT 59) (.str s54 933) (r 718)
def o720:Obj:=tu #[] 0
def o721:Obj:=⟨.none,none,.fields #[],#[]⟩
def o722:Obj:=f0 s164 s164 (topT 60)
def o723:Obj:=co #[.str s164 1084,.str s164 1085,.str s1 1086,i 405,i 2,i 0,i 0,i 3,r 720,.bool true,i 181,r 721,.none,.none,.none,r 722,i 1087,i 405,.str s1 1088]
def o724:Obj:=fo s164 s164 (topT 60) (.str s54 933) (r 723)
def o725:Obj:=tu #[] 0
def o726:Obj:=⟨.none,none,.fields #[],#[]⟩
def o727:Obj:=tu #[.str s145 1093,.str s183 1094,.str s189 1095,.str s169 1096,.str s173 1097,.str s174 1098,.str s178 1099] 0
def o728:Obj:=tu #[] 0
def o729:Obj:=f0 s165 s165 (topT 61)
def o730:Obj:=co #[.str s165 1090,.str s165 1091,.str s1 1092,i 425,i 3,i 0,i 0,i 3,r 725,.bool true,i 181,r 726,.none,r 727,r 728,r 729,i 1100,i 425,.str s1 1101]
def o731:Obj:=fo s165 s165 (topT 61) (.str s54 933) (r 730)
def o732:Obj:=tu #[] 0
def o733:Obj:=⟨.none,none,.fields #[],#[]⟩
def o734:Obj:=tu #[.str s145 1106,.str s183 1107,.str s178 1108,.str s190 1109,.str s191 1110,.str s192 1111,.str s193 1112,.str s173 1113] 0
def o735:Obj:=tu #[] 0
def o736:Obj:=f0 s166 s166 (topT 62)
def o737:Obj:=co #[.str s166 1103,.str s166 1104,.str s1 1105,i 437,i 2,i 0,i 0,i 3,r 732,.bool true,i 181,r 733,.none,r 734,r 735,r 736,i 1114,i 437,.str s1 1115]
def o738:Obj:=fo s166 s166 (topT 62) (.str s54 933) (r 737)
def o739:Obj:=tu #[] 0
def o740:Obj:=⟨.none,none,.fields #[],#[]⟩
def o741:Obj:=tu #[.str s194 1120,.str s195 1121,.str s196 1122,.str s197 1123,.str s198 1124] 0
def o742:Obj:=tu #[] 0
def o743:Obj:=f0 s167 s167 (topT 63)
def o744:Obj:=co #[.str s167 1117,.str s167 1118,.str s1 1119,i 454,i 2,i 0,i 0,i 3,r 739,.bool true,i 181,r 740,.none,r 741,r 742,r 743,i 1125,i 454,.str s1 1126]
def o745:Obj:=fo s167 s167 (topT 63) (.str s54 933) (r 744)
def o746:Obj:=tu #[] 0
def o747:Obj:=⟨.none,none,.fields #[],#[]⟩
def o748:Obj:=tu #[.str s142 1131,.str s145 1132,.str s199 1133,.str s180 1134,.str s194 1135,.str s183 1136,.str s171 1137,.str s200 1138] 0
def o749:Obj:=tu #[] 0
def o750:Obj:=f0 s168 s168 (topT 64)
def o751:Obj:=co #[.str s168 1128,.str s168 1129,.str s1 1130,i 464,i 1,i 0,i 0,i 3,r 746,.bool true,i 181,r 747,.none,r 748,r 749,r 750,i 1139,i 464,.str s1 1140]
def o752:Obj:=fo s168 s168 (topT 64) (.str s54 933) (r 751)
def envT:Env:={ scope:=Fast.tw9920906252200871378.main.scope,locals:=mainNs,globals:=mainNs,cells:=[],code:=(r 13),frame:=some 14 }
def cT:Code:=.body (behindTheImports Fast.tw9920906252200871378) envT
def qP:Pos:=⟨0,0,0,0⟩
def Ha(P:Params):Heap:=⟨⟨[boot_o_0 P,boot_o_1 P,boot_o_2 P,boot_o_3 P,boot_o_4 P,boot_o_5 P,boot_o_6 P,boot_o_7 P,boot_o_8 P,boot_o_9 P,boot_o_10 P,o11a,o12a,o13a,o14a]⟩,PySem.Life.mk [] [] [] 0 [] [] false #[] [] 0 false false false 0 [2000,10,10] false 0 true [] [] 0 false⟩
def Sa(w:World)(os:OsState):Shared:=⟨Ha w.params,⟨[]⟩,PySem.Drawn.mk 0 0 0 0,187,os⟩
def Tb(P:Params):BT:=(nd (boot_o_0 P) (nd (boot_o_1 P) (nd (boot_o_3 P) (lf (boot_o_7 P)) (lf o11a)) (nd (boot_o_5 P) (lf (boot_o_9 P)) (lf o13a))) (nd (boot_o_2 P) (nd (boot_o_4 P) (lf (boot_o_8 P)) (lf o12a)) (nd (boot_o_6 P) (lf (boot_o_10 P)) (lf o14a))))
def Sb(w:World)(os:OsState):SharedT:=⟨Tb w.params,15,PySem.Life.mk [] [] [] 0 [] [] false #[] [] 0 false false false 0 [2000,10,10] false 0 true [] [] 0 false,⟨[]⟩,PySem.Drawn.mk 0 0 0 0,187,os⟩
def T0(P:Params):BT:=(nd (boot_o_0 P) (nd (boot_o_1 P) (nd (o3_0 P) (nd (boot_o_7 P) (nd o15 (nd o31 (nd o63 (lf (o127 P)) (lf o191)) (nd o95 (lf o159) nl)) (nd o47 (nd (o79 P) (lf o143) (lf o207)) (nd o111 (lf o175) nl))) (nd o23 (nd o39 (nd o71 (lf o135) (lf o199)) (nd (o103 P) (lf o167) nl)) (nd (o55 P) (nd o87 (lf (o151 P)) nl) (nd o119 (lf o183) nl)))) (nd o11a (nd o19 (nd o35 (nd (o67 P) (lf o131) (lf o195)) (nd o99 (lf o163) nl)) (nd o51 (nd o83 (lf o147) nl) (nd (o115 P) (lf o179) nl))) (nd o27 (nd (o43 P) (nd o75 (lf (o139 P)) (lf (o203 P))) (nd o107 (lf o171) nl)) (nd o59 (nd (o91 P) (lf o155) nl) (nd o123 (lf o187) nl))))) (nd (boot_o_5 P) (nd (boot_o_9 P) (nd o17 (nd o33 (nd o65 (lf o129) (lf o193)) (nd (o97 P) (lf o161) nl)) (nd (o49 P) (nd o81 (lf (o145 P)) nl) (nd o113 (lf o177) nl))) (nd o25 (nd o41 (nd (o73 P) (lf o137) (lf o201)) (nd o105 (lf o169) nl)) (nd o57 (nd o89 (lf o153) nl) (nd (o121 P) (lf o185) nl)))) (nd o13a (nd o21 (nd (o37 P) (nd o69 (lf (o133 P)) (lf (o197 P))) (nd o101 (lf o165) nl)) (nd o53 (nd (o85 P) (lf o149) nl) (nd o117 (lf o181) nl))) (nd o29 (nd o45 (nd o77 (lf o141) (lf o205)) (nd (o109 P) (lf o173) nl)) (nd (o61 P) (nd o93 (lf o157) nl) (nd o125 (lf o189) nl)))))) (nd (boot_o_2 P) (nd (boot_o_4 P) (nd (boot_o_8 P) (nd o16 (nd o32 (nd o64 (lf o128) (lf o192)) (nd o96 (lf o160) nl)) (nd o48 (nd o80 (lf o144) (lf o208)) (nd o112 (lf o176) nl))) (nd (o24 P) (nd o40 (nd o72 (lf o136) (lf o200)) (nd o104 (lf o168) nl)) (nd o56 (nd o88 (lf o152) nl) (nd o120 (lf o184) nl)))) (nd o12_0 (nd o20 (nd o36 (nd o68 (lf o132) (lf o196)) (nd o100 (lf o164) nl)) (nd o52 (nd o84 (lf o148) nl) (nd o116 (lf o180) nl))) (nd o28 (nd o44 (nd o76 (lf o140) (lf o204_0)) (nd o108 (lf o172) nl)) (nd o60 (nd o92 (lf o156) nl) (nd o124 (lf o188) nl))))) (nd (boot_o_6 P) (nd (boot_o_10 P) (nd o18 (nd o34 (nd o66 (lf o130) (lf o194)) (nd o98 (lf o162) nl)) (nd o50 (nd o82 (lf o146) nl) (nd o114 (lf o178) nl))) (nd o26 (nd o42 (nd o74 (lf o138) (lf o202)) (nd o106 (lf o170) nl)) (nd o58 (nd o90 (lf o154) nl) (nd o122 (lf o186) nl)))) (nd o14a (nd o22 (nd o38 (nd o70 (lf o134) (lf o198)) (nd o102 (lf o166) nl)) (nd o54 (nd o86 (lf o150) nl) (nd o118 (lf o182) nl))) (nd (o30 P) (nd o46 (nd o78 (lf o142) (lf o206)) (nd o110 (lf o174) nl)) (nd o62 (nd o94 (lf o158) nl) (nd o126 (lf o190) nl)))))))
def S0(w:World)(os:OsState):SharedT:=⟨T0 w.params,209,PySem.Life.mk [] [] [] 0 [] [] false #[] [] 0 false false false 0 [2000,10,10] false 0 true [] [] 0 false,⟨[]⟩,PySem.Drawn.mk 0 0 0 0,450,os⟩
def T1(P:Params):BT:=(nd (boot_o_0 P) (nd (boot_o_1 P) (nd (o3_1 P) (nd (boot_o_7 P) (nd o15 (nd o31 (nd o63 (nd (o127 P) (nd o255 (lf o511) nl) (lf o383)) (nd o191 (nd o319 (lf o575) nl) (lf o447))) (nd o95 (nd o159 (nd o287 (lf o543) nl) (lf o415)) (nd o223 (nd o351 (lf o607) nl) (lf o479)))) (nd o47 (nd (o79 P) (nd o143 (nd (o271 P) (lf o527) nl) (lf o399)) (nd o207 (nd o335 (lf o591) nl) (lf o463))) (nd o111 (nd o175 (nd o303 (lf o559) nl) (lf o431)) (nd o239 (nd o367 (lf o623) nl) (lf o495))))) (nd o23 (nd o39 (nd o71 (nd o135 (nd o263 (lf o519) nl) (lf o391)) (nd o199 (nd o327 (lf o583) nl) (lf o455))) (nd (o103 P) (nd o167 (nd o295 (lf o551) nl) (lf o423)) (nd (o231 P) (nd (o359 P) (lf o615) nl) (lf o487)))) (nd (o55 P) (nd o87 (nd (o151 P) (nd o279 (lf o535) nl) (lf o407)) (nd o215 (nd o343 (lf o599) nl) (lf o471))) (nd o119 (nd o183 (nd o311 (lf o567) nl) (lf o439)) (nd o247 (lf o375) (lf o503)))))) (nd o11a (nd o19 (nd o35 (nd (o67 P) (nd o131 (nd o259 (lf o515) nl) (lf o387)) (nd o195 (nd o323 (lf o579) nl) (lf o451))) (nd o99 (nd o163 (nd o291 (lf o547) nl) (lf o419)) (nd o227 (nd o355 (lf o611) nl) (lf o483)))) (nd o51 (nd o83 (nd o147 (nd o275 (lf o531) nl) (lf o403)) (nd (o211 P) (nd o339 (lf o595) nl) (lf o467))) (nd (o115 P) (nd o179 (nd o307 (lf o563) nl) (lf o435)) (nd o243 (nd o371 (lf o627) nl) (lf o499))))) (nd o27 (nd (o43 P) (nd o75 (nd (o139 P) (nd o267 (lf o523) nl) (lf o395)) (nd (o203 P) (nd o331 (lf o587) nl) (lf o459))) (nd o107 (nd o171 (nd o299 (lf o555) nl) (lf o427)) (nd o235 (nd o363 (lf o619) nl) (lf o491)))) (nd o59 (nd (o91 P) (nd o155 (nd o283 (lf o539) nl) (lf o411)) (nd o219 (nd o347 (lf o603) nl) (lf o475))) (nd o123 (nd o187 (nd o315 (lf o571) nl) (lf o443)) (nd o251 (lf o379) (lf o507))))))) (nd (boot_o_5 P) (nd (boot_o_9 P) (nd o17 (nd o33 (nd o65 (nd o129 (nd o257 (lf o513) nl) (lf o385)) (nd o193 (nd o321 (lf o577) nl) (lf o449))) (nd (o97 P) (nd o161 (nd o289 (lf o545) nl) (lf o417)) (nd o225 (nd (o353 P) (lf o609) nl) (lf o481)))) (nd (o49 P) (nd o81 (nd (o145 P) (nd o273 (lf o529) nl) (lf o401)) (nd o209 (nd o337 (lf o593) nl) (lf o465))) (nd o113 (nd o177 (nd o305 (lf o561) nl) (lf o433)) (nd o241 (nd o369 (lf o625) nl) (lf o497))))) (nd o25 (nd o41 (nd (o73 P) (nd o137 (nd o265 (lf o521) nl) (lf o393)) (nd o201 (nd o329 (lf o585) nl) (lf o457))) (nd o105 (nd o169 (nd o297 (lf o553) nl) (lf o425)) (nd o233 (nd o361 (lf o617) nl) (lf o489)))) (nd o57 (nd o89 (nd o153 (nd o281 (lf o537) nl) (lf o409)) (nd o217 (nd o345 (lf o601) nl) (lf o473))) (nd (o121 P) (nd o185 (nd o313 (lf o569) nl) (lf o441)) (nd o249 (lf o377) (lf o505)))))) (nd o13a (nd o21 (nd (o37 P) (nd o69 (nd (o133 P) (nd o261 (lf o517) nl) (lf o389)) (nd (o197 P) (nd o325 (lf o581) nl) (lf o453))) (nd o101 (nd o165 (nd o293 (lf o549) nl) (lf o421)) (nd o229 (nd o357 (lf o613) nl) (lf o485)))) (nd o53 (nd (o85 P) (nd o149 (nd (o277 P) (lf o533) nl) (lf o405)) (nd o213 (nd o341 (lf o597) nl) (lf o469))) (nd o117 (nd o181 (nd o309 (lf o565) nl) (lf o437)) (nd o245 (nd o373 (lf o629) nl) (lf o501))))) (nd o29 (nd o45 (nd o77 (nd o141 (nd o269 (lf o525) nl) (lf o397)) (nd o205 (nd o333 (lf o589) nl) (lf o461))) (nd (o109 P) (nd o173 (nd o301 (lf o557) nl) (lf o429)) (nd (o237 P) (nd o365 (lf o621) nl) (lf o493)))) (nd (o61 P) (nd o93 (nd o157 (nd o285 (lf o541) nl) (lf o413)) (nd o221 (nd o349 (lf o605) nl) (lf o477))) (nd o125 (nd o189 (nd o317 (lf o573) nl) (lf o445)) (nd o253 (lf o381) (lf o509)))))))) (nd (boot_o_2 P) (nd (boot_o_4 P) (nd (boot_o_8 P) (nd o16 (nd o32 (nd o64 (nd o128 (nd o256 (lf o512) nl) (lf o384)) (nd o192 (nd o320 (lf o576) nl) (lf (o448 P)))) (nd o96 (nd o160 (nd o288 (lf o544) nl) (lf o416)) (nd o224 (nd o352 (lf o608) nl) (lf o480)))) (nd o48 (nd o80 (nd o144 (nd o272 (lf o528) nl) (lf o400)) (nd o208 (nd o336 (lf o592) nl) (lf o464))) (nd o112 (nd o176 (nd o304 (lf o560) nl) (lf o432)) (nd o240 (nd o368 (lf o624) nl) (lf o496))))) (nd (o24 P) (nd o40 (nd o72 (nd o136 (nd o264 (lf o520) nl) (lf o392)) (nd o200 (nd o328 (lf o584) nl) (lf o456))) (nd o104 (nd o168 (nd o296 (lf o552) nl) (lf o424)) (nd o232 (nd o360 (lf o616) nl) (lf o488)))) (nd o56 (nd o88 (nd o152 (nd o280 (lf o536) nl) (lf o408)) (nd o216 (nd o344 (lf o600) nl) (lf o472))) (nd o120 (nd o184 (nd o312 (lf o568) nl) (lf o440)) (nd o248 (lf o376) (lf o504)))))) (nd o12_1 (nd o20 (nd o36 (nd o68 (nd o132 (nd o260 (lf (o516 P)) nl) (lf o388)) (nd o196 (nd o324 (lf o580) nl) (lf o452))) (nd o100 (nd o164 (nd o292 (lf o548) nl) (lf o420)) (nd o228 (nd o356 (lf o612) nl) (lf o484)))) (nd o52 (nd o84 (nd o148 (nd o276 (lf o532) nl) (lf o404)) (nd o212 (nd o340 (lf o596) nl) (lf o468))) (nd o116 (nd o180 (nd o308 (lf o564) nl) (lf o436)) (nd o244 (nd o372 (lf o628) nl) (lf o500))))) (nd o28 (nd o44 (nd o76 (nd o140 (nd o268 (lf o524) nl) (lf o396)) (nd o204_1 (nd o332 (lf o588) nl) (lf o460))) (nd o108 (nd o172 (nd o300 (lf o556) nl) (lf o428)) (nd o236 (nd o364 (lf o620) nl) (lf o492)))) (nd o60 (nd o92 (nd o156 (nd o284 (lf o540) nl) (lf o412)) (nd o220 (nd o348 (lf o604) nl) (lf o476))) (nd o124 (nd o188 (nd o316 (lf o572) nl) (lf o444)) (nd o252 (lf o380) (lf o508))))))) (nd (boot_o_6 P) (nd (boot_o_10 P) (nd o18 (nd o34 (nd o66 (nd o130 (nd o258 (lf o514) nl) (lf o386)) (nd o194 (nd o322 (lf (o578 P)) nl) (lf o450))) (nd o98 (nd o162 (nd o290 (lf o546) nl) (lf o418)) (nd o226 (nd o354 (lf o610) nl) (lf o482)))) (nd o50 (nd o82 (nd o146 (nd o274 (lf o530) nl) (lf o402)) (nd o210 (nd o338 (lf o594) nl) (lf o466))) (nd o114 (nd o178 (nd o306 (lf o562) nl) (lf o434)) (nd o242 (nd o370 (lf o626) nl) (lf o498))))) (nd o26 (nd o42 (nd o74 (nd o138 (nd o266 (lf o522) nl) (lf o394)) (nd o202 (nd o330 (lf o586) nl) (lf o458))) (nd o106 (nd o170 (nd o298 (lf o554) nl) (lf o426)) (nd o234 (nd o362 (lf o618) nl) (lf o490)))) (nd o58 (nd o90 (nd o154 (nd o282 (lf o538) nl) (lf o410)) (nd o218 (nd o346 (lf o602) nl) (lf o474))) (nd o122 (nd o186 (nd o314 (lf o570) nl) (lf (o442 P))) (nd o250 (lf o378) (lf o506)))))) (nd o14a (nd o22 (nd o38 (nd o70 (nd o134 (nd o262 (lf o518) nl) (lf o390)) (nd o198 (nd o326 (lf o582) nl) (lf o454))) (nd o102 (nd o166 (nd o294 (lf o550) nl) (lf o422)) (nd o230 (nd o358 (lf o614) nl) (lf o486)))) (nd o54 (nd o86 (nd o150 (nd o278 (lf o534) nl) (lf o406)) (nd o214 (nd o342 (lf o598) nl) (lf o470))) (nd o118 (nd o182 (nd o310 (lf o566) nl) (lf o438)) (nd o246 (lf o374) (lf o502))))) (nd (o30 P) (nd o46 (nd o78 (nd o142 (nd o270 (lf o526) nl) (lf o398)) (nd o206 (nd o334 (lf o590) nl) (lf o462))) (nd o110 (nd o174 (nd o302 (lf o558) nl) (lf o430)) (nd o238 (nd o366 (lf o622) nl) (lf o494)))) (nd o62 (nd o94 (nd o158 (nd o286 (lf o542) nl) (lf o414)) (nd o222 (nd o350 (lf o606) nl) (lf o478))) (nd o126 (nd o190 (nd o318 (lf o574) nl) (lf o446)) (nd o254 (lf o382) (lf (o510 P))))))))))
def S1(w:World)(os:OsState):SharedT:=⟨T1 w.params,630,PySem.Life.mk [] [] [] 0 [] [] false #[] [] 0 false false false 0 [2000,10,10] false 0 true [] [] 0 false,⟨[]⟩,PySem.Drawn.mk 0 0 0 0,962,os⟩
def T2(P:Params):BT:=(nd (boot_o_0 P) (nd (boot_o_1 P) (nd (o3_2 P) (nd (boot_o_7 P) (nd o15 (nd o31 (nd o63 (nd (o127 P) (nd o255 (lf o511) nl) (nd o383 (lf o639) nl)) (nd o191 (nd o319 (lf o575) nl) (nd o447 (lf o703) nl))) (nd o95 (nd o159 (nd o287 (lf o543) nl) (nd o415 (lf o671) nl)) (nd o223 (nd o351 (lf o607) nl) (nd o479 (lf o735) nl)))) (nd o47 (nd (o79 P) (nd o143 (nd (o271 P) (lf o527) nl) (nd o399 (lf o655) nl)) (nd o207 (nd o335 (lf o591) nl) (nd o463 (lf o719) nl))) (nd o111 (nd o175 (nd o303 (lf o559) nl) (nd o431 (lf o687) nl)) (nd o239 (nd o367 (lf o623) nl) (nd o495 (lf o751) nl))))) (nd o23 (nd o39 (nd o71 (nd o135 (nd o263 (lf o519) nl) (nd o391 (lf o647) nl)) (nd o199 (nd o327 (lf o583) nl) (nd o455 (lf o711) nl))) (nd (o103 P) (nd o167 (nd o295 (lf o551) nl) (nd o423 (lf o679) nl)) (nd (o231 P) (nd (o359 P) (lf o615) nl) (nd o487 (lf o743) nl)))) (nd (o55 P) (nd o87 (nd (o151 P) (nd o279 (lf o535) nl) (nd o407 (lf o663) nl)) (nd o215 (nd o343 (lf o599) nl) (nd o471 (lf o727) nl))) (nd o119 (nd o183 (nd o311 (lf o567) nl) (nd o439 (lf o695) nl)) (nd o247 (nd o375 (lf o631) nl) (lf o503)))))) (nd o11a (nd o19 (nd o35 (nd (o67 P) (nd o131 (nd o259 (lf o515) nl) (nd o387 (lf o643) nl)) (nd o195 (nd o323 (lf o579) nl) (nd o451 (lf o707) nl))) (nd o99 (nd o163 (nd o291 (lf o547) nl) (nd o419 (lf o675) nl)) (nd o227 (nd o355 (lf o611) nl) (nd o483 (lf o739) nl)))) (nd o51 (nd o83 (nd o147 (nd o275 (lf o531) nl) (nd o403 (lf o659) nl)) (nd (o211 P) (nd o339 (lf o595) nl) (nd o467 (lf o723) nl))) (nd (o115 P) (nd o179 (nd o307 (lf o563) nl) (nd o435 (lf o691) nl)) (nd o243 (nd o371 (lf o627) nl) (lf o499))))) (nd o27 (nd (o43 P) (nd o75 (nd (o139 P) (nd o267 (lf o523) nl) (nd o395 (lf o651) nl)) (nd (o203 P) (nd o331 (lf o587) nl) (nd o459 (lf o715) nl))) (nd o107 (nd o171 (nd o299 (lf o555) nl) (nd o427 (lf o683) nl)) (nd o235 (nd o363 (lf o619) nl) (nd o491 (lf o747) nl)))) (nd o59 (nd (o91 P) (nd o155 (nd o283 (lf o539) nl) (nd o411 (lf o667) nl)) (nd o219 (nd o347 (lf o603) nl) (nd o475 (lf o731) nl))) (nd o123 (nd o187 (nd o315 (lf o571) nl) (nd o443 (lf o699) nl)) (nd o251 (nd o379 (lf o635) nl) (lf o507))))))) (nd (boot_o_5 P) (nd (boot_o_9 P) (nd o17 (nd o33 (nd o65 (nd o129 (nd o257 (lf o513) nl) (nd o385 (lf o641) nl)) (nd o193 (nd o321 (lf o577) nl) (nd o449 (lf o705) nl))) (nd (o97 P) (nd o161 (nd o289 (lf o545) nl) (nd o417 (lf o673) nl)) (nd o225 (nd (o353 P) (lf o609) nl) (nd o481 (lf o737) nl)))) (nd (o49 P) (nd o81 (nd (o145 P) (nd o273 (lf o529) nl) (nd o401 (lf o657) nl)) (nd o209 (nd o337 (lf o593) nl) (nd o465 (lf o721) nl))) (nd o113 (nd o177 (nd o305 (lf o561) nl) (nd o433 (lf o689) nl)) (nd o241 (nd o369 (lf o625) nl) (lf o497))))) (nd o25 (nd o41 (nd (o73 P) (nd o137 (nd o265 (lf o521) nl) (nd o393 (lf o649) nl)) (nd o201 (nd o329 (lf o585) nl) (nd o457 (lf o713) nl))) (nd o105 (nd o169 (nd o297 (lf o553) nl) (nd o425 (lf o681) nl)) (nd o233 (nd o361 (lf o617) nl) (nd o489 (lf o745) nl)))) (nd o57 (nd o89 (nd o153 (nd o281 (lf o537) nl) (nd o409 (lf o665) nl)) (nd o217 (nd o345 (lf o601) nl) (nd o473 (lf o729) nl))) (nd (o121 P) (nd o185 (nd o313 (lf o569) nl) (nd o441 (lf o697) nl)) (nd o249 (nd o377 (lf o633) nl) (lf o505)))))) (nd o13a (nd o21 (nd (o37 P) (nd o69 (nd (o133 P) (nd o261 (lf o517) nl) (nd o389 (lf o645) nl)) (nd (o197 P) (nd o325 (lf o581) nl) (nd o453 (lf o709) nl))) (nd o101 (nd o165 (nd o293 (lf o549) nl) (nd o421 (lf o677) nl)) (nd o229 (nd o357 (lf o613) nl) (nd o485 (lf o741) nl)))) (nd o53 (nd (o85 P) (nd o149 (nd (o277 P) (lf o533) nl) (nd o405 (lf o661) nl)) (nd o213 (nd o341 (lf o597) nl) (nd o469 (lf o725) nl))) (nd o117 (nd o181 (nd o309 (lf o565) nl) (nd o437 (lf o693) nl)) (nd o245 (nd o373 (lf o629) nl) (lf o501))))) (nd o29 (nd o45 (nd o77 (nd o141 (nd o269 (lf o525) nl) (nd o397 (lf o653) nl)) (nd o205 (nd o333 (lf o589) nl) (nd o461 (lf o717) nl))) (nd (o109 P) (nd o173 (nd o301 (lf o557) nl) (nd o429 (lf o685) nl)) (nd (o237 P) (nd o365 (lf o621) nl) (nd o493 (lf o749) nl)))) (nd (o61 P) (nd o93 (nd o157 (nd o285 (lf o541) nl) (nd o413 (lf o669) nl)) (nd o221 (nd o349 (lf o605) nl) (nd o477 (lf o733) nl))) (nd o125 (nd o189 (nd o317 (lf o573) nl) (nd o445 (lf o701) nl)) (nd o253 (nd o381 (lf o637) nl) (lf o509)))))))) (nd (boot_o_2 P) (nd (boot_o_4 P) (nd (boot_o_8 P) (nd o16 (nd o32 (nd o64 (nd o128 (nd o256 (lf o512) nl) (nd o384 (lf o640) nl)) (nd o192 (nd o320 (lf o576) nl) (nd (o448 P) (lf o704) nl))) (nd o96 (nd o160 (nd o288 (lf o544) nl) (nd o416 (lf o672) nl)) (nd o224 (nd o352 (lf o608) nl) (nd o480 (lf o736) nl)))) (nd o48 (nd o80 (nd o144 (nd o272 (lf o528) nl) (nd o400 (lf o656) nl)) (nd o208 (nd o336 (lf o592) nl) (nd o464 (lf o720) nl))) (nd o112 (nd o176 (nd o304 (lf o560) nl) (nd o432 (lf o688) nl)) (nd o240 (nd o368 (lf o624) nl) (nd o496 (lf o752) nl))))) (nd (o24 P) (nd o40 (nd o72 (nd o136 (nd o264 (lf o520) nl) (nd o392 (lf o648) nl)) (nd o200 (nd o328 (lf o584) nl) (nd o456 (lf o712) nl))) (nd o104 (nd o168 (nd o296 (lf o552) nl) (nd o424 (lf o680) nl)) (nd o232 (nd o360 (lf o616) nl) (nd o488 (lf o744) nl)))) (nd o56 (nd o88 (nd o152 (nd o280 (lf o536) nl) (nd o408 (lf o664) nl)) (nd o216 (nd o344 (lf o600) nl) (nd o472 (lf o728) nl))) (nd o120 (nd o184 (nd o312 (lf o568) nl) (nd o440 (lf o696) nl)) (nd o248 (nd o376 (lf o632) nl) (lf o504)))))) (nd o12_2 (nd o20 (nd o36 (nd o68 (nd o132 (nd o260 (lf (o516 P)) nl) (nd o388 (lf o644) nl)) (nd o196 (nd o324 (lf o580) nl) (nd o452 (lf o708) nl))) (nd o100 (nd o164 (nd o292 (lf o548) nl) (nd o420 (lf o676) nl)) (nd o228 (nd o356 (lf o612) nl) (nd o484 (lf o740) nl)))) (nd o52 (nd o84 (nd o148 (nd o276 (lf o532) nl) (nd o404 (lf o660) nl)) (nd o212 (nd o340 (lf o596) nl) (nd o468 (lf o724) nl))) (nd o116 (nd o180 (nd o308 (lf o564) nl) (nd o436 (lf o692) nl)) (nd o244 (nd o372 (lf o628) nl) (lf o500))))) (nd o28 (nd o44 (nd o76 (nd o140 (nd o268 (lf o524) nl) (nd o396 (lf o652) nl)) (nd o204_1 (nd o332 (lf o588) nl) (nd o460 (lf o716) nl))) (nd o108 (nd o172 (nd o300 (lf o556) nl) (nd o428 (lf o684) nl)) (nd o236 (nd o364 (lf o620) nl) (nd o492 (lf o748) nl)))) (nd o60 (nd o92 (nd o156 (nd o284 (lf o540) nl) (nd o412 (lf o668) nl)) (nd o220 (nd o348 (lf o604) nl) (nd o476 (lf o732) nl))) (nd o124 (nd o188 (nd o316 (lf o572) nl) (nd o444 (lf o700) nl)) (nd o252 (nd o380 (lf o636) nl) (lf o508))))))) (nd (boot_o_6 P) (nd (boot_o_10 P) (nd o18 (nd o34 (nd o66 (nd o130 (nd o258 (lf o514) nl) (nd o386 (lf o642) nl)) (nd o194 (nd o322 (lf (o578 P)) nl) (nd o450 (lf o706) nl))) (nd o98 (nd o162 (nd o290 (lf o546) nl) (nd o418 (lf o674) nl)) (nd o226 (nd o354 (lf o610) nl) (nd o482 (lf o738) nl)))) (nd o50 (nd o82 (nd o146 (nd o274 (lf o530) nl) (nd o402 (lf o658) nl)) (nd o210 (nd o338 (lf o594) nl) (nd o466 (lf o722) nl))) (nd o114 (nd o178 (nd o306 (lf o562) nl) (nd o434 (lf o690) nl)) (nd o242 (nd o370 (lf o626) nl) (lf o498))))) (nd o26 (nd o42 (nd o74 (nd o138 (nd o266 (lf o522) nl) (nd o394 (lf o650) nl)) (nd o202 (nd o330 (lf o586) nl) (nd o458 (lf o714) nl))) (nd o106 (nd o170 (nd o298 (lf o554) nl) (nd o426 (lf o682) nl)) (nd o234 (nd o362 (lf o618) nl) (nd o490 (lf o746) nl)))) (nd o58 (nd o90 (nd o154 (nd o282 (lf o538) nl) (nd o410 (lf o666) nl)) (nd o218 (nd o346 (lf o602) nl) (nd o474 (lf o730) nl))) (nd o122 (nd o186 (nd o314 (lf o570) nl) (nd (o442 P) (lf o698) nl)) (nd o250 (nd o378 (lf o634) nl) (lf o506)))))) (nd o14a (nd o22 (nd o38 (nd o70 (nd o134 (nd o262 (lf o518) nl) (nd o390 (lf o646) nl)) (nd o198 (nd o326 (lf o582) nl) (nd o454 (lf o710) nl))) (nd o102 (nd o166 (nd o294 (lf o550) nl) (nd o422 (lf o678) nl)) (nd o230 (nd o358 (lf o614) nl) (nd o486 (lf o742) nl)))) (nd o54 (nd o86 (nd o150 (nd o278 (lf o534) nl) (nd o406 (lf o662) nl)) (nd o214 (nd o342 (lf o598) nl) (nd o470 (lf o726) nl))) (nd o118 (nd o182 (nd o310 (lf o566) nl) (nd o438 (lf o694) nl)) (nd o246 (nd o374 (lf o630) nl) (lf o502))))) (nd (o30 P) (nd o46 (nd o78 (nd o142 (nd o270 (lf o526) nl) (nd o398 (lf o654) nl)) (nd o206 (nd o334 (lf o590) nl) (nd o462 (lf o718) nl))) (nd o110 (nd o174 (nd o302 (lf o558) nl) (nd o430 (lf o686) nl)) (nd o238 (nd o366 (lf o622) nl) (nd o494 (lf o750) nl)))) (nd o62 (nd o94 (nd o158 (nd o286 (lf o542) nl) (nd o414 (lf o670) nl)) (nd o222 (nd o350 (lf o606) nl) (nd o478 (lf o734) nl))) (nd o126 (nd o190 (nd o318 (lf o574) nl) (nd o446 (lf o702) nl)) (nd o254 (nd o382 (lf o638) nl) (lf (o510 P))))))))))
def S2(w:World)(os:OsState):SharedT:=⟨T2 w.params,753,PySem.Life.mk [] [] [] 0 [] [] false #[] [] 0 false false false 0 [2000,10,10] false 0 true [] [] 0 false,⟨[]⟩,PySem.Drawn.mk 0 0 0 0,1142,os⟩
def Hf(P:Params):Heap:=⟨⟨[boot_o_0 P,boot_o_1 P,boot_o_2 P,o3_2 P,boot_o_4 P,boot_o_5 P,boot_o_6 P,boot_o_7 P,boot_o_8 P,boot_o_9 P,boot_o_10 P,o11a,o12_2,o13a,o14a,o15,o16,o17,o18,o19,o20,o21,o22,o23,o24 P,o25,o26,o27,o28,o29,o30 P,o31,o32,o33,o34,o35,o36,o37 P,o38,o39,o40,o41,o42,o43 P,o44,o45,o46,o47,o48,o49 P,o50,o51,o52,o53,o54,o55 P,o56,o57,o58,o59,o60,o61 P,o62,o63,o64,o65,o66,o67 P,o68,o69,o70,o71,o72,o73 P,o74,o75,o76,o77,o78,o79 P,o80,o81,o82,o83,o84,o85 P,o86,o87,o88,o89,o90,o91 P,o92,o93,o94,o95,o96,o97 P,o98,o99,o100,o101,o102,o103 P,o104,o105,o106,o107,o108,o109 P,o110,o111,o112,o113,o114,o115 P,o116,o117,o118,o119,o120,o121 P,o122,o123,o124,o125,o126,o127 P,o128,o129,o130,o131,o132,o133 P,o134,o135,o136,o137,o138,o139 P,o140,o141,o142,o143,o144,o145 P,o146,o147,o148,o149,o150,o151 P,o152,o153,o154,o155,o156,o157,o158,o159,o160,o161,o162,o163,o164,o165,o166,o167,o168,o169,o170,o171,o172,o173,o174,o175,o176,o177,o178,o179,o180,o181,o182,o183,o184,o185,o186,o187,o188,o189,o190,o191,o192,o193,o194,o195,o196,o197 P,o198,o199,o200,o201,o202,o203 P,o204_1,o205,o206,o207,o208,o209,o210,o211 P,o212,o213,o214,o215,o216,o217,o218,o219,o220,o221,o222,o223,o224,o225,o226,o227,o228,o229,o230,o231 P,o232,o233,o234,o235,o236,o237 P,o238,o239,o240,o241,o242,o243,o244,o245,o246,o247,o248,o249,o250,o251,o252,o253,o254,o255,o256,o257,o258,o259,o260,o261,o262,o263,o264,o265,o266,o267,o268,o269,o270,o271 P,o272,o273,o274,o275,o276,o277 P,o278,o279,o280,o281,o282,o283,o284,o285,o286,o287,o288,o289,o290,o291,o292,o293,o294,o295,o296,o297,o298,o299,o300,o301,o302,o303,o304,o305,o306,o307,o308,o309,o310,o311,o312,o313,o314,o315,o316,o317,o318,o319,o320,o321,o322,o323,o324,o325,o326,o327,o328,o329,o330,o331,o332,o333,o334,o335,o336,o337,o338,o339,o340,o341,o342,o343,o344,o345,o346,o347,o348,o349,o350,o351,o352,o353 P,o354,o355,o356,o357,o358,o359 P,o360,o361,o362,o363,o364,o365,o366,o367,o368,o369,o370,o371,o372,o373,o374,o375,o376,o377,o378,o379,o380,o381,o382,o383,o384,o385,o386,o387,o388,o389,o390,o391,o392,o393,o394,o395,o396,o397,o398,o399,o400,o401,o402,o403,o404,o405,o406,o407,o408,o409,o410,o411,o412,o413,o414,o415,o416,o417,o418,o419,o420,o421,o422,o423,o424,o425,o426,o427,o428,o429,o430,o431,o432,o433,o434,o435,o436,o437,o438,o439,o440,o441,o442 P,o443,o444,o445,o446,o447,o448 P,o449,o450,o451,o452,o453,o454,o455,o456,o457,o458,o459,o460,o461,o462,o463,o464,o465,o466,o467,o468,o469,o470,o471,o472,o473,o474,o475,o476,o477,o478,o479,o480,o481,o482,o483,o484,o485,o486,o487,o488,o489,o490,o491,o492,o493,o494,o495,o496,o497,o498,o499,o500,o501,o502,o503,o504,o505,o506,o507,o508,o509,o510 P,o511,o512,o513,o514,o515,o516 P,o517,o518,o519,o520,o521,o522,o523,o524,o525,o526,o527,o528,o529,o530,o531,o532,o533,o534,o535,o536,o537,o538,o539,o540,o541,o542,o543,o544,o545,o546,o547,o548,o549,o550,o551,o552,o553,o554,o555,o556,o557,o558,o559,o560,o561,o562,o563,o564,o565,o566,o567,o568,o569,o570,o571,o572,o573,o574,o575,o576,o577,o578 P,o579,o580,o581,o582,o583,o584,o585,o586,o587,o588,o589,o590,o591,o592,o593,o594,o595,o596,o597,o598,o599,o600,o601,o602,o603,o604,o605,o606,o607,o608,o609,o610,o611,o612,o613,o614,o615,o616,o617,o618,o619,o620,o621,o622,o623,o624,o625,o626,o627,o628,o629,o630,o631,o632,o633,o634,o635,o636,o637,o638,o639,o640,o641,o642,o643,o644,o645,o646,o647,o648,o649,o650,o651,o652,o653,o654,o655,o656,o657,o658,o659,o660,o661,o662,o663,o664,o665,o666,o667,o668,o669,o670,o671,o672,o673,o674,o675,o676,o677,o678,o679,o680,o681,o682,o683,o684,o685,o686,o687,o688,o689,o690,o691,o692,o693,o694,o695,o696,o697,o698,o699,o700,o701,o702,o703,o704,o705,o706,o707,o708,o709,o710,o711,o712,o713,o714,o715,o716,o717,o718,o719,o720,o721,o722,o723,o724,o725,o726,o727,o728,o729,o730,o731,o732,o733,o734,o735,o736,o737,o738,o739,o740,o741,o742,o743,o744,o745,o746,o747,o748,o749,o750,o751,o752]⟩,PySem.Life.mk [] [] [] 0 [] [] false #[] [] 0 false false false 0 [2000,10,10] false 0 true [] [] 0 false⟩
def Sf(w:World)(os:OsState):Shared:=⟨Hf w.params,⟨[]⟩,PySem.Drawn.mk 0 0 0 0,1142,os⟩
theorem pre_(w:World)(os:OsState):topGo treeTable Fast.tw9920906252200871378 w 11 ((some (r 6))) 12 ⟨boot_heap w.params,⟨[]⟩,boot_drawn,boot_toks,os⟩ (topStub Fast.tw9920906252200871378)=some (Sa w os,⟨denote treeTable cT,cT,⟨0,0,0,0⟩,[topFrame qP]⟩):=by(try rw[Fast.te15667345088766844465]);(try rw[Fast.te14082659384304107361]);(try rw[Fast.te14374325043358763698]);(try rw[Fast.te10110043849684766642]);(try rw[Fast.te14364793385576792824]);(try rw[Fast.te11892475500146522536]);(try rw[Fast.te4187177175401517315]);(try rw[Fast.te5923862056798008813]);(try rw[Fast.te8920871248978507458]);kernel_rfl
theorem block_(w:World)(os:OsState):segRun treeTable Fast.tw9920906252200871378 w 11 ((some (r 6))) 1 1 (Sa w os) (blockOf (behindTheImports Fast.tw9920906252200871378) envT cT ⟨0,0,0,0⟩ [topFrame qP])=some (.next,(Sb w os).abs,cT,⟨0,0,0,0⟩):=by(try rw[Fast.te15667345088766844465]);(try rw[Fast.te14082659384304107361]);(try rw[Fast.te14374325043358763698]);(try rw[Fast.te10110043849684766642]);(try rw[Fast.te14364793385576792824]);(try rw[Fast.te11892475500146522536]);(try rw[Fast.te4187177175401517315]);(try rw[Fast.te5923862056798008813]);(try rw[Fast.te8920871248978507458]);kernel_rfl
def sts0:List Stmt:=[topT 0,topT 1,topT 2,topT 3,topT 4,topT 5,topT 6,topT 7,topT 8,topT 9,topT 10,topT 11,topT 12,topT 13,topT 14,topT 15,topT 16,topT 17,topT 18,topT 19,topT 20,topT 21,topT 22,topT 23,topT 24]
theorem pc0(w:World)(os:OsState):segRunT treeTable Fast.tw9920906252200871378 w 11 ((some (r 6))) 1 2766 (Sb w os) (piecesOf sts0 envT cT ⟨0,0,0,0⟩ [topFrame qP])=some (.next,S0 w os,cT,⟨67,0,68,8⟩):=by(try rw[Fast.te15667345088766844465]);(try rw[Fast.te14082659384304107361]);(try rw[Fast.te14374325043358763698]);(try rw[Fast.te10110043849684766642]);(try rw[Fast.te14364793385576792824]);(try rw[Fast.te11892475500146522536]);(try rw[Fast.te4187177175401517315]);(try rw[Fast.te5923862056798008813]);(try rw[Fast.te8920871248978507458]);kernel_rfl
def sts1:List Stmt:=[topT 25,topT 26,topT 27,topT 28,topT 29,topT 30,topT 31,topT 32,topT 33,topT 34,topT 35,topT 36,topT 37,topT 38,topT 39,topT 40,topT 41,topT 42,topT 43,topT 44,topT 45]
theorem pc1(w:World)(os:OsState):segRunT treeTable Fast.tw9920906252200871378 w 11 ((some (r 6))) 1 2994 (S0 w os) (piecesOf sts1 envT cT ⟨67,0,68,8⟩ [topFrame qP])=some (.next,S1 w os,cT,⟨284,0,287,47⟩):=by(try rw[Fast.te15667345088766844465]);(try rw[Fast.te14082659384304107361]);(try rw[Fast.te14374325043358763698]);(try rw[Fast.te10110043849684766642]);(try rw[Fast.te14364793385576792824]);(try rw[Fast.te11892475500146522536]);(try rw[Fast.te4187177175401517315]);(try rw[Fast.te5923862056798008813]);(try rw[Fast.te8920871248978507458]);kernel_rfl
def sts2:List Stmt:=[topT 46,topT 47,topT 48,topT 49,topT 50,topT 51,topT 52,topT 53,topT 54,topT 55,topT 56,topT 57,topT 58,topT 59,topT 60,topT 61,topT 62,topT 63,topT 64]
theorem pc2(w:World)(os:OsState):segRunT treeTable Fast.tw9920906252200871378 w 11 ((some (r 6))) 1 589 (S1 w os) (piecesOf sts2 envT cT ⟨284,0,287,47⟩ [topFrame qP])=some (.next,S2 w os,cT,⟨464,0,477,158⟩):=by(try rw[Fast.te15667345088766844465]);(try rw[Fast.te14082659384304107361]);(try rw[Fast.te14374325043358763698]);(try rw[Fast.te10110043849684766642]);(try rw[Fast.te14364793385576792824]);(try rw[Fast.te11892475500146522536]);(try rw[Fast.te4187177175401517315]);(try rw[Fast.te5923862056798008813]);(try rw[Fast.te8920871248978507458]);kernel_rfl
theorem fin_(w:World)(os:OsState):topRun treeTable Fast.tw9920906252200871378 w 11 ((some (r 6))) 2 (S2 w os).abs ⟨doneF .next,cT,⟨464,0,477,158⟩,[topFrame qP]⟩=some (Sf w os):=by(try rw[Fast.te15667345088766844465]);(try rw[Fast.te14082659384304107361]);(try rw[Fast.te14374325043358763698]);(try rw[Fast.te10110043849684766642]);(try rw[Fast.te14364793385576792824]);(try rw[Fast.te11892475500146522536]);(try rw[Fast.te4187177175401517315]);(try rw[Fast.te5923862056798008813]);(try rw[Fast.te8920871248978507458]);kernel_rfl
theorem body_eq:behindTheImports Fast.tw9920906252200871378=(sts0++(sts1++(sts2++[]))):=by kernel_rfl
theorem run_(w:World)(os:OsState):topRun treeTable Fast.tw9920906252200871378 w 11 ((some (r 6))) (12+(1+(2766+(2994+(589+2))))) ⟨boot_heap w.params,⟨[]⟩,boot_drawn,boot_toks,os⟩ (topStub Fast.tw9920906252200871378)=some (Sf w os):=by
  have h:=(piece_app (segRun_of (pc0 w os)) (piece_app (segRun_of (pc1 w os)) (piece_app (segRun_of (pc2 w os)) (piece_nil (fin_ w os)))))
  rw[← body_eq]at h
  exact go_top (pre_ w os) (piece_block (block_ w os) h)
def K(P:Params):Frag:=(nat_lit 2,boot_o_2 P)::(nat_lit 3,o3_2 P)::(nat_lit 15,o15)::(nat_lit 17,o17)::(nat_lit 18,o18)::(nat_lit 20,o20)::(nat_lit 21,o21)::(nat_lit 22,o22)::(nat_lit 29,o29)::(nat_lit 30,o30 P)::(nat_lit 31,o31)::(nat_lit 32,o32)::(nat_lit 35,o35)::(nat_lit 42,o42)::(nat_lit 43,o43 P)::(nat_lit 44,o44)::(nat_lit 47,o47)::(nat_lit 54,o54)::(nat_lit 55,o55 P)::(nat_lit 56,o56)::(nat_lit 59,o59)::(nat_lit 66,o66)::(nat_lit 67,o67 P)::(nat_lit 68,o68)::(nat_lit 71,o71)::(nat_lit 78,o78)::(nat_lit 79,o79 P)::(nat_lit 80,o80)::(nat_lit 83,o83)::(nat_lit 90,o90)::(nat_lit 91,o91 P)::(nat_lit 92,o92)::(nat_lit 95,o95)::(nat_lit 102,o102)::(nat_lit 103,o103 P)::(nat_lit 104,o104)::(nat_lit 107,o107)::(nat_lit 114,o114)::(nat_lit 115,o115 P)::(nat_lit 116,o116)::(nat_lit 119,o119)::(nat_lit 126,o126)::(nat_lit 127,o127 P)::(nat_lit 128,o128)::(nat_lit 131,o131)::(nat_lit 138,o138)::(nat_lit 139,o139 P)::(nat_lit 140,o140)::(nat_lit 143,o143)::(nat_lit 150,o150)::(nat_lit 151,o151 P)::(nat_lit 152,o152)::(nat_lit 155,o155)::(nat_lit 157,o157)::(nat_lit 158,o158)::(nat_lit 160,o160)::(nat_lit 161,o161)::(nat_lit 162,o162)::(nat_lit 164,o164)::(nat_lit 165,o165)::(nat_lit 167,o167)::(nat_lit 168,o168)::(nat_lit 169,o169)::(nat_lit 171,o171)::(nat_lit 172,o172)::(nat_lit 174,o174)::(nat_lit 175,o175)::(nat_lit 176,o176)::(nat_lit 179,o179)::(nat_lit 180,o180)::(nat_lit 181,o181)::(nat_lit 183,o183)::(nat_lit 184,o184)::(nat_lit 186,o186)::(nat_lit 187,o187)::(nat_lit 188,o188)::(nat_lit 190,o190)::(nat_lit 191,o191)::(nat_lit 193,o193)::(nat_lit 194,o194)::(nat_lit 202,o202)::(nat_lit 203,o203 P)::(nat_lit 204,o204_1)::(nat_lit 205,o205)::(nat_lit 206,o206)::(nat_lit 209,o209)::(nat_lit 216,o216)::(nat_lit 218,o218)::(nat_lit 219,o219)::(nat_lit 221,o221)::(nat_lit 222,o222)::(nat_lit 223,o223)::(nat_lit 225,o225)::(nat_lit 226,o226)::(nat_lit 228,o228)::(nat_lit 229,o229)::(nat_lit 230,o230)::(nat_lit 231,o231 P)::(nat_lit 232,o232)::(nat_lit 235,o235)::(nat_lit 242,o242)::(nat_lit 244,o244)::(nat_lit 245,o245)::(nat_lit 247,o247)::(nat_lit 248,o248)::(nat_lit 249,o249)::(nat_lit 251,o251)::(nat_lit 252,o252)::(nat_lit 254,o254)::(nat_lit 255,o255)::(nat_lit 256,o256)::(nat_lit 258,o258)::(nat_lit 259,o259)::(nat_lit 261,o261)::(nat_lit 262,o262)::(nat_lit 263,o263)::(nat_lit 265,o265)::(nat_lit 266,o266)::(nat_lit 268,o268)::(nat_lit 269,o269)::(nat_lit 270,o270)::(nat_lit 271,o271 P)::(nat_lit 272,o272)::(nat_lit 275,o275)::(nat_lit 282,o282)::(nat_lit 284,o284)::(nat_lit 285,o285)::(nat_lit 287,o287)::(nat_lit 288,o288)::(nat_lit 289,o289)::(nat_lit 291,o291)::(nat_lit 292,o292)::(nat_lit 294,o294)::(nat_lit 295,o295)::(nat_lit 296,o296)::(nat_lit 298,o298)::(nat_lit 299,o299)::(nat_lit 301,o301)::(nat_lit 302,o302)::(nat_lit 303,o303)::(nat_lit 305,o305)::(nat_lit 306,o306)::(nat_lit 308,o308)::(nat_lit 309,o309)::(nat_lit 310,o310)::(nat_lit 312,o312)::(nat_lit 313,o313)::(nat_lit 315,o315)::(nat_lit 316,o316)::(nat_lit 317,o317)::(nat_lit 319,o319)::(nat_lit 320,o320)::(nat_lit 322,o322)::(nat_lit 323,o323)::(nat_lit 324,o324)::(nat_lit 326,o326)::(nat_lit 327,o327)::(nat_lit 329,o329)::(nat_lit 330,o330)::(nat_lit 331,o331)::(nat_lit 333,o333)::(nat_lit 334,o334)::(nat_lit 336,o336)::(nat_lit 337,o337)::(nat_lit 338,o338)::(nat_lit 340,o340)::(nat_lit 341,o341)::(nat_lit 343,o343)::(nat_lit 344,o344)::(nat_lit 345,o345)::(nat_lit 347,o347)::(nat_lit 348,o348)::(nat_lit 350,o350)::(nat_lit 351,o351)::(nat_lit 352,o352)::(nat_lit 353,o353 P)::(nat_lit 354,o354)::(nat_lit 357,o357)::(nat_lit 364,o364)::(nat_lit 366,o366)::(nat_lit 367,o367)::(nat_lit 369,o369)::(nat_lit 370,o370)::(nat_lit 371,o371)::(nat_lit 373,o373)::(nat_lit 374,o374)::(nat_lit 376,o376)::(nat_lit 377,o377)::(nat_lit 378,o378)::(nat_lit 380,o380)::(nat_lit 381,o381)::(nat_lit 383,o383)::(nat_lit 384,o384)::(nat_lit 385,o385)::(nat_lit 387,o387)::(nat_lit 388,o388)::(nat_lit 390,o390)::(nat_lit 391,o391)::(nat_lit 392,o392)::(nat_lit 394,o394)::(nat_lit 395,o395)::(nat_lit 397,o397)::(nat_lit 398,o398)::(nat_lit 399,o399)::(nat_lit 401,o401)::(nat_lit 402,o402)::(nat_lit 404,o404)::(nat_lit 405,o405)::(nat_lit 406,o406)::(nat_lit 408,o408)::(nat_lit 409,o409)::(nat_lit 411,o411)::(nat_lit 412,o412)::(nat_lit 413,o413)::(nat_lit 415,o415)::(nat_lit 416,o416)::(nat_lit 418,o418)::(nat_lit 419,o419)::(nat_lit 420,o420)::(nat_lit 422,o422)::(nat_lit 423,o423)::(nat_lit 425,o425)::(nat_lit 426,o426)::(nat_lit 427,o427)::(nat_lit 429,o429)::(nat_lit 430,o430)::(nat_lit 432,o432)::(nat_lit 433,o433)::(nat_lit 434,o434)::(nat_lit 436,o436)::(nat_lit 437,o437)::(nat_lit 439,o439)::(nat_lit 440,o440)::(nat_lit 441,o441)::(nat_lit 442,o442 P)::(nat_lit 443,o443)::(nat_lit 446,o446)::(nat_lit 453,o453)::(nat_lit 455,o455)::(nat_lit 456,o456)::(nat_lit 458,o458)::(nat_lit 459,o459)::(nat_lit 460,o460)::(nat_lit 462,o462)::(nat_lit 463,o463)::(nat_lit 465,o465)::(nat_lit 466,o466)::(nat_lit 467,o467)::(nat_lit 469,o469)::(nat_lit 470,o470)::(nat_lit 472,o472)::(nat_lit 473,o473)::(nat_lit 474,o474)::(nat_lit 476,o476)::(nat_lit 477,o477)::(nat_lit 479,o479)::(nat_lit 480,o480)::(nat_lit 481,o481)::(nat_lit 483,o483)::(nat_lit 484,o484)::(nat_lit 486,o486)::(nat_lit 487,o487)::(nat_lit 488,o488)::(nat_lit 490,o490)::(nat_lit 491,o491)::(nat_lit 493,o493)::(nat_lit 494,o494)::(nat_lit 495,o495)::(nat_lit 497,o497)::(nat_lit 498,o498)::(nat_lit 500,o500)::(nat_lit 501,o501)::(nat_lit 502,o502)::(nat_lit 504,o504)::(nat_lit 505,o505)::(nat_lit 507,o507)::(nat_lit 508,o508)::(nat_lit 509,o509)::(nat_lit 510,o510 P)::(nat_lit 511,o511)::(nat_lit 514,o514)::(nat_lit 521,o521)::(nat_lit 523,o523)::(nat_lit 524,o524)::(nat_lit 526,o526)::(nat_lit 527,o527)::(nat_lit 528,o528)::(nat_lit 530,o530)::(nat_lit 531,o531)::(nat_lit 533,o533)::(nat_lit 534,o534)::(nat_lit 535,o535)::(nat_lit 537,o537)::(nat_lit 538,o538)::(nat_lit 540,o540)::(nat_lit 541,o541)::(nat_lit 542,o542)::(nat_lit 544,o544)::(nat_lit 545,o545)::(nat_lit 547,o547)::(nat_lit 548,o548)::(nat_lit 549,o549)::(nat_lit 551,o551)::(nat_lit 552,o552)::(nat_lit 554,o554)::(nat_lit 555,o555)::(nat_lit 556,o556)::(nat_lit 558,o558)::(nat_lit 559,o559)::(nat_lit 561,o561)::(nat_lit 562,o562)::(nat_lit 563,o563)::(nat_lit 565,o565)::(nat_lit 566,o566)::(nat_lit 568,o568)::(nat_lit 569,o569)::(nat_lit 570,o570)::(nat_lit 572,o572)::(nat_lit 573,o573)::(nat_lit 575,o575)::(nat_lit 576,o576)::(nat_lit 577,o577)::(nat_lit 578,o578 P)::(nat_lit 579,o579)::(nat_lit 582,o582)::(nat_lit 585,o585)::(nat_lit 586,o586)::(nat_lit 587,o587)::(nat_lit 590,o590)::(nat_lit 591,o591)::(nat_lit 592,o592)::(nat_lit 594,o594)::(nat_lit 595,o595)::(nat_lit 597,o597)::(nat_lit 598,o598)::(nat_lit 599,o599)::(nat_lit 602,o602)::(nat_lit 603,o603)::(nat_lit 604,o604)::(nat_lit 607,o607)::(nat_lit 608,o608)::(nat_lit 609,o609)::(nat_lit 611,o611)::(nat_lit 612,o612)::(nat_lit 614,o614)::(nat_lit 615,o615)::(nat_lit 616,o616)::(nat_lit 618,o618)::(nat_lit 619,o619)::(nat_lit 621,o621)::(nat_lit 622,o622)::(nat_lit 623,o623)::(nat_lit 625,o625)::(nat_lit 626,o626)::(nat_lit 628,o628)::(nat_lit 629,o629)::(nat_lit 630,o630)::(nat_lit 632,o632)::(nat_lit 633,o633)::(nat_lit 635,o635)::(nat_lit 636,o636)::(nat_lit 637,o637)::(nat_lit 639,o639)::(nat_lit 640,o640)::(nat_lit 642,o642)::(nat_lit 643,o643)::(nat_lit 644,o644)::(nat_lit 646,o646)::(nat_lit 647,o647)::(nat_lit 649,o649)::(nat_lit 650,o650)::(nat_lit 651,o651)::(nat_lit 653,o653)::(nat_lit 654,o654)::(nat_lit 656,o656)::(nat_lit 657,o657)::(nat_lit 658,o658)::(nat_lit 660,o660)::(nat_lit 661,o661)::(nat_lit 663,o663)::(nat_lit 664,o664)::(nat_lit 665,o665)::(nat_lit 667,o667)::(nat_lit 668,o668)::(nat_lit 670,o670)::(nat_lit 671,o671)::(nat_lit 672,o672)::(nat_lit 674,o674)::(nat_lit 675,o675)::(nat_lit 677,o677)::(nat_lit 678,o678)::(nat_lit 679,o679)::(nat_lit 682,o682)::(nat_lit 683,o683)::(nat_lit 684,o684)::(nat_lit 687,o687)::(nat_lit 688,o688)::(nat_lit 689,o689)::(nat_lit 692,o692)::(nat_lit 693,o693)::(nat_lit 694,o694)::(nat_lit 697,o697)::(nat_lit 698,o698)::(nat_lit 699,o699)::(nat_lit 701,o701)::(nat_lit 702,o702)::(nat_lit 704,o704)::(nat_lit 705,o705)::(nat_lit 706,o706)::(nat_lit 708,o708)::(nat_lit 709,o709)::(nat_lit 711,o711)::(nat_lit 712,o712)::(nat_lit 713,o713)::(nat_lit 715,o715)::(nat_lit 716,o716)::(nat_lit 718,o718)::(nat_lit 719,o719)::(nat_lit 720,o720)::(nat_lit 723,o723)::(nat_lit 724,o724)::(nat_lit 725,o725)::(nat_lit 727,o727)::(nat_lit 728,o728)::(nat_lit 730,o730)::(nat_lit 731,o731)::(nat_lit 732,o732)::(nat_lit 734,o734)::(nat_lit 735,o735)::(nat_lit 737,o737)::(nat_lit 738,o738)::(nat_lit 739,o739)::(nat_lit 741,o741)::(nat_lit 742,o742)::(nat_lit 744,o744)::(nat_lit 745,o745)::(nat_lit 746,o746)::(nat_lit 748,o748)::(nat_lit 749,o749)::(nat_lit 751,o751)::(nat_lit 752,o752)::[]
def KA:List Addr:=[2,3,15,17,18,20,21,22,29,30,31,32,35,42,43,44,47,54,55,56,59,66,67,68,71,78,79,80,83,90,91,92,95,102,103,104,107,114,115,116,119,126,127,128,131,138,139,140,143,150,151,152,155,157,158,160,161,162,164,165,167,168,169,171,172,174,175,176,179,180,181,183,184,186,187,188,190,191,193,194,202,203,204,205,206,209,216,218,219,221,222,223,225,226,228,229,230,231,232,235,242,244,245,247,248,249,251,252,254,255,256,258,259,261,262,263,265,266,268,269,270,271,272,275,282,284,285,287,288,289,291,292,294,295,296,298,299,301,302,303,305,306,308,309,310,312,313,315,316,317,319,320,322,323,324,326,327,329,330,331,333,334,336,337,338,340,341,343,344,345,347,348,350,351,352,353,354,357,364,366,367,369,370,371,373,374,376,377,378,380,381,383,384,385,387,388,390,391,392,394,395,397,398,399,401,402,404,405,406,408,409,411,412,413,415,416,418,419,420,422,423,425,426,427,429,430,432,433,434,436,437,439,440,441,442,443,446,453,455,456,458,459,460,462,463,465,466,467,469,470,472,473,474,476,477,479,480,481,483,484,486,487,488,490,491,493,494,495,497,498,500,501,502,504,505,507,508,509,510,511,514,521,523,524,526,527,528,530,531,533,534,535,537,538,540,541,542,544,545,547,548,549,551,552,554,555,556,558,559,561,562,563,565,566,568,569,570,572,573,575,576,577,578,579,582,585,586,587,590,591,592,594,595,597,598,599,602,603,604,607,608,609,611,612,614,615,616,618,619,621,622,623,625,626,628,629,630,632,633,635,636,637,639,640,642,643,644,646,647,649,650,651,653,654,656,657,658,660,661,663,664,665,667,668,670,671,672,674,675,677,678,679,682,683,684,687,688,689,692,693,694,697,698,699,701,702,704,705,706,708,709,711,712,713,715,716,718,719,720,723,724,725,727,728,730,731,732,734,735,737,738,739,741,742,744,745,746,748,749,751,752]
theorem KA_eq(P:Params):KA=(K P).map (·.1):=by kernel_rfl
def topO(i:Nat):Stmt:=PySem.Challenge.pw_weighwalk_k92_odd_machines.main.body.getD i (.Pass ⟨0,0,0,0⟩)
theorem b0f:topT=topO:=by unfold topT topO;rw[Fast.te9920906252200871378]
def qT:Program:={ Fast.tw9920906252200871378 with main:={ Fast.tw9920906252200871378.main with body:=[topT 0,topT 2,topT 3,topT 4,topT 5,topT 6,topT 7,topT 8,topT 9,topT 10,topT 11,topT 12,topT 14,topT 15,topT 16,topT 18,topT 19,topT 20,topT 21,topT 22,topT 23,topT 24,topT 25,topT 26,topT 27,topT 28,topT 29,topT 30,topT 32,topT 33,topT 34,topT 35,topT 37,topT 38,topT 39,topT 40,topT 41,topT 43,topT 44,topT 45,topT 46,topT 47,topT 48,topT 49,topT 50,topT 51,topT 52,topT 53,topT 54,topT 55,topT 56,topT 57,topT 58,topT 59,topT 60,topT 61,topT 62,topT 63,topT 64] } }
def qO:Program:={ PySem.Challenge.pw_weighwalk_k92_odd_machines with main:={ PySem.Challenge.pw_weighwalk_k92_odd_machines.main with body:=[topO 0,topO 2,topO 3,topO 4,topO 5,topO 6,topO 7,topO 8,topO 9,topO 10,topO 11,topO 12,topO 14,topO 15,topO 16,topO 18,topO 19,topO 20,topO 21,topO 22,topO 23,topO 24,topO 25,topO 26,topO 27,topO 28,topO 29,topO 30,topO 32,topO 33,topO 34,topO 35,topO 37,topO 38,topO 39,topO 40,topO 41,topO 43,topO 44,topO 45,topO 46,topO 47,topO 48,topO 49,topO 50,topO 51,topO 52,topO 53,topO 54,topO 55,topO 56,topO 57,topO 58,topO 59,topO 60,topO 61,topO 62,topO 63,topO 64] } }
theorem q_eq:qO=qT:=by unfold qO qT;rw[b0f,Fast.te9920906252200871378]
def recs:=RowW.records (OpenRow.toRowW (OpenLaw.row PySem.Challenge.rw_weighwalk_k92_odd_machines))
abbrev Xt(q:Program)(s:Shared):Bool:=xlAt q [] s && recOk recs s
abbrev hook:Hook:=kHook K KA KA_eq
theorem size_(w:World):((boot_heap w.params).isNs mainGlobals && (⟨[]⟩:Array GenState).size == 0,(boot_heap w.params).objs.size,(boot_heap w.params).nsMap mainGlobals "__annotations__")=(true,11,(some (r 6))):=by(try rw[Fast.te15667345088766844465]);(try rw[Fast.te14082659384304107361]);(try rw[Fast.te14374325043358763698]);(try rw[Fast.te10110043849684766642]);(try rw[Fast.te14364793385576792824]);(try rw[Fast.te11892475500146522536]);(try rw[Fast.te4187177175401517315]);(try rw[Fast.te5923862056798008813]);(try rw[Fast.te8920871248978507458]);kernel_rfl
theorem open_:∀w:World,(fencedOpening treeTable Fast.tw9920906252200871378 w 12818).map (fun s=>(s.heap,s.gens,s.drawn,s.toks))=some (boot_heap w.params,⟨[]⟩,boot_drawn,boot_toks):=boot_open (by kernel_rfl) (by decide) (fun s=>by(try rw[Fast.te15667345088766844465]);(try rw[Fast.te14082659384304107361]);(try rw[Fast.te14374325043358763698]);(try rw[Fast.te10110043849684766642]);(try rw[Fast.te14364793385576792824]);(try rw[Fast.te11892475500146522536]);(try rw[Fast.te4187177175401517315]);(try rw[Fast.te5923862056798008813]);(try rw[Fast.te8920871248978507458]);kernel_rfl)
theorem look1(w:World)(os:OsState):(staticsOk (importedModules Fast.tw9920906252200871378.main.body) (boot_heap w.params) (Hf w.params) && namesBound Fast.tw9920906252200871378 (Hf w.params) && gensDone (Sf w os) && laidKept (boot_heap w.params) (Hf w.params))=true:=by(try rw[Fast.te15667345088766844465]);(try rw[Fast.te14082659384304107361]);(try rw[Fast.te14374325043358763698]);(try rw[Fast.te10110043849684766642]);(try rw[Fast.te14364793385576792824]);(try rw[Fast.te11892475500146522536]);(try rw[Fast.te4187177175401517315]);(try rw[Fast.te5923862056798008813]);(try rw[Fast.te8920871248978507458]);kernel_rfl
theorem look2(w:World)(os:OsState):openSeen qT [] (importedModules Fast.tw9920906252200871378.main.body) (Xt qT) true (Sf w os)=openGood qT []:=by(try rw[Fast.te15667345088766844465]);(try rw[Fast.te14082659384304107361]);(try rw[Fast.te14374325043358763698]);(try rw[Fast.te10110043849684766642]);(try rw[Fast.te14364793385576792824]);(try rw[Fast.te11892475500146522536]);(try rw[Fast.te4187177175401517315]);(try rw[Fast.te5923862056798008813]);(try rw[Fast.te8920871248978507458]);kernel_rfl
theorem look3(w:World)(os:OsState):hook.obs (Sf w os)=hook.val w:=by kernel_rfl
theorem leftT:LeftO Fast.tw9920906252200871378 qT [] (Xt qT) hook.obs hook.val 12818:=LeftO.of_pieces (H₁:=Hf) open_ size_ run_ (by decide) (fun w=>funext fun os=>looks_pair (look1 w os) (looks_pair (look2 w os) (look3 w os)))
theorem left:LeftO PySem.Challenge.pw_weighwalk_k92_odd_machines qO [] (Xt qO) hook.obs hook.val 12818:=by have h:=leftT;rw[← q_eq,← Fast.te9920906252200871378]at h;exact h
def dO:DefRec:=⟨PySem.Str.ofString "law",L2.c0j (topO 64),L2.b0z (topO 64),L2.a0i (topO 64),⟨464,0,477,158⟩⟩
theorem holds_(said:(OpenLaw.row PySem.Challenge.rw_weighwalk_k92_odd_machines).wellSaid=true)(hw:(OpenLaw.row PySem.Challenge.rw_weighwalk_k92_odd_machines).toRowW.promised)(hc:WalkO qO [] (XL qO []) (Hook.says hook) (OpenLaw.row PySem.Challenge.rw_weighwalk_k92_odd_machines).toRowW dO [] (fun f vs=>PySem.call f vs)):(OpenLaw.row PySem.Challenge.rw_weighwalk_k92_odd_machines).Holds:=
  holds_open (r:=(OpenLaw.row PySem.Challenge.rw_weighwalk_k92_odd_machines)) (q:=qO) (loose:=[]) (Xt:=Xt qO) (XP:=XL qO []) (Yf:=hook.obs) (Ya:=hook.val) (YP:=hook.says) (d:=dO) (kwd:=[]) (N:=12818) left hook.of hook.keeps (fun s e=>xl_of s (Bool.and_eq_true_iff.mp e).1) XL.keeps (by kernel_rfl) (by kernel_rfl) (by kernel_rfl) (fun s e=>recFacts_of (Bool.and_eq_true_iff.mp e).2) (by kernel_rfl) said (by decide +kernel) ⟨rfl,rfl,rfl,rfl,rfl,by decide +kernel⟩ hw hc
abbrev fO(n q:String)(s:Stmt)(m c:Value):Obj:=⟨.type SL.s7174869446012820540x8,none,.func (fnOf (PySem.Str.ofString n) (PySem.Str.ofString q) (L2.c0j s) (L2.b0z s) (L2.a0i s) .none .none .none m none c .none),#[]⟩
theorem lk_is_whole(P:Params):(K P).lookup 161=some (fO "is_whole" "is_whole" (topO 14) (.str s44 374) (r 160)):=by rw[← b0f];kernel_rfl
theorem lk_divisor(P:Params):(K P).lookup 168=some (fO "divisor" "divisor" (topO 15) (.str s44 374) (r 167)):=by rw[← b0f];kernel_rfl
theorem lk_is_prime(P:Params):(K P).lookup 175=some (fO "is_prime" "is_prime" (topO 16) (.str s44 374) (r 174)):=by rw[← b0f];kernel_rfl
theorem j0y(P:Params):(K P).lookup 180=some (fO "is_written" "is_written" (topO 21) (.str s4 402) (r 179)):=by rw[← b0f];kernel_rfl
theorem j0w(P:Params):(K P).lookup 187=some (fO "read_whole" "read_whole" (topO 22) (.str s4 402) (r 186)):=by rw[← b0f];kernel_rfl
theorem lk_need_text(P:Params):(K P).lookup 194=some (fO "need_text" "need_text" (topO 23) (.str s4 402) (r 193)):=by rw[← b0f];kernel_rfl
theorem g0s(P:Params):(K P).lookup 351=some (fO "read" "Fractions.read" (L2.a0h (topO 27) 9) (.str s4 402) (r 350)):=by rw[← b0f];kernel_rfl
theorem e0t(P:Params):(K P).lookup 370=some (fO "__init__" "Residues.__init__" (L2.a0h (topO 28) 0) (.str s4 402) (r 369)):=by rw[← b0f];kernel_rfl
theorem e0j(P:Params):(K P).lookup 426=some (fO "is_weight" "Residues.is_weight" (L2.a0h (topO 28) 8) (.str s4 402) (r 425)):=by rw[← b0f];kernel_rfl
theorem h0c(P:Params):(K P).lookup 440=some (fO "read" "Residues.read" (L2.a0h (topO 28) 10) (.str s4 402) (r 439)):=by rw[← b0f];kernel_rfl
theorem k0e(P:Params):(K P).lookup 508=some (fO "read" "Costs.read" (L2.a0h (topO 29) 7) (.str s4 402) (r 507)):=by rw[← b0f];kernel_rfl
theorem i0q(P:Params):(K P).lookup 576=some (fO "read" "Truths.read" (L2.a0h (topO 30) 7) (.str s4 402) (r 575)):=by rw[← b0f];kernel_rfl
theorem j0z(P:Params):(K P).lookup 586=some (fO "is_letters" "is_letters" (topO 35) (.str s137 887) (r 585)):=by rw[← b0f];kernel_rfl
theorem lk_read_row(P:Params):(K P).lookup 591=some (fO "read_row" "read_row" (topO 38) (.str s138 901) (r 590)):=by rw[← b0f];kernel_rfl
theorem i0n(P:Params):(K P).lookup 598=some (fO "read_row_of" "read_row_of" (topO 39) (.str s138 901) (r 597)):=by rw[← b0f];kernel_rfl
theorem j0x(P:Params):(K P).lookup 603=some (fO "read_table" "read_table" (topO 40) (.str s138 901) (r 602)):=by rw[← b0f];kernel_rfl
theorem h0s(P:Params):(K P).lookup 608=some (fO "read_machine" "read_machine" (topO 41) (.str s138 901) (r 607)):=by rw[← b0f];kernel_rfl
theorem k0b(P:Params):(K P).lookup 615=some (fO "_law_state" "_law_state" (topO 43) (.str s54 933) (r 614)):=by rw[← b0f];kernel_rfl
theorem lk__law_next(P:Params):(K P).lookup 622=some (fO "_law_next" "_law_next" (topO 44) (.str s54 933) (r 621)):=by rw[← b0f];kernel_rfl
theorem k0d(P:Params):(K P).lookup 629=some (fO "_law_rooms" "_law_rooms" (topO 45) (.str s54 933) (r 628)):=by rw[← b0f];kernel_rfl
theorem h0u(P:Params):(K P).lookup 636=some (fO "_law_letters" "_law_letters" (topO 46) (.str s54 933) (r 635)):=by rw[← b0f];kernel_rfl
theorem h0v(P:Params):(K P).lookup 643=some (fO "_law_divisor" "_law_divisor" (topO 47) (.str s54 933) (r 642)):=by rw[← b0f];kernel_rfl
theorem lk__law_low(P:Params):(K P).lookup 650=some (fO "_law_low" "_law_low" (topO 48) (.str s54 933) (r 649)):=by rw[← b0f];kernel_rfl
theorem lk__law_sort(P:Params):(K P).lookup 657=some (fO "_law_sort" "_law_sort" (topO 49) (.str s54 933) (r 656)):=by rw[← b0f];kernel_rfl
theorem lk__law_kind(P:Params):(K P).lookup 664=some (fO "_law_kind" "_law_kind" (topO 50) (.str s54 933) (r 663)):=by rw[← b0f];kernel_rfl
theorem k0c(P:Params):(K P).lookup 671=some (fO "_law_shown" "_law_shown" (topO 51) (.str s54 933) (r 670)):=by rw[← b0f];kernel_rfl
theorem i0o(P:Params):(K P).lookup 678=some (fO "_law_weight" "_law_weight" (topO 52) (.str s54 933) (r 677)):=by rw[← b0f];kernel_rfl
theorem h0t(P:Params):(K P).lookup 683=some (fO "_law_machine" "_law_machine" (topO 53) (.str s54 933) (r 682)):=by rw[← b0f];kernel_rfl
theorem lk__law_line(P:Params):(K P).lookup 688=some (fO "_law_line" "_law_line" (topO 54) (.str s54 933) (r 687)):=by rw[← b0f];kernel_rfl
theorem lk__law_text(P:Params):(K P).lookup 693=some (fO "_law_text" "_law_text" (topO 55) (.str s54 933) (r 692)):=by rw[← b0f];kernel_rfl
theorem k0a(P:Params):(K P).lookup 698=some (fO "_law_whole" "_law_whole" (topO 56) (.str s54 933) (r 697)):=by rw[← b0f];kernel_rfl
theorem f0i(P:Params):(K P).lookup 705=some (fO "_law_read_weight" "_law_read_weight" (topO 57) (.str s54 933) (r 704)):=by rw[← b0f];kernel_rfl
theorem h0b(P:Params):(K P).lookup 712=some (fO "_law_read_row" "_law_read_row" (topO 58) (.str s54 933) (r 711)):=by rw[← b0f];kernel_rfl
theorem g0a(P:Params):(K P).lookup 719=some (fO "_law_read_table" "_law_read_table" (topO 59) (.str s54 933) (r 718)):=by rw[← b0f];kernel_rfl
theorem lk__law_read(P:Params):(K P).lookup 724=some (fO "_law_read" "_law_read" (topO 60) (.str s54 933) (r 723)):=by rw[← b0f];kernel_rfl
theorem i0p(P:Params):(K P).lookup 731=some (fO "_law_pieces" "_law_pieces" (topO 61) (.str s54 933) (r 730)):=by rw[← b0f];kernel_rfl
theorem h0w(P:Params):(K P).lookup 738=some (fO "_law_changed" "_law_changed" (topO 62) (.str s54 933) (r 737)):=by rw[← b0f];kernel_rfl
theorem lk__law_told(P:Params):(K P).lookup 745=some (fO "_law_told" "_law_told" (topO 63) (.str s54 933) (r 744)):=by rw[← b0f];kernel_rfl
theorem lk_law(P:Params):(K P).lookup 752=some (fO "law" "law" (topO 64) (.str s54 933) (r 751)):=by rw[← b0f];kernel_rfl
end
end H92
set_option maxHeartbeats 4000000
namespace K92
open PySem L2 Mine PyProof.Rows PySem.SeqAt
abbrev Pr:Program:=PySem.Challenge.pw_weighwalk_k92_odd_machines
def top(i:Nat):Stmt:=PySem.Challenge.pw_weighwalk_k92_odd_machines.main.body.getD i (.Pass ⟨0,0,0,0⟩)
abbrev g0l:Stmt:=top 14
abbrev h0k:Stmt:=top 15
abbrev g0m:Stmt:=top 16
abbrev b0y:Stmt:=a0h (top 28) 0
abbrev d0c:Stmt:=top 21
abbrev d0z:Stmt:=top 22
abbrev e0z:Stmt:=top 23
abbrev c0o:Stmt:=a0h (top 27) 9
abbrev b0x:Stmt:=a0h (top 28) 8
abbrev c0u:Stmt:=a0h (top 28) 10
abbrev e0c:Stmt:=a0h (top 29) 7
abbrev d0o:Stmt:=a0h (top 30) 7
abbrev d0d:Stmt:=top 35
abbrev e0l:Stmt:=top 38
abbrev d0j:Stmt:=top 39
abbrev d0b:Stmt:=top 40
abbrev c0l:Stmt:=top 41
abbrev f0a:Stmt:=top 43
abbrev g0j:Stmt:=top 44
abbrev f0c:Stmt:=top 45
abbrev d0l:Stmt:=top 46
abbrev d0m:Stmt:=top 47
abbrev h0j:Stmt:=top 48
abbrev g0i:Stmt:=top 49
abbrev g0k:Stmt:=top 50
abbrev f0b:Stmt:=top 51
abbrev e0a:Stmt:=top 52
abbrev b0w:Stmt:=top 53
abbrev e0o:Stmt:=top 54
abbrev e0m:Stmt:=top 55
abbrev d0k:Stmt:=top 56
abbrev c0g:Stmt:=top 57
abbrev d0f:Stmt:=top 58
abbrev c0n:Stmt:=top 59
abbrev e0n:Stmt:=top 60
abbrev e0b:Stmt:=top 61
abbrev d0n:Stmt:=top 62
abbrev g0h:Stmt:=top 63
abbrev s_law:Stmt:=top 64
theorem _root_.L2.Room.m{j k:Nat}{A:Around}(r:Room k A)(h:j≤k:=by decide):Room j A:=r.mono h
theorem b0o{N P:List Str}{s:Scope}(a:s.kind=.function:=by rfl)(b:s.isCoroutine=false:=by rfl)(c:s.isGenerator=false:=by rfl)(d:N.Nodup:=by decide +kernel)(e:N.take P.length=P:=by rfl)(f:∀x∈P,s.names.lookup x=some .local∨s.names.lookup x=some .cell:=by decide +kernel)(g:∀y∈s.names,y.2≠.free:=by decide +kernel):a0u N P s:=⟨a,b,c,d,e,f,g⟩
theorem sc_is_whole:a0u ["thing"] ["thing"] (a0i g0l):=b0o
theorem sc_divisor:a0u ["one","other","greatest","rest","left"] ["one","other"] (a0i h0k):=b0o
theorem sc_is_prime:a0u ["number","factor"] ["number"] (a0i g0m):=b0o
theorem e0r:a0u ["self","prime"] ["self","prime"] (a0i b0y):=b0o
theorem sc_is_written:a0u ["text","figures"] ["text"] (a0i d0c):=b0o
theorem j0d:a0u ["text"] ["text"] (a0i d0z):=b0o
theorem sc_need_text:a0u ["text"] ["text"] (a0i e0z):=b0o
theorem sc_Fractions_read:a0u ["self","text","pieces","top","bottom"] ["self","text"] (a0i c0o):=b0o
theorem d0y:a0u ["self","thing"] ["self","thing"] (a0i b0x):=b0o
theorem sc_Residues_read:a0u ["self","text","number"] ["self","text"] (a0i c0u):=b0o
theorem j0f:a0u ["self","text"] ["self","text"] (a0i e0c):=b0o
theorem i0h:a0u ["self","text"] ["self","text"] (a0i d0o):=b0o
theorem j0e:a0u ["thing"] ["thing"] (a0i d0d):=b0o
theorem sc_read_row:a0u ["kind","text"] ["kind","text"] (a0i e0l):=b0o
theorem sc_read_row_of:a0u ["kind","size","text","row"] ["kind","size","text"] (a0i d0j):=b0o
theorem sc_read_table:a0u ["kind","size","text","rows"] ["kind","size","text"] (a0i d0b):=b0o
theorem sc_read_machine:a0u ["kind","text","pieces","letters","start","size","tables"] ["kind","text"] (a0i c0l):=b0o
theorem sc_law_state:a0u ["_law_script","_law_seed","_law_cell"] ["_law_script"] (a0i f0a):=b0o
theorem sc_law_next:a0u ["_law_state_here","_law_many","_law_found"] ["_law_state_here","_law_many"] (a0i g0j):=b0o
theorem sc_law_rooms:a0u ["_law_state_here","_law_few","_law_most"] ["_law_state_here","_law_few","_law_most"] (a0i f0c):=b0o
theorem sc_law_letters:a0u ["_law_state_here","_law_some","_law_answer","_law_k","_law_letter"] ["_law_state_here"] (a0i d0l):=b0o
theorem sc_law_divisor:a0u ["_law_one","_law_other"] ["_law_one","_law_other"] (a0i d0m):=b0o
theorem sc_law_low:a0u ["_law_top","_law_bottom","_law_by"] ["_law_top","_law_bottom"] (a0i h0j):=b0o
theorem sc_law_sort:a0u ["_law_state_here","_law_way","_law_prime"] ["_law_state_here","_law_way"] (a0i g0i):=b0o
theorem sc_law_kind:a0u ["_law_sort_here"] ["_law_sort_here"] (a0i g0k):=b0o
theorem sc_law_shown:a0u ["_law_sort_here","_law_x"] ["_law_sort_here","_law_x"] (a0i f0b):=b0o
theorem sc_law_weight:a0u ["_law_state_here","_law_sort_here","_law_great","_law_bottom"] ["_law_state_here","_law_sort_here"] (a0i e0a):=b0o
theorem sc_law_machine:a0u ["_law_state_here","_law_sort_here","_law_letters_here","_law_many","_law_start","_law_tables","_law_letter","_law_table","_law_k"] ["_law_state_here","_law_sort_here","_law_letters_here","_law_many"] (a0i b0w):=b0o
theorem sc_law_line:a0u ["_law_sort_here","_law_row"] ["_law_sort_here","_law_row"] (a0i e0o):=b0o
theorem sc_law_text:a0u ["_law_sort_here","_law_machine_here","_law_pieces_here","_law_table"] ["_law_sort_here","_law_machine_here"] (a0i e0m):=b0o
theorem sc_law_whole:a0u ["_law_text_here","_law_figures"] ["_law_text_here"] (a0i d0k):=b0o
theorem sc_law_read_weight:a0u ["_law_sort_here","_law_text_here","_law_top","_law_stroke","_law_bottom","_law_one","_law_other","_law_number"] ["_law_sort_here","_law_text_here"] (a0i c0g):=b0o
theorem sc_law_read_row:a0u ["_law_sort_here","_law_text_here","_law_many","_law_row","_law_piece"] ["_law_sort_here","_law_text_here","_law_many"] (a0i d0f):=b0o
theorem sc_law_read_table:a0u ["_law_sort_here","_law_text_here","_law_many","_law_rows","_law_piece"] ["_law_sort_here","_law_text_here","_law_many"] (a0i c0n):=b0o
theorem sc_law_read:a0u ["_law_sort_here","_law_text_here","_law_pieces_here","_law_letters_here","_law_many","_law_tables","_law_piece","_law_lines"] ["_law_sort_here","_law_text_here"] (a0i e0n):=b0o
theorem sc_law_pieces:a0u ["_law_state_here","_law_text_here","_law_between","_law_some","_law_one","_law_other","_law_way"] ["_law_state_here","_law_text_here","_law_between"] (a0i e0b):=b0o
theorem sc_law_changed:a0u ["_law_state_here","_law_text_here","_law_way","_law_at","_law_signs","_law_sign","_law_pieces_here","_law_one"] ["_law_state_here","_law_text_here"] (a0i d0n):=b0o
theorem sc_law_told:a0u ["_law_kind_here","_law_thing","_law_told_here","e","_law_odd"] ["_law_kind_here","_law_thing"] (a0i g0h):=b0o
theorem sc_law:a0u ["_law_script","_law_state_here","_law_letters_here","_law_sort_here","_law_kind_here","_law_text_here","_law_k","_law_due"] ["_law_script"] (a0i s_law):=b0o
def sp_whole:Sp:=fun vs H Q _=>∃i,vs=[.int i]∧Q (.bl true) H
def sp_divisor:Sp:=fun vs H Q _=>∃a b,vs=[.int a,.int b]∧Q (.int (dv a b)) H
def sp_prime:Sp:=fun vs H Q _=>∃n,vs=[.int n]∧(2≤n∧n≤1000000∧isP n=true)∧Q (.bl true) H
def sp_init(C:Addr):Sp:=fun vs H Q _=>∃x dx n,vs=[.ref x,.int n]∧(2≤n∧n≤1000000∧isP n=true)∧H x=some (.ins C dx [])∧Q .non (upd H x (.ins C dx (pfs n)))
set_option genInjectivity false in
set_option genSizeOfSpec false in
structure Adr where
  s0k:Addr
  p0m:FuncData
  t0k:Addr
  s0c:FuncData
  s0y:Addr
  r0d:FuncData
  k0z:Addr
  k0u:FuncData
  q0c:Addr
  n0m:FuncData
  q0q:Addr
  n0v:FuncData
  s0d:Addr
  o0g:FuncData
  l0x:Addr
  l0i:FuncData
  k0w:Addr
  k0o:FuncData
  m0c:Addr
  l0l:FuncData
  p0x:Addr
  n0n:FuncData
  o0l:Addr
  m0g:FuncData
  q0j:Addr
  n0s:FuncData
  t0c:Addr
  p0z:FuncData
  p0h:Addr
  m0n:FuncData
  q0i:Addr
  n0u:FuncData
  m0y:Addr
  l0w:FuncData
  r0v:Addr
  p0c:FuncData
  s0l:Addr
  q0b:FuncData
  r0y:Addr
  p0i:FuncData
  o0r:Addr
  m0l:FuncData
  p0f:Addr
  m0b:FuncData
  t0j:Addr
  r0o:FuncData
  s0f:Addr
  q0t:FuncData
  s0s:Addr
  p0u:FuncData
  r0s:Addr
  p0j:FuncData
  p0t:Addr
  n0a:FuncData
  o0q:Addr
  m0e:FuncData
  s0t:Addr
  q0u:FuncData
  s0q:Addr
  r0m:FuncData
  r0q:Addr
  o0e:FuncData
  l0m:Addr
  k0y:FuncData
  n0w:Addr
  l0y:FuncData
  l0s:Addr
  l0d:FuncData
  s0m:Addr
  r0e:FuncData
  p0v:Addr
  n0x:FuncData
  o0u:Addr
  m0s:FuncData
  s0i:Addr
  q0r:FuncData
  law:Addr
  t0u:FuncData
  r0x:Addr
  s0z:Addr
  t0s:Addr
  t0q:Addr
  q0n:Addr
  t0m:Addr
  r0t:Addr
  s0o:Addr
  t0l:Addr
  t0o:Addr
  r0p:Addr
  s0w:Addr
  t0n:Addr
  t0p:Addr
  t0v:Addr
structure Txt(K:PySem.W.Frag)(mg:Str→Option Value)(t:Adr):Prop where
  q0a:Fun K "is_whole" "is_whole" g0l t.s0k t.p0m
  p0q:Binds K t.p0m ["thing"] []
  p0o:mg "is_whole"=some (.ref t.s0k)
  r0w:Fun K "divisor" "divisor" h0k t.t0k t.s0c
  s0b:Binds K t.s0c ["one","other"] []
  s0a:mg "divisor"=some (.ref t.t0k)
  p0y:Fun K "is_prime" "is_prime" g0m t.s0y t.r0d
  p0s:Binds K t.r0d ["number"] []
  p0l:mg "is_prime"=some (.ref t.s0y)
  k0v:Fun K "__init__" "Residues.__init__" b0y t.k0z t.k0u
  k0s:Binds K t.k0u ["self","prime"] []
  k0t:Meth K t.s0z "__init__" t.k0z
  m0z:Fun K "is_written" "is_written" d0c t.q0c t.n0m
  o0d:Binds K t.n0m ["text"] []
  n0f:mg "is_written"=some (.ref t.q0c)
  n0k:Fun K "read_whole" "read_whole" d0z t.q0q t.n0v
  n0y:Binds K t.n0v ["text"] []
  n0t:mg "read_whole"=some (.ref t.q0q)
  o0v:Fun K "need_text" "need_text" e0z t.s0d t.o0g
  o0p:Binds K t.o0g ["text"] []
  p0k:mg "need_text"=some (.ref t.s0d)
  l0g:Fun K "read" "Fractions.read" c0o t.l0x t.l0i
  l0e:Binds K t.l0i ["self","text"] []
  l0h:Meth K t.r0x "read" t.l0x
  k0r:Fun K "is_weight" "Residues.is_weight" b0x t.k0w t.k0o
  k0p:Binds K t.k0o ["self","thing"] []
  k0q:Meth K t.s0z "is_weight" t.k0w
  l0k:Fun K "read" "Residues.read" c0u t.m0c t.l0l
  l0n:Binds K t.l0l ["self","text"] []
  l0o:Meth K t.s0z "read" t.m0c
  n0c:Fun K "read" "Costs.read" e0c t.p0x t.n0n
  n0p:Binds K t.n0n ["self","text"] []
  n0r:Meth K t.t0s "read" t.p0x
  m0w:Fun K "read" "Truths.read" d0o t.o0l t.m0g
  m0d:Binds K t.m0g ["self","text"] []
  m0m:Meth K t.t0q "read" t.o0l
  o0a:Fun K "is_letters" "is_letters" d0d t.q0j t.n0s
  n0z:Binds K t.n0s ["thing"] []
  n0e:mg "is_letters"=some (.ref t.q0j)
  q0w:Fun K "read_row" "read_row" e0l t.t0c t.p0z
  q0y:Binds K t.p0z ["kind","text"] []
  p0p:mg "read_row"=some (.ref t.t0c)
  m0q:Fun K "read_row_of" "read_row_of" d0j t.p0h t.m0n
  m0j:Binds K t.m0n ["kind","size","text"] []
  m0r:mg "read_row_of"=some (.ref t.p0h)
  n0h:Fun K "read_table" "read_table" d0b t.q0i t.n0u
  n0q:Binds K t.n0u ["kind","size","text"] []
  n0g:mg "read_table"=some (.ref t.q0i)
  l0t:Fun K "read_machine" "read_machine" c0l t.m0y t.l0w
  l0r:Binds K t.l0w ["kind","text"] []
  l0u:mg "read_machine"=some (.ref t.m0y)
  p0a:Fun K "_law_state" "_law_state" f0a t.r0v t.p0c
  o0o:Binds K t.p0c ["_law_script"] []
  o0w:mg "_law_state"=some (.ref t.r0v)
  q0h:Fun K "_law_next" "_law_next" g0j t.s0l t.q0b
  p0n:Binds K t.q0b ["_law_state_here","_law_many"] []
  p0r:mg "_law_next"=some (.ref t.s0l)
  o0s:Fun K "_law_rooms" "_law_rooms" f0c t.r0y t.p0i
  o0k:Binds K t.p0i ["_law_state_here","_law_few","_law_most"] []
  o0m:mg "_law_rooms"=some (.ref t.r0y)
  m0v:Fun K "_law_letters" "_law_letters" d0l t.o0r t.m0l
  m0h:Binds K t.m0l ["_law_state_here"] []
  l0z:mg "_law_letters"=some (.ref t.o0r)
  m0i:Fun K "_law_divisor" "_law_divisor" d0m t.p0f t.m0b
  m0k:Binds K t.m0b ["_law_one","_law_other"] []
  m0p:mg "_law_divisor"=some (.ref t.p0f)
  r0z:Fun K "_law_low" "_law_low" h0j t.t0j t.r0o
  r0r:Binds K t.r0o ["_law_top","_law_bottom"] []
  r0u:mg "_law_low"=some (.ref t.t0j)
  r0k:Fun K "_law_sort" "_law_sort" g0i t.s0f t.q0t
  q0s:Binds K t.q0t ["_law_state_here","_law_way"] []
  q0f:mg "_law_sort"=some (.ref t.s0f)
  q0p:Fun K "_law_kind" "_law_kind" g0k t.s0s t.p0u
  r0n:Binds K t.p0u ["_law_sort_here"] []
  q0x:mg "_law_kind"=some (.ref t.s0s)
  o0j:Fun K "_law_shown" "_law_shown" f0b t.r0s t.p0j
  o0f:Binds K t.p0j ["_law_sort_here","_law_x"] []
  o0t:mg "_law_shown"=some (.ref t.r0s)
  n0d:Fun K "_law_weight" "_law_weight" e0a t.p0t t.n0a
  o0c:Binds K t.n0a ["_law_state_here","_law_sort_here"] []
  o0b:mg "_law_weight"=some (.ref t.p0t)
  m0x:Fun K "_law_machine" "_law_machine" b0w t.o0q t.m0e
  m0f:Binds K t.m0e ["_law_state_here","_law_sort_here","_law_letters_here","_law_many"] []
  m0u:mg "_law_machine"=some (.ref t.o0q)
  q0e:Fun K "_law_line" "_law_line" e0o t.s0t t.q0u
  q0l:Binds K t.q0u ["_law_sort_here","_law_row"] []
  r0f:mg "_law_line"=some (.ref t.s0t)
  q0o:Fun K "_law_text" "_law_text" e0m t.s0q t.r0m
  r0h:Binds K t.r0m ["_law_sort_here","_law_machine_here"] []
  r0b:mg "_law_text"=some (.ref t.s0q)
  o0x:Fun K "_law_whole" "_law_whole" d0k t.r0q t.o0e
  p0g:Binds K t.o0e ["_law_text_here"] []
  o0y:mg "_law_whole"=some (.ref t.r0q)
  k0x:Fun K "_law_read_weight" "_law_read_weight" c0g t.l0m t.k0y
  l0a:Binds K t.k0y ["_law_sort_here","_law_text_here"] []
  l0b:mg "_law_read_weight"=some (.ref t.l0m)
  l0p:Fun K "_law_read_row" "_law_read_row" d0f t.n0w t.l0y
  l0q:Binds K t.l0y ["_law_sort_here","_law_text_here","_law_many"] []
  l0v:mg "_law_read_row"=some (.ref t.n0w)
  l0j:Fun K "_law_read_table" "_law_read_table" c0n t.l0s t.l0d
  l0f:Binds K t.l0d ["_law_sort_here","_law_text_here","_law_many"] []
  l0c:mg "_law_read_table"=some (.ref t.l0s)
  r0l:Fun K "_law_read" "_law_read" e0n t.s0m t.r0e
  p0w:Binds K t.r0e ["_law_sort_here","_law_text_here"] []
  q0v:mg "_law_read"=some (.ref t.s0m)
  n0j:Fun K "_law_pieces" "_law_pieces" e0b t.p0v t.n0x
  n0i:Binds K t.n0x ["_law_state_here","_law_text_here","_law_between"] []
  n0l:mg "_law_pieces"=some (.ref t.p0v)
  m0t:Fun K "_law_changed" "_law_changed" d0n t.o0u t.m0s
  m0o:Binds K t.m0s ["_law_state_here","_law_text_here"] []
  m0a:mg "_law_changed"=some (.ref t.o0u)
  q0k:Fun K "_law_told" "_law_told" g0h t.s0i t.q0r
  r0a:Binds K t.q0r ["_law_kind_here","_law_thing"] []
  r0c:mg "_law_told"=some (.ref t.s0i)
  t0r:Fun K "law" "law" s_law t.law t.t0u
  t0t:Binds K t.t0u ["_law_script"] []
  t0w:mg "law"=some (.ref t.law)
  o0n:Cls K t.r0x
  p0e:mg "Fractions"=some (.ref t.r0x)
  p0d:MkO K t.r0x
  q0m:Cls K t.s0z
  q0d:mg "Residues"=some (.ref t.s0z)
  q0z:Mk K t.s0z t.k0z
  t0g:Cls K t.t0s
  t0i:mg "Costs"=some (.ref t.t0s)
  t0f:MkO K t.t0s
  t0a:Cls K t.t0q
  s0x:mg "Truths"=some (.ref t.t0q)
  s0n:MkO K t.t0q
  n0b:mg "WeighError"=some (.ref t.q0n)
  n0o:ExcK K t.q0n
  s0r:mg "NoKind"=some (.ref t.t0m)
  s0h:ExcK K t.t0m
  o0h:mg "WrongKind"=some (.ref t.r0t)
  o0i:ExcK K t.r0t
  q0g:mg "NoWeight"=some (.ref t.s0o)
  r0i:ExcK K t.s0o
  s0u:mg "NoWord"=some (.ref t.t0l)
  s0e:ExcK K t.t0l
  s0j:mg "Unlike"=some (.ref t.t0o)
  s0p:ExcK K t.t0o
  p0b:mg "NoClosure"=some (.ref t.r0p)
  o0z:ExcK K t.r0p
  r0j:mg "TooGreat"=some (.ref t.s0w)
  r0g:ExcK K t.s0w
  t0d:mg "NoText"=some (.ref t.t0n)
  s0v:ExcK K t.t0n
  s0g:mg "NoName"=some (.ref t.t0p)
  t0b:ExcK K t.t0p
  t0e:mg "NoRow"=some (.ref t.t0v)
  t0h:ExcK K t.t0v
  z_isinstance:mg "isinstance"=none
  z_int:mg "int"=none
  z_bool:mg "bool"=none
  z_abs:mg "abs"=none
  c_GREATEST_PRIME:∃tk,mg "GREATEST_PRIME"=some (Value.int 1000000 tk)
  z_str:mg "str"=none
  z_len:mg "len"=none
  c_MOST_FIGURES:∃tk,mg "MOST_FIGURES"=some (Value.int 30 tk)
  z_all:mg "all"=none
  c_FIGURES:∃tk,mg "FIGURES"=some (Value.str "0123456789" tk)
  c_MOST_LETTERS:∃tk,mg "MOST_LETTERS"=some (Value.int 3 tk)
  z_set:mg "set"=none
  c_SMALL_LETTERS:∃tk,mg "SMALL_LETTERS"=some (Value.str "abcdefghijklmnopqrstuvwxyz" tk)
  c_NO_ROOMS:∃tk,mg "NO_ROOMS"=some (Value.str "-" tk)
  z_tuple:mg "tuple"=none
  c_MOST_ROOMS:∃tk,mg "MOST_ROOMS"=some (Value.int 20 tk)
  z_range:mg "range"=none
  z_ValueError:mg "ValueError"=none
  z_max:mg "max"=none
  z_min:mg "min"=none
  k_ii:PySem.W.kitOne K (.type "int") (.type "int")=some true
  k_ib:PySem.W.kitOne K (.type "int") (.type "bool")=some false
  k_tt:PySem.W.kitOne K (.type "tuple") (.type "tuple")=some true
  k_bb:PySem.W.kitOne K (.type "bool") (.type "bool")=some true
  k_ss:PySem.W.kitOne K (.type "str") (.type "str")=some true
  nP:NoAttr K t.s0z "prime"
  k_ts:PySem.W.kitOne K (.type "tuple") (.type "str")=some false
  k_ns:PySem.W.kitOne K (.type "NoneType") (.type "str")=some false
  k_is:PySem.W.kitOne K (.type "int") (.type "str")=some false
  k_ls:PySem.W.kitOne K (.type "list") (.type "str")=some false
  eT:PySem.W.exmOne K (.ref t.t0n) (.ref t.q0n)=some true
  vT1:PySem.W.kitOne K (.ref t.t0n) (.type "ValueError")=some true
  kTT:PySem.W.kitOne K (.ref t.t0n) (.ref t.t0n)=some true
  xNoKind:PySem.W.kitOne K (.ref t.t0n) (.ref t.t0m)=some false
  xWrongKind:PySem.W.kitOne K (.ref t.t0n) (.ref t.r0t)=some false
  xNoWeight:PySem.W.kitOne K (.ref t.t0n) (.ref t.s0o)=some false
  xNoWord:PySem.W.kitOne K (.ref t.t0n) (.ref t.t0l)=some false
  xUnlike:PySem.W.kitOne K (.ref t.t0n) (.ref t.t0o)=some false
  xNoClosure:PySem.W.kitOne K (.ref t.t0n) (.ref t.r0p)=some false
  xTooGreat:PySem.W.kitOne K (.ref t.t0n) (.ref t.s0w)=some false
  xNoName:PySem.W.kitOne K (.ref t.t0n) (.ref t.t0p)=some false
  xNoRow:PySem.W.kitOne K (.ref t.t0n) (.ref t.t0v)=some false
def tx(l:List Nat):Str:=⟨l.toArray⟩
def vT(l:List Nat):V:=.str (tx l)
theorem g0t(a b:List Nat):tx a++tx b=tx (a++b):=by
  show(⟨a.toArray++b.toArray⟩:Str)=⟨(a++b).toArray⟩
  simp
theorem a0s(a:List Nat):(tx a).length=a.length:=by
  show a.toArray.size=a.length
  simp
theorem tx_of(z:Str):tx z.cps.toList=z:=by cases z;rfl
theorem d0u{a b:List Nat}(h:tx a=tx b):a=b:=by
  have:=congrArg (fun z:Str=>z.cps.toList) h
  simpa [tx] using this
def Gd(n:Nat)(l:List Nat):Prop:=l.length≤n∧∀c∈l,c < 128
instance (n:Nat)(l:List Nat):Decidable (Gd n l):=by unfold Gd;exact inferInstance
theorem Gd.asc{n:Nat}{l:List Nat}(h:Gd n l):(tx l).cps.all (· < 128)=true:=by
  show l.toArray.all (· < 128)=true
  simp only[List.all_toArray,List.all_eq_true,decide_eq_true_eq]
  exact h.2
theorem Gd.mono{m n:Nat}{l:List Nat}(h:Gd m l)(k:m≤n):Gd n l:=⟨Nat.le_trans h.1 k,h.2⟩
theorem Gd.app{m n:Nat}{a b:List Nat}(h:Gd m a)(h':Gd n b):Gd (m+n) (a++b):=⟨by rw[List.length_append];exact Nat.add_le_add h.1 h'.1,fun c hc=>(List.mem_append.mp hc).elim (h.2 c) (h'.2 c)⟩
theorem Gd.take{n:Nat}{l:List Nat}(h:Gd n l)(k:Nat):Gd n (l.take k):=⟨Nat.le_trans (by rw[List.length_take];exact Nat.min_le_right _ _) h.1,fun c hc=>h.2 c (List.mem_of_mem_take hc)⟩
theorem Gd.drop{n:Nat}{l:List Nat}(h:Gd n l)(k:Nat):Gd n (l.drop k):=⟨Nat.le_trans (by rw[List.length_drop];exact Nat.sub_le _ _) h.1,fun c hc=>h.2 c (List.mem_of_mem_drop hc)⟩
theorem sl_to{p:List Nat}{q:Int}(h0:0≤q)(h1:q≤p.length):Txt.slice (tx p) none (some q)=tx (p.take q.toNat):=by
  have e:=PyProof.Rows.slice_closes_toL (x:=tx p) (j:=q) h0 (by rw[a0s];exact h1)
  rw[beq_iff_eq]at e
  rw[e]
  show(⟨_⟩:Str)=⟨_⟩
  simp[tx]
theorem h0i{p:List Nat}{q:Int}(h0:0≤q):Txt.slice (tx p) (some q) none=tx (p.drop q.toNat):=by
  by_cases h1:q≤p.length
  · rw[PyProof.Rows.slice_from_eq (x:=tx p) (b:=p.length) h0 (by rw[a0s];exact h1) (by rw[a0s])]
    show(⟨_⟩:Str)=⟨_⟩
    have e:((p.drop q.toNat).take ((p.length:Int) - q).toNat)=p.drop q.toNat:=List.take_of_length_le (by rw[List.length_drop];omega)
    simp only[tx,List.toList_toArray,e]
  · rw[PyProof.Rows.slice_beyond (x:=tx p) (by rw[a0s];omega),List.drop_of_length_le (by omega)]
    rfl
theorem f0y:(Str.ofString "-")=tx [45]:=by decide +kernel
theorem nil_is:(Str.ofString "")=tx []:=by decide +kernel
theorem sl_is:(Str.ofString "/")=tx [47]:=by decide +kernel
theorem o_is:(Str.ofString "0")=tx [48]:=by decide +kernel
theorem fig_is:(Str.ofString "0123456789")=tx [48,49,50,51,52,53,54,55,56,57]:=by decide +kernel
def dg(c:Nat):Bool:=decide (48≤c∧c≤57)
theorem in_fig(c:Nat):(!(Builtin.Str.occurrences (Str.ofString "0123456789") ⟨#[c]⟩ 0 (Str.ofString "0123456789").length 1).isEmpty)=dg c:=by
  rw[PySem.StrLaws.found_one,fig_is]
  show decide (c∈[48,49,50,51,52,53,54,55,56,57])=_
  rw[Bool.eq_iff_iff,decide_eq_true_eq]
  unfold dg
  rw[decide_eq_true_eq]
  simp
  omega
theorem starts_is(l:List Nat):Txt.startswith (tx l) (Str.ofString "-")=decide (l.head? = some 45):=by
  rw[f0y]
  cases l with
  | nil=>rfl
  | cons a r=>
    simp[Txt.startswith,Builtin.Str.subAt,tx,Str.length]
    rfl
def figs(l:List Nat):List Nat:=if l.head? = some 45 then l.drop 1 else l
def wr(l:List Nat):Bool:=(decide (0 < (figs l).length) && decide ((figs l).length≤30)) && (if(figs l).head? = some 48 then decide (l=[48])else(figs l).all dg)
def nm(l:List Nat):Int:=(PySem.intText? (tx l)).getD 0
theorem all_dg{f:List Nat}(h:f.all dg=true):PySem.NumText.AllDigits f:=fun c hc=>by
  have:=List.all_eq_true.mp h c hc
  unfold dg at this
  simpa using this
theorem wr_int{l:List Nat}(h:wr l=true):PySem.intText? (tx l)=some (nm l)∧(tx l).length≤640:=by
  unfold wr at h
  simp only[Bool.and_eq_true,decide_eq_true_eq]at h
  obtain⟨⟨h1,h2⟩,h3⟩:=h
  have key:∃n,PySem.intText? (tx l)=some n:=by
    unfold figs at h1 h2 h3
    by_cases hm:l.head? = some 45
    · rw[if_pos hm]at h1 h2 h3
      cases l with
      | nil=>cases hm
      | cons a r=>
        have ha:a=45:=by simpa using hm
        subst ha
        simp only[List.drop_succ_cons,List.drop_zero]at h1 h2 h3
        split at h3
        · simp at h3
        · exact⟨_,PySem.intText_neg (cs:=r) (by simp[tx]) (all_dg h3) (fun e=>by subst e;simp at h1) (by rw[a0s];simp;omega)⟩
    · rw[if_neg hm]at h1 h2 h3
      split at h3
      · have h3:=of_decide_eq_true h3
        subst h3
        exact⟨0,by decide +kernel⟩
      · exact⟨_,PySem.intText_digits (by simpa [tx] using all_dg h3) (by simp[tx];intro e;subst e;simp at h1) (by rw[a0s];omega)⟩
  obtain⟨n,e⟩:=key
  refine⟨by rw[nm,e];rfl,?_⟩
  rw[a0s]
  unfold figs at h2
  split at h2
  · rw[List.length_drop]at h2;omega
  · omega
def i0s(l:List Nat):Option Nat:=(Builtin.Str.occurrences (tx l) (Str.ofString "/") 0 (tx l).length 1).head?
theorem cut_le{l:List Nat}{i:Nat}(h:i0s l=some i):i+1≤l.length:=by
  unfold i0s at h
  have:=(PySem.StrLaws.occ_spec (tx l) (Str.ofString "/") 0 (tx l).length 1 i (List.mem_of_mem_head? (by rw[h];rfl))).1
  rw[a0s]at this
  exact this
theorem part_none{l:List Nat}(h:i0s l=none):Txt.partition (tx l) (Str.ofString "/")=(tx l,Str.empty,Str.empty):=by
  unfold i0s at h
  unfold Txt.partition
  rw[List.head?_eq_none_iff.mp h]
theorem part_some{l:List Nat}{i:Nat}(h:i0s l=some i):Txt.partition (tx l) (Str.ofString "/")=(tx (l.take i),Str.ofString "/",tx (l.drop (i+1))):=by
  have hle:=cut_le h
  unfold i0s at h
  unfold Txt.partition
  obtain⟨r,e⟩:=List.head?_eq_some_iff.mp h
  rw[e]
  have e1:Builtin.Str.strSub (tx l) 0 i=tx (l.take i):=by
    show(⟨_⟩:Str)=⟨_⟩
    simp[tx]
  have e2:Builtin.Str.strSub (tx l) (i+(Str.ofString "/").length) (tx l).length=tx (l.drop (i+1)):=by
    show(⟨_⟩:Str)=⟨_⟩
    rw[a0s,show(Str.ofString "/").length=1 from rfl]
    simp[tx]
    exact List.take_of_length_le (by rw[List.length_drop];omega)
  dsimp only
  rw[e1,e2]
def rdF(l:List Nat):Option PyData:=match i0s l with
  | none=>if wr l=true then some (.tuple [.int (nm l),.int 1])else none
  | some i=>if wr (l.take i)=true∧wr (l.drop (i+1))=true∧2≤nm (l.drop (i+1))∧dv (nm (l.take i)) (nm (l.drop (i+1)))=1 then some (.tuple [.int (nm (l.take i)),.int (nm (l.drop (i+1)))])else none
def rdR(p:Int)(l:List Nat):Option PyData:=if wr l=true∧0≤nm l∧nm l < p then some (.int (nm l))else none
def rdC(l:List Nat):Option PyData:=if tx l=Str.ofString "none" then some .none else if wr l=true then some (.int (nm l))else none
def rdT(l:List Nat):Option PyData:=if tx l=Str.ofString "yes" then some (.bool true)else if tx l=Str.ofString "no" then some (.bool false)else none
theorem iteS{a b:Str}{A B:Prop}(h1:a=b→A)(h2:a≠b→B):if decide (V.str a=V.str b)=true then A else B:=by
  by_cases h:a=b
  · rw[if_pos (by rw[h];simp)];exact h1 h
  · rw[if_neg (by simp;exact h)];exact h2 h
def WDt(d:PyData):Prop:=d=.none∨(∃b,d=.bool b)∨(∃i,d=.int i)∨∃a b,d=.tuple [.int a,.int b]
def ts(i:Int):Str:=Str.ofString (toString i)
def wrt:PyData→Str
  | .tuple [.int a,.int b]=>if b=1 then ts a else(ts a++Str.ofString "/")++ts b
  | .int a=>ts a
  | .none=>Str.ofString "none"
  | .bool true=>Str.ofString "yes"
  | .bool false=>Str.ofString "no"
  | _=>Str.empty
def WB(way:Int)(d:PyData):Prop:=(way=0∧∃a b:Int,d=.tuple [.int a,.int b]∧a.natAbs≤2 ^ 100∧b.natAbs≤2 ^ 100)∨(way=1∧∃a:Int,d=.int a∧a.natAbs≤2 ^ 100)∨(way=2∧(d=.none∨∃a:Int,d=.int a∧a.natAbs≤2 ^ 100))∨(way=3∧∃b,d=.bool b)
theorem log_100{a:Int}(h:a.natAbs≤2 ^ 100):a.natAbs.log2 < 101:=by
  by_cases e:a.natAbs=0
  · rw[e];decide
  · rw[Nat.log2_lt e];exact Nat.lt_of_le_of_lt h (Nat.pow_lt_pow_right (by decide) (by decide))
theorem ts_gd{a:Int}(h:a.natAbs≤2 ^ 100):Gd 102 (ts a).cps.toList:=by
  refine⟨?_,fun c hc=>?_⟩
  · have:=PySem.int_text_length_le (k:=101) (by decide) (log_100 h)
    rw[ts,PyProof.Rows.signs_ofString,List.length_map]
    exact this
  · rw[ts,PyProof.Rows.signs_ofString]at hc
    obtain⟨ch,hch,rfl⟩:=List.mem_map.mp hc
    exact PySem.int_ascii a ch hch
def jn(sep:List Nat):List (List Nat)→List Nat
  | []=>[]
  | [p]=>p
  | p::q::r=>p++sep++jn sep (q::r)
theorem glue_fold(sep:List Nat):∀(ls:List (List Nat)) (acc:List Nat),(ls.map tx).foldl (fun a p=>a++(tx sep).cps++p.cps) acc.toArray=(ls.foldl (fun a p=>a++sep++p) acc).toArray
  | [],acc=>rfl
  | p::ls,acc=>by
    rw[List.map_cons,List.foldl_cons,List.foldl_cons]
    have:acc.toArray++(tx sep).cps++(tx p).cps=(acc++sep++p).toArray:=by simp[tx]
    rw[this]
    exact glue_fold sep ls _
theorem jn_fold(sep:List Nat):∀(ls:List (List Nat)) (p:List Nat),ls.foldl (fun a p=>a++sep++p) p=jn sep (p::ls)
  | [],p=>rfl
  | q::ls,p=>by
    rw[List.foldl_cons,jn_fold sep ls]
    cases ls with
    | nil=>rfl
    | cons r ls=>simp[jn]
theorem join_is(sep:List Nat):∀ls:List (List Nat),Txt.join (tx sep) (ls.map tx)=tx (jn sep ls)
  | []=>rfl
  | p::ls=>by
    show(⟨_⟩:Str)=⟨_⟩
    rw[List.map_cons,List.drop_succ_cons,List.drop_zero,List.headD_cons]
    have:=glue_fold sep ls p
    rw[show(tx p).cps=p.toArray from rfl,this,jn_fold]
structure Sep(sep:List Nat)(o c:Nat):Prop where
  at_:sep[o]? = some c
  no:∀i,i < o→sep[i]?≠some c
theorem sub_iff(x sep:List Nat)(k:Nat):Builtin.Str.subAt (tx x) (tx sep) k=true↔(x.drop k).take sep.length=sep:=by
  unfold Builtin.Str.subAt
  rw[a0s,beq_iff_eq]
  constructor
  · intro h
    have:=congrArg Array.toList h
    simp[tx]at this
    rw[← this]
    simp[List.extract]
  · intro h
    apply Array.toList_inj.mp
    simp[tx]
    exact h
def pieces(x:List Nat)(w N:Nat):Nat→List Nat→List Str
  | a,[]=>[Builtin.Str.strSub (tx x) a N]
  | a,c::r=>Builtin.Str.strSub (tx x) a c::pieces x w N (c+w) r
theorem kind1{n:Nat}{l:List Nat}(g:Gd n l):Builtin.Str.strKind (tx l)=1:=by
  unfold Builtin.Str.strKind
  rw[if_pos]
  show l.toArray.all (· < 256)=true
  simp only[List.all_toArray,List.all_eq_true,decide_eq_true_eq]
  exact fun c hc=>Nat.lt_trans (g.2 c hc) (by decide)
def spG(sep x:List Nat):List (List Nat):=(Txt.split (tx x) (tx sep)).map fun z=>z.cps.toList
theorem spG_tx(sep x:List Nat):(spG sep x).map tx=Txt.split (tx x) (tx sep):=by
  unfold spG
  rw[List.map_map]
  conv=>rhs;rw[← List.map_id (Txt.split (tx x) (tx sep))]
  exact List.map_congr_left fun z _=>tx_of z
def Free(sep p:List Nat):Prop:=∀k,(p.drop k).take sep.length≠sep
theorem split_pb{sep x:List Nat}{m n:Nat}(hs:1≤sep.length)(gs:Gd m sep)(gx:Gd n x) :
    Txt.split (tx x) (tx sep)=Builtin.Str.partsBetween (tx x) (Builtin.Str.occurrences (tx x) (tx sep) 0 (tx x).length ((tx x).length+1)) (tx sep).length:=by
  unfold Txt.split
  rw[kind1 gx,kind1 gs]
  by_cases h:(tx x).length < (tx sep).length
  · have e:Builtin.Str.occurrences (tx x) (tx sep) 0 (tx x).length ((tx x).length+1)=[]:=by
      cases z:Builtin.Str.occurrences (tx x) (tx sep) 0 (tx x).length ((tx x).length+1)with
      | nil=>rfl
      | cons i r=>
        have:=(PySem.StrLaws.occ_spec (tx x) (tx sep) 0 (tx x).length ((tx x).length+1) i (by rw[z];exact List.mem_cons_self ..)).1
        omega
    rw[decide_eq_true h,Bool.true_or,if_pos rfl,e]
    show [tx x]=Builtin.Str.partsBetween (tx x) [] (tx sep).length
    simp only[Builtin.Str.partsBetween,List.map_nil,List.nil_append,List.zip_cons_cons,List.zip_nil_right,List.map_cons]
    rw[PySem.StrLaws.sub_whole]
  · rw[decide_eq_false h,decide_eq_false (by decide),if_neg (by decide)]
    split
    · rename_i z
      rw[List.isEmpty_iff.mp z]
      show [tx x]=Builtin.Str.partsBetween (tx x) [] (tx sep).length
      simp only[Builtin.Str.partsBetween,List.map_nil,List.nil_append,List.zip_cons_cons,List.zip_nil_right,List.map_cons]
      rw[PySem.StrLaws.sub_whole]
    · rfl
theorem sub_list(x:List Nat)(a b:Nat):(Builtin.Str.strSub (tx x) a b).cps.toList=(x.drop a).take (b - a):=by
  have:=PySem.StrLaws.strSub_toList (tx x) a b
  rw[this]
  simp[tx]
theorem free_sub{sep x:List Nat}{a b:Nat}(hs:1≤sep.length)(hb:b≤x.length)(hn:∀k,a≤k→k < b→¬PySem.StrLaws.At (tx x) (tx sep) (tx x).length k):Free sep ((x.drop a).take (b - a)):=by
  intro j h
  rw[List.drop_take,List.drop_drop,List.take_take]at h
  have hl:=congrArg List.length h
  rw[List.length_take,List.length_drop]at hl
  have hm:sep.length≤b - a - j:=by omega
  rw[Nat.min_eq_left hm]at h
  exact hn (a+j) (by omega) (by omega) ⟨by rw[a0s,a0s];omega,(sub_iff x sep (a+j)).mpr h⟩
theorem parts_of{sep x:List Nat}(hs:1≤sep.length):∀(cuts:List Nat) (a f:Nat),PySem.StrLaws.ChainG (tx x) (tx sep) (tx x).length a cuts f→(∀k,f≤k→¬PySem.StrLaws.At (tx x) (tx sep) (tx x).length k)→
    ∀p∈PySem.StrLaws.partsFrom (tx x) (tx sep).length a cuts,∃a b,p.cps.toList=(x.drop a).take b∧Free sep p.cps.toList
  | [],a,f,h,hn,p,hp=>by
    rw[List.mem_singleton.mp hp,sub_list]
    refine⟨a,_,rfl,free_sub hs (by rw[a0s];exact Nat.le_refl _) fun k hk _=>hn k ?_⟩
    have:f=a:=h
    omega
  | c::r,a,f,h,hn,p,hp=>by
    obtain⟨h1,h2,h3,h4⟩:=h
    have h21:=h2.1
    rw[a0s,a0s]at h21
    rcases List.mem_cons.mp hp with rfl | hp
    · rw[sub_list]
      exact⟨a,_,rfl,free_sub hs (by omega) h3⟩
    · exact parts_of hs r _ f h4 hn p hp
theorem d0a{sep x:List Nat}{m n:Nat}(hs:1≤sep.length)(gs:Gd m sep)(gx:Gd n x):spG sep x≠[]∧(spG sep x).length≤x.length+1∧jn sep (spG sep x)=x∧(∀p∈spG sep x,Gd n p∧Free sep p):=by
  have e:=split_pb hs gs gx
  refine⟨?_,?_,?_,?_⟩
  · unfold spG
    rw[e]
    intro z
    have:=congrArg List.length z
    rw[List.length_map,PySem.length_partsBetween]at this
    simp at this
  · unfold spG
    rw[e,List.length_map,PySem.length_partsBetween]
    have hl:(Builtin.Str.occurrences (tx x) (tx sep) 0 (tx x).length ((tx x).length+1)).length≤x.length:=by
      have h1:(Builtin.Str.glued (tx sep) (Builtin.Str.partsBetween (tx x) (Builtin.Str.occurrences (tx x) (tx sep) 0 (tx x).length ((tx x).length+1)) (tx sep).length)).length=(tx x).length:=by rw[PySem.StrLaws.glued_between_self]
      rw[PySem.size_glued,PySem.length_partsBetween,Nat.add_sub_cancel,a0s,a0s]at h1
      have:(Builtin.Str.occurrences (tx x) (tx sep) 0 (tx x).length ((tx x).length+1)).length * 1≤(Builtin.Str.occurrences (tx x) (tx sep) 0 (tx x).length ((tx x).length+1)).length * sep.length:=Nat.mul_le_mul_left _ hs
      simp only[a0s]at this h1 ⊢
      omega
    omega
  · have h1:=PySem.StrLaws.glued_between_self (tx x) (tx sep) ((tx x).length+1)
    rw[← e,PySem.StrLaws.glued_eq_join,← spG_tx]at h1
    have h2:Str.join (tx sep) ((spG sep x).map tx)=tx (jn sep (spG sep x)):=by
      rw[← PySem.StrLaws.glued_eq_join]
      exact join_is sep _
    rw[h2]at h1
    exact d0u h1
  · intro p hp
    unfold spG at hp
    obtain⟨z,hz,rfl⟩:=List.mem_map.mp hp
    rw[e,PySem.StrLaws.partsBetween_eq]at hz
    obtain⟨f,c1,c2⟩:=PySem.StrLaws.occ_tight (tx x) (tx sep) (by rw[a0s];exact hs)
    obtain⟨a,b,e1,e2⟩:=parts_of hs _ 0 f c1 c2 z hz
    exact⟨by rw[e1];exact(gx.drop a).take b,e2⟩
def dN(n:Nat):List Nat:=(Nat.toDigits 10 n).map Char.toNat
theorem k0i{n:Nat}(h:n < 10):dN n=[48+n]:=by
  have:∀m,m < 10→dN m=[48+m]:=by decide
  exact this n h
theorem dN_big{n:Nat}(h:10≤n):dN n=dN (n / 10)++[48+n % 10]:=by
  have hm:n % 10 < 10:=Nat.mod_lt n (by decide)
  have t:Nat.toDigits 10 (n / 10)++Nat.toDigits 10 (n % 10)=Nat.toDigits 10 (10 * (n / 10)+n % 10):=Nat.toDigits_append_toDigits (by decide) (by omega) hm
  rw[Nat.div_add_mod]at t
  have:=k0i hm
  unfold dN at this ⊢
  rw[← t,List.map_append,this]
theorem dN_dg(n:Nat):(dN n).all dg=true∧0 < (dN n).length∧(0 < n→(dN n).head?≠some 48):=by
  induction n using Nat.strongRecOn with
  | _ n ih=>
    by_cases h:n < 10
    · rw[k0i h]
      refine⟨?_,by simp,fun h0 e=>?_⟩
      · simp[dg];omega
      · simp at e;omega
    · obtain⟨h1,h2,h3⟩:=ih (n / 10) (by omega)
      rw[dN_big (by omega)]
      have hm:n % 10 < 10:=Nat.mod_lt n (by decide)
      refine⟨?_,by simp,fun _ e=>?_⟩
      · rw[List.all_append,h1];simp[dg];omega
      · have:=h3 (by omega)
        cases hd:dN (n / 10)with
        | nil=>rw[hd]at h2;simp at h2
        | cons a r=>rw[hd]at this e;simp at this e;exact this e
theorem dN_len{n k:Nat}(hk:0 < k)(h:n < 10 ^ k):(dN n).length≤k:=by
  induction k generalizing n with
  | zero=>omega
  | succ k ih=>
    by_cases h9:n < 10
    · rw[k0i h9];simp
    · rw[dN_big (by omega),List.length_append,List.length_singleton]
      have:0 < k:=by
        cases k with
        | zero=>simp at h;omega
        | succ k=>omega
      have:=ih this (show n / 10 < 10 ^ k by rw[Nat.pow_succ]at h;omega)
      omega
theorem ts_dN(n:Nat):(ts (n:Int)).cps.toList=dN n:=PySem.W.KIN.signs_num n
def wl(d:PyData):List Nat:=(wrt d).cps.toList
theorem wl_tx(d:PyData):tx (wl d)=wrt d:=tx_of _
def lA(a:Int):List Nat:=(ts a).cps.toList
theorem lA_tx(a:Int):tx (lA a)=ts a:=tx_of _
theorem lA_nat(n:Nat):lA (n:Int)=dN n:=ts_dN n
theorem lA_neg(m:Nat):lA (Int.negSucc m)=45::dN (m+1):=by
  unfold lA ts
  rw[PyProof.Rows.signs_ofString]
  show(("-":String)++Nat.repr (m+1)).toList.map Char.toNat=_
  rw[String.toList_append,List.map_append,Nat.toList_repr]
  rfl
theorem dN_in{n c:Nat}(h:c∈dN n):48≤c∧c≤57:=by
  have:=List.all_eq_true.mp (dN_dg n).1 c h
  unfold dg at this
  simpa using this
theorem lA_in{a:Int}{c:Nat}(h:c∈lA a):c=45∨(48≤c∧c≤57):=by
  cases a with
  | ofNat n=>rw[show Int.ofNat n=((n:Nat):Int)from rfl,lA_nat]at h;exact .inr (dN_in h)
  | negSucc m=>
    rw[lA_neg]at h
    rcases List.mem_cons.mp h with h | h
    · exact .inl h
    · exact .inr (dN_in h)
theorem lA_lenK{a:Int}{k:Nat}(hk:0 < k)(h:a.natAbs < 10 ^ k):(lA a).length≤k+1∧0 < (lA a).length∧lA a≠[45]∧(0≤a→(lA a).length≤k):=by
  cases a with
  | ofNat n=>
    rw[show Int.ofNat n=((n:Nat):Int)from rfl,lA_nat]
    have:=dN_len (k:=k) hk (show n < 10 ^ k from h)
    refine⟨by omega,(dN_dg n).2.1,fun e=>?_,fun _=>this⟩
    have:=dN_in (n:=n) (c:=45) (by rw[e];simp)
    omega
  | negSucc m=>
    rw[lA_neg]
    have:=dN_len (k:=k) hk (show m+1 < 10 ^ k from h)
    refine⟨by rw[List.length_cons];omega,by simp,fun e=>?_,fun z=>absurd z (by omega)⟩
    have h2:=(dN_dg (m+1)).2.1
    have:dN (m+1)=[]:=by simpa using e
    rw[this]at h2
    simp at h2
theorem u29{n:Nat}(h:n < 10 ^ 29):n < 10 ^ 30:=Nat.lt_of_lt_of_le h (by decide)
theorem u19{n:Nat}(h:n < 10 ^ 19):n < 10 ^ 30:=Nat.lt_of_lt_of_le h (by decide)
def WQ(way p:Int)(d:PyData):Prop:=(way=0∧∃a b:Int,d=.tuple [.int a,.int b]∧a.natAbs < 10 ^ 29∧b.natAbs < 10 ^ 19∧0 < b∧dv a b=1)∨(way=1∧∃a:Int,d=.int a∧0≤a∧a < p∧p≤1000000)∨(way=2∧(d=.none∨∃a:Int,d=.int a∧a.natAbs < 10 ^ 29))∨(way=3∧∃b,d=.bool b)
theorem b30{a:Int}(h:a.natAbs < 10 ^ 30):a.natAbs≤2 ^ 100:=Nat.le_trans (Nat.le_of_lt h) (by decide)
theorem b6{a p:Int}(h0:0≤a)(h:a < p)(h2:p≤1000000):a.natAbs < 10 ^ 30:=Nat.lt_of_lt_of_le (show a.natAbs < 1000000 by omega) (by decide)
theorem WQ.wb{way p:Int}{d:PyData}(h:WQ way p d):WB way d:=by
  rcases h with ⟨e,a,b,rfl,ha,hb,_⟩ | ⟨e,a,rfl,h0,h1,h2⟩ | ⟨e,rfl | ⟨a,rfl,h0⟩⟩ | ⟨e,b,rfl⟩
  · exact .inl ⟨e,a,b,rfl,b30 (u29 ha),b30 (u19 hb)⟩
  · exact .inr (.inl ⟨e,a,rfl,b30 (b6 h0 h1 h2)⟩)
  · exact .inr (.inr (.inl ⟨e,.inl rfl⟩))
  · exact .inr (.inr (.inl ⟨e,.inr ⟨a,rfl,b30 (u29 h0)⟩⟩))
  · exact .inr (.inr (.inr ⟨e,b,rfl⟩))
theorem wl_fr1(a:Int):wl (.tuple [.int a,.int 1])=lA a:=by
  unfold wl
  rw[wrt,if_pos rfl]
  rfl
theorem wl_fr{a b:Int}(h:b≠1):wl (.tuple [.int a,.int b])=lA a++47::lA b:=by
  unfold wl
  rw[wrt,if_neg h,← lA_tx,← lA_tx,sl_is,g0t,g0t]
  simp[tx]
theorem wl_ok{way p:Int}{d:PyData}(h:WQ way p d):Gd 50 (wl d)∧0 < (wl d).length∧wl d≠[45]∧∀c∈wl d,c≠32∧c≠44∧c≠124:=by
  have ga:∀{a:Int},a.natAbs < 10 ^ 30→Gd 50 (lA a)∧0 < (lA a).length∧lA a≠[45]∧∀c∈lA a,c≠32∧c≠44∧c≠124:=fun{a} ha=>by
    obtain⟨h1,h2,h3,_⟩:=lA_lenK (k:=30) (by decide) ha
    exact⟨⟨by omega,fun c hc=>by have:=lA_in hc;omega⟩,h2,h3,fun c hc=>by have:=lA_in hc;omega⟩
  rcases h with ⟨e,a,b,rfl,ha,hb,b0,_⟩ | ⟨e,a,rfl,h0,h1,h2⟩ | ⟨e,rfl | ⟨a,rfl,h0⟩⟩ | ⟨e,b,rfl⟩
  · by_cases h:b=1
    · subst h
      rw[wl_fr1]
      exact ga (u29 ha)
    · rw[wl_fr h]
      have la:=lA_lenK (k:=29) (by decide) ha
      have lb:=lA_lenK (k:=19) (by decide) hb
      have lb4:=lb.2.2.2 (by omega)
      have key:∀c∈lA a++47::lA b,c=45∨c=47∨(48≤c∧c≤57):=fun c hc=>by
        rcases List.mem_append.mp hc with hc | hc
        · have:=lA_in hc;omega
        · rcases List.mem_cons.mp hc with hc | hc
          · omega
          · have:=lA_in hc;omega
      refine⟨⟨by rw[List.length_append,List.length_cons];omega,fun c hc=>by have:=key c hc;omega⟩,by rw[List.length_append,List.length_cons];omega,fun e=>?_,fun c hc=>by have:=key c hc;omega⟩
      have:=congrArg List.length e
      rw[List.length_append,List.length_cons,List.length_singleton]at this
      omega
  · exact ga (b6 h0 h1 h2)
  · show Gd 50 (Str.ofString "none").cps.toList∧0 < (Str.ofString "none").cps.toList.length∧(Str.ofString "none").cps.toList≠[45]∧∀c∈(Str.ofString "none").cps.toList,c≠32∧c≠44∧c≠124
    decide +kernel
  · exact ga (u29 h0)
  · cases b
    · show Gd 50 (Str.ofString "no").cps.toList∧0 < (Str.ofString "no").cps.toList.length∧(Str.ofString "no").cps.toList≠[45]∧∀c∈(Str.ofString "no").cps.toList,c≠32∧c≠44∧c≠124
      decide +kernel
    · show Gd 50 (Str.ofString "yes").cps.toList∧0 < (Str.ofString "yes").cps.toList.length∧(Str.ofString "yes").cps.toList≠[45]∧∀c∈(Str.ofString "yes").cps.toList,c≠32∧c≠44∧c≠124
      decide +kernel
def rowT(ds:List PyData):List Nat:=if ds=[]then [45]else jn [32] (ds.map wl)
def tabT(m:List (List PyData)):List Nat:=if m=[]then [45]else jn [44,32] (m.map rowT)
def pcsT(l:List Nat)(st:List PyData)(ts:List (List (List PyData)))(en:List PyData):List (List Nat):=([l,rowT st]++ts.map tabT)++[rowT en]
def macT(l:List Nat)(st:List PyData)(ts:List (List (List PyData)))(en:List PyData):List Nat:=jn [32,124,32] (pcsT l st ts en)
theorem jn_in{sep:List Nat}:∀{ls:List (List Nat)} {c:Nat},c∈jn sep ls→c∈sep∨∃p∈ls,c∈p
  | [],_,h=>by cases h
  | [p],_,h=>.inr ⟨p,by simp,h⟩
  | p::q::r,c,h=>by
    rw[jn]at h
    rcases List.mem_append.mp h with h | h
    · rcases List.mem_append.mp h with h | h
      · exact .inr ⟨p,by simp,h⟩
      · exact .inl h
    · rcases jn_in h with h | ⟨p',h1,h2⟩
      · exact .inl h
      · exact .inr ⟨p',List.mem_cons_of_mem _ h1,h2⟩
theorem jn_len{sep:List Nat}{k:Nat}:∀{ls:List (List Nat)},(∀p∈ls,p.length≤k)→(jn sep ls).length≤ls.length * (k+sep.length)
  | [],_=>by simp[jn]
  | [p],h=>by
    have:=h p (by simp)
    rw[jn,List.length_singleton,Nat.one_mul]
    omega
  | p::q::r,h=>by
    have h1:=h p (by simp)
    have h2:=jn_len (sep:=sep) (ls:=q::r) (fun x hx=>h x (List.mem_cons_of_mem _ hx))
    rw[jn,List.length_append,List.length_append,List.length_cons,Nat.succ_mul]
    omega
theorem jn_gd{sep:List Nat}{k:Nat}{ls:List (List Nat)}(hs:∀c∈sep,c < 128)(h:∀p∈ls,Gd k p):Gd (ls.length * (k+sep.length)) (jn sep ls):=
  ⟨jn_len fun p hp=>(h p hp).1,fun c hc=>(jn_in hc).elim (hs c) fun⟨p,h1,h2⟩=>(h p h1).2 c h2⟩
theorem jn_pos{sep:List Nat}{ls:List (List Nat)}(hne:ls≠[])(h:∀p∈ls,0 < p.length)(hs:0 < sep.length):0 < (jn sep ls).length∧((∀p∈ls,p≠[45])→45 ∉ sep→jn sep ls≠[45]):=by
  match ls,hne with
  | [p],_=>exact⟨h p (by simp),fun k _=>k p (by simp)⟩
  | p::q::r,_=>
    refine⟨by rw[jn,List.length_append,List.length_append];omega,fun _ k e=>?_⟩
    have:=congrArg List.length e
    have h1:=h p (by simp)
    rw[jn,List.length_append,List.length_append,List.length_singleton]at this
    omega
structure RG(ds:List PyData)(way p:Int):Prop where
  n20:ds.length≤20
  wq:∀d∈ds,WQ way p d
theorem row_gd{ds:List PyData}{way p:Int}(h:RG ds way p):Gd 1280 (rowT ds)∧0 < (rowT ds).length∧(∀c∈rowT ds,c≠44∧c≠124)∧(ds≠[]→rowT ds≠[45]):=by
  unfold rowT
  have n20:=h.n20
  by_cases e:ds=[]
  · rw[if_pos e]
    refine⟨by decide,by decide,by decide,fun k=>absurd e k⟩
  · rw[if_neg e]
    have hw:∀q∈ds.map wl,Gd 50 q∧0 < q.length∧q≠[45]∧∀c∈q,c≠32∧c≠44∧c≠124:=fun q hq=>by
      obtain⟨d,hd,rfl⟩:=List.mem_map.mp hq
      exact wl_ok (h.wq d hd)
    have g:=jn_gd (sep:=[32]) (by decide) (fun q hq=>(hw q hq).1)
    have g2:=jn_pos (sep:=[32]) (ls:=ds.map wl) (by simpa using e) (fun q hq=>(hw q hq).2.1) (by decide)
    refine⟨g.mono ?_,g2.1,fun c hc=>?_,fun _=>g2.2 (fun q hq=>(hw q hq).2.2.1) (by decide)⟩
    · rw[List.length_map]
      show ds.length * 51≤1280
      omega
    · rcases jn_in hc with hc | ⟨q,h1,h2⟩
      · have:c=32:=by simpa using hc
        subst this
        decide
      · exact((hw q h1).2.2.2 c h2).2
structure TG'(m:List (List PyData))(n:Nat)(way p:Int):Prop where
  ln:m.length=n
  n20:n≤20
  rg:∀r∈m,r.length=n∧RG r way p
theorem tab_gd{m:List (List PyData)}{n:Nat}{way p:Int}(h:TG' m n way p):Gd 25640 (tabT m)∧0 < (tabT m).length∧∀c∈tabT m,c≠124:=by
  unfold tabT
  have n20:=h.n20
  have ln:=h.ln
  by_cases e:m=[]
  · rw[if_pos e]
    exact⟨by decide,by decide,by decide⟩
  · rw[if_neg e]
    have hw:∀q∈m.map rowT,Gd 1280 q∧0 < q.length∧∀c∈q,c≠124:=fun q hq=>by
      obtain⟨d,hd,rfl⟩:=List.mem_map.mp hq
      have:=row_gd (h.rg d hd).2
      exact⟨this.1,this.2.1,fun c hc=>(this.2.2.1 c hc).2⟩
    have g:=jn_gd (sep:=[44,32]) (by decide) (fun q hq=>(hw q hq).1)
    have g2:=jn_pos (sep:=[44,32]) (ls:=m.map rowT) (by simpa using e) (fun q hq=>(hw q hq).2.1) (by decide)
    refine⟨g.mono ?_,g2.1,fun c hc=>?_⟩
    · rw[List.length_map]
      show m.length * 1282≤25640
      omega
    · rcases jn_in hc with hc | ⟨q,h1,h2⟩
      · have:c=44∨c=32:=by simpa using hc
        omega
      · exact(hw q h1).2.2 c h2
seal L2.PSs L2.PS L2.PE L2.PT L2.PW L2.PA L2.PG L2.PGs L2.PI
section
variable{w:World}{K:PySem.W.Frag}{mg:Str→Option Value}{base:Heap}{t:Adr}
theorem h0n(T:Txt K mg t):FnOk Pr w K mg base CX0 1 t.s0k t.p0m ["thing"] sp_whole:=by
  refine T.q0a.ok sc_is_whole (fun vs H Q E h=>?_) (fun cdv A outer s H vs Q E hr h=>?_)
  · obtain⟨i,rfl,_⟩:=h
    rfl
  · obtain⟨i,rfl,k⟩:=h
    refine⟨_,(a0g (a0o (pe_and (a0k g0d (by rfl) T.z_isinstance boot_isinstance (a0a (pv 0) (a0a (g0n (v:=.ty "int") rfl T.z_int boot_int rfl) a0b))) (i0t (pe_not (a0k g0d (by rfl) T.z_isinstance boot_isinstance (a0a (pv 0) (a0a (g0n (v:=.ty "bool") rfl T.z_bool boot_bool rfl) a0b)))))))),?_⟩
    (repeat (first | apply Exists.intro | refine And.intro rfl ?_ | refine And.intro (by with_reducible assumption) ?_ | refine And.intro (SqT.of (by assumption)) ?_ | refine And.intro (SqL.of (by assumption)) ?_ | refine And.intro (TyOf.int _) ?_ | refine And.intro (TyOf.tup (by assumption)) ?_ | refine And.intro T.k_ii ?_ | refine And.intro T.k_ib ?_ | refine And.intro T.k_tt ?_ | refine And.intro T.k_bb ?_ | refine And.intro T.k_ss ?_ | refine And.intro T.nP ?_ | refine And.intro T.k_ts ?_ | refine And.intro T.k_ns ?_ | refine And.intro T.k_is ?_ | refine And.intro T.k_ls ?_ | refine And.intro T.eT ?_ | refine And.intro T.vT1 ?_ | refine And.intro T.kTT ?_ | refine And.intro T.xNoKind ?_ | refine And.intro T.xWrongKind ?_ | refine And.intro T.xNoWeight ?_ | refine And.intro T.xNoWord ?_ | refine And.intro T.xUnlike ?_ | refine And.intro T.xNoClosure ?_ | refine And.intro T.xTooGreat ?_ | refine And.intro T.xNoName ?_ | refine And.intro T.xNoRow ?_))
    (try refine iteT ?_)
    (repeat (first | apply Exists.intro | refine And.intro rfl ?_ | refine And.intro (by with_reducible assumption) ?_ | refine And.intro (SqT.of (by assumption)) ?_ | refine And.intro (SqL.of (by assumption)) ?_ | refine And.intro (TyOf.int _) ?_ | refine And.intro (TyOf.tup (by assumption)) ?_ | refine And.intro T.k_ii ?_ | refine And.intro T.k_ib ?_ | refine And.intro T.k_tt ?_ | refine And.intro T.k_bb ?_ | refine And.intro T.k_ss ?_ | refine And.intro T.nP ?_ | refine And.intro T.k_ts ?_ | refine And.intro T.k_ns ?_ | refine And.intro T.k_is ?_ | refine And.intro T.k_ls ?_ | refine And.intro T.eT ?_ | refine And.intro T.vT1 ?_ | refine And.intro T.kTT ?_ | refine And.intro T.xNoKind ?_ | refine And.intro T.xWrongKind ?_ | refine And.intro T.xNoWeight ?_ | refine And.intro T.xNoWord ?_ | refine And.intro T.xUnlike ?_ | refine And.intro T.xNoClosure ?_ | refine And.intro T.xTooGreat ?_ | refine And.intro T.xNoName ?_ | refine And.intro T.xNoRow ?_))
    exact k
theorem ok_divisor(T:Txt K mg t):FnOk Pr w K mg base CX0 1 t.t0k t.s0c ["one","other"] sp_divisor:=by
  refine T.r0w.ok sc_divisor (fun vs H Q E h=>?_) (fun cdv A outer s H vs Q E hr h=>?_)
  · obtain⟨a,b,rfl,_⟩:=h
    rfl
  · obtain⟨a,b,rfl,k⟩:=h
    refine⟨_,(a0d (a0q (i:=2) sc_divisor.nd rfl (Or.inl rfl) (a0k k0m (by rfl) T.z_abs boot_abs (a0a (pv 0) a0b))) (a0d (a0q (i:=3) sc_divisor.nd rfl (Or.inl rfl) (a0k k0m (by rfl) T.z_abs boot_abs (a0a (pv 1) a0b))) (a0d (j0l PassesOwn.never (a0j j0p (pv 3) a0f (a0l _)) (a0d (a0q (i:=4) sc_divisor.nd rfl (Or.inl rfl) (b0c c0q (pv 2) (pv 3))) (a0d (a0q (i:=2) sc_divisor.nd rfl (Or.inl rfl) (pv 3)) (a0g (a0q (i:=3) sc_divisor.nd rfl (Or.inl rfl) (pv 4)))))) (a0g (a0o (pv 2)))))),?_⟩
    refine⟨_,rfl,_,rfl,_,rfl,_,rfl,?_⟩
    refine⟨fun m σ H'=>∃g r l,σ=[some (.int a),some (.int b),some (.int g),some (.int r),l]∧m=r.toNat∧(0≤g∧0≤r∧dv g r=dv a b)∧H'=H,⟨_,_,_,_,rfl,rfl,start1 a b,rfl⟩,?_⟩
    rintro m σ H' ⟨g,r,l,rfl,rfl,⟨g0,r0,e⟩,rfl⟩
    (repeat (first | apply Exists.intro | refine And.intro rfl ?_ | refine And.intro (by with_reducible assumption) ?_ | refine And.intro (SqT.of (by assumption)) ?_ | refine And.intro (SqL.of (by assumption)) ?_ | refine And.intro (TyOf.int _) ?_ | refine And.intro (TyOf.tup (by assumption)) ?_ | refine And.intro T.k_ii ?_ | refine And.intro T.k_ib ?_ | refine And.intro T.k_tt ?_ | refine And.intro T.k_bb ?_ | refine And.intro T.k_ss ?_ | refine And.intro T.nP ?_ | refine And.intro T.k_ts ?_ | refine And.intro T.k_ns ?_ | refine And.intro T.k_is ?_ | refine And.intro T.k_ls ?_ | refine And.intro T.eT ?_ | refine And.intro T.vT1 ?_ | refine And.intro T.kTT ?_ | refine And.intro T.xNoKind ?_ | refine And.intro T.xWrongKind ?_ | refine And.intro T.xNoWeight ?_ | refine And.intro T.xNoWord ?_ | refine And.intro T.xUnlike ?_ | refine And.intro T.xNoClosure ?_ | refine And.intro T.xTooGreat ?_ | refine And.intro T.xNoName ?_ | refine And.intro T.xNoRow ?_))
    refine iteP (fun hr0=>?_) (fun hr0=>?_)
    · refine⟨fun σ' H''=>∃g' r' l',σ'=[some (.int a),some (.int b),some (.int g'),some (.int r'),l']∧r'.toNat < r.toNat∧(0≤g'∧0≤r'∧dv g' r'=dv a b)∧H''=H',fun σ' H'' ⟨g',r',l',e1,e2,e3,e4⟩=>⟨_,e2,g',r',l',e1,rfl,e3,e4⟩,?_⟩
      refine⟨_,rfl,_,rfl,_,_,rfl,rfl,(show r≠0 by omega),_,rfl,_,rfl,?_⟩
      exact⟨_,_,_,rfl,d_less hr0,d_turn e hr0,rfl⟩
    · refine⟨_,rfl,?_⟩
      (try dsimp only)
      rw[d_out e g0 r0 hr0]
      exact k
theorem ok_is_prime(T:Txt K mg t):FnOk Pr w K mg base CX0 1 t.s0y t.r0d ["number"] sp_prime:=by
  refine T.p0y.ok sc_is_prime (fun vs H Q E h=>?_) (fun cdv A outer s H vs Q E hr h=>?_)
  · obtain⟨n,rfl,_⟩:=h
    rfl
  · obtain⟨n,rfl,⟨n2,n6,hp⟩,k⟩:=h
    have PP:=isP_true hp
    refine⟨_,(a0d (a0y (a0j op_lt (pv 0) a0f (a0l _)) (a0g (a0o g0o)) a0n) (a0d (a0q (i:=1) sc_is_prime.nd rfl (Or.inl rfl) a0f) (a0d (j0l PassesOwn.never (a0j op_le (b0c i0u (pv 1) (pv 1)) (pv 0) (a0l _)) (a0d (a0y (a0j b0j (b0c c0q (pv 0) (pv 1)) a0f (a0l _)) (a0g (a0o g0o)) a0n) (a0g (a0q (i:=1) sc_is_prime.nd rfl (Or.inl rfl) (b0c c0w (pv 1) a0f))))) (a0g (a0o g0o))))),?_⟩
    refine⟨_,rfl,_,_,rfl,rfl,_,rfl,?_⟩
    refine iteP (fun h0=>absurd h0 (by omega)) (fun _=>?_)
    refine⟨fun m σ H'=>∃f:Int,σ=[some (.int n),some (.int f)]∧m=(n+2 - f).toNat∧(2≤f∧f≤n+1)∧H'=H,⟨_,_,rfl,rfl,⟨by omega,by omega⟩,rfl⟩,?_⟩
    rintro m σ H' ⟨f,rfl,rfl,⟨f2,fn⟩,rfl⟩
    have cm:CMul f f:=.inl ⟨by omega,by omega⟩
    refine⟨_,rfl,_,rfl,_,_,rfl,rfl,cm,_,rfl,_,_,rfl,rfl,_,rfl,?_⟩
    refine iteP (fun h0=>?_) (fun h0=>?_)
    · refine⟨fun σ' H''=>∃f':Int,σ'=[some (.int n),some (.int f')]∧(n+2 - f').toNat < (n+2 - f).toNat∧(2≤f'∧f'≤n+1)∧H''=H',fun σ' H'' ⟨f',e1,e2,e3,e4⟩=>⟨_,e2,f',e1,rfl,e3,e4⟩,?_⟩
      refine⟨_,rfl,_,rfl,_,_,rfl,rfl,(show f≠0 by omega),rfl,_,rfl,?_⟩
      have hs:=sq_le f2 h0
      refine iteI (fun h1=>absurd h1 (PP.2 f f2 h0)) (fun _=>?_)
      refine⟨_,rfl,_,_,rfl,rfl,?_⟩
      exact⟨_,rfl,by omega,⟨by omega,by omega⟩,rfl⟩
    · exact k
theorem e0s(T:Txt K mg t):FnOk Pr w K mg base CX0 2 t.k0z t.k0u ["self","prime"] (sp_init t.s0z):=by
  refine T.k0v.ok e0r (fun vs H Q E h=>?_) (fun cdv A outer s H vs Q E hr h=>?_)
  · obtain⟨x,dx,n,rfl,_⟩:=h
    rfl
  · obtain⟨x,dx,n,rfl,hn,hx,k⟩:=h
    refine⟨_,(a0d (a0y (PW.pt (d0x (d0w (e0d (a0p (h0n T) hr.m rfl T.p0o T.q0a.kp T.p0q .nil b0b (a0a (pv 1) a0b)))) (d0x (a0j j0p (pv 1) (b0t (v:=.int 1000000) rfl T.c_GREATEST_PRIME.choose_spec ⟨_,rfl⟩) (a0l _)) (d0v (d0w (e0d (a0p (ok_is_prime T) hr.m rfl T.p0l T.p0y.kp T.p0s .nil b0b (a0a (pv 1) a0b)))))))) (a0g ps_never) a0n) (a0g (ps_fld (pv 0) (pv 1) rfl))),?_⟩
    refine⟨_,rfl,_,rfl,_,rfl,?_⟩
    (try refine iteF ?_)
    refine⟨_,rfl,_,_,rfl,rfl,_,rfl,?_⟩
    refine iteP (fun h0=>absurd h0 (by have:=hn.2.1;omega)) (fun _=>?_)
    refine⟨_,rfl,_,rfl,hn,_,rfl,?_⟩
    (try refine iteF ?_)
    refine⟨_,rfl,_,rfl,x,_,dx,_,rfl,hx,T.q0m,T.nP,(by show 0 < 1000;decide),?_⟩
    exact k
theorem hd_at{f:List Nat}{c:Nat}(h:f.head? = some c):atI (tx f).cps.toList 0=some c:=by
  cases f with
  | nil=>cases h
  | cons a r => have : a = c := by simpa using h
                subst this
                exact c0k (j:=0) (by simp[tx])
def NoStr(K:PySem.W.Frag)(v:V)(H:Hp):Prop:=∃ty,TyOf K H v ty∧PySem.W.kitOne K ty (.type "str")=some false
def sp_written(K:PySem.W.Frag):Sp:=fun vs H Q _=>∃v,vs=[v]∧((∃l,v=vT l∧Gd 16777216 l∧∀H',Same H H'→Q (.bl (wr l)) H')∨(NoStr K v H∧Q (.bl false) H))
theorem j0r(T:Txt K mg t):FnOk Pr w K mg base CX0 1 t.q0c t.n0m ["text"] (sp_written K):=by
  refine T.m0z.ok sc_is_written (fun vs H Q E h=>?_) (fun cdv A outer s H vs Q E hr h=>?_)
  · obtain⟨v,rfl,_⟩:=h
    rfl
  · obtain⟨v,rfl,h⟩:=h
    have z40:16777216≤sizeLine:=by decide
    refine⟨_,(a0d (a0y (d0w (e0d (a0k g0d (by rfl) T.z_isinstance boot_isinstance (a0a (pv 0) (a0a (g0n (v:=.ty "str") rfl T.z_str boot_str rfl) a0b))))) (a0g (a0o g0o)) a0n) (a0d (a0q (i:=1) sc_is_written.nd rfl (Or.inl rfl) (pe_ifExp (e0d (c0s PySem.F.plainAttrs_str PySem.F.slot_str_startswith PySem.F.type_str_startswith mt_starts (pv 0) (a0a a0m a0b))) (b0n f0l (pv 0) (b0s a0f) c0c) (pv 0))) (a0d (a0y (PW.pt (d0x (a0j b0j (a0k a0v (by rfl) T.z_len PySem.boot_len (a0a (pv 1) a0b)) a0f (a0l _)) (d0v (a0j j0p (a0k a0v (by rfl) T.z_len PySem.boot_len (a0a (pv 1) a0b)) (b0t (v:=.int 30) rfl T.c_MOST_FIGURES.choose_spec ⟨_,rfl⟩) (a0l _))))) (a0g (a0o g0o)) a0n) (a0d (a0y (a0j b0j (b0d ix_str (pv 1) a0f (fun _ _=>rfl)) a0m (a0l _)) (a0g (a0o (c0p b0j (pv 0) a0m (a0l _)))) a0n) (a0g (a0o (a0k (h0g rfl) (by rfl) T.z_all boot_all (a0a (d0q (xs:=["sign"]) rfl (show c0f ["text","figures"] (a0i d0c) _ from⟨rfl,by decide +kernel,by decide +kernel,by decide +kernel,by decide +kernel,by decide +kernel⟩) (pi_str (pv 1)) (fun _ _ _ _ _=>(b0i (i:=2) (by show List.Nodup (["text","figures","sign"]:List Str);decide +kernel) rfl (Or.inl rfl))) (fun _ _ _ _ _=>(c0p f0s (pv 2) (b0t (v:=.str "0123456789") rfl T.c_FIGURES.choose_spec ⟨_,rfl⟩) (by with_unfolding_all rfl)))) a0b)))))))),?_⟩
    rcases h with ⟨l,rfl,g,k⟩ | ⟨⟨ty,y1,y2⟩,k⟩
    case inr=>
      refine⟨_,rfl,_,_,_,_,rfl,y1,y2,_,rfl,?_⟩
      (try refine iteT ?_)
      exact k
    have gl:=g.1
    refine⟨_,rfl,_,_,_,_,rfl,TyOf.str _,T.k_ss,_,rfl,?_⟩
    (try refine iteF ?_)
    refine⟨_,rfl,rfl,_,_,rfl,rfl,_,rfl,?_⟩
    dsimp only
    refine(fun(key:∀f,f=figs l→(?F:L2.St→Hp→Prop) [some (vT l),some (vT f)] H)=>?main) ?rest
    case main=>
      rw[starts_is]
      refine iteP (fun h=>?_) (fun h=>?_)
      · refine⟨_,rfl,_,rfl,_,rfl,by rw[a0s];omega,?_⟩
        rw[h0i (by decide)]
        exact key (l.drop 1) (by rw[figs,if_pos h])
      · refine⟨_,rfl,?_⟩
        exact key l (by rw[figs,if_neg h])
    case rest=>
      intro f ef
      have gf:Gd 16777216 f:=by
        rw[ef,figs]
        split
        · exact g.drop 1
        · exact g
      have fl:=gf.1
      have lf:LenV K (vT f) H (tx f).length:=⟨by rw[a0s];omega,rfl⟩
      rw[a0s]at lf
      refine⟨_,rfl,_,_,rfl,lf,rfl,_,rfl,?_⟩
      dsimp only
      refine iteI (fun h0=>?_) (fun h0=>?_)
      · refine (by show Q (.bl false) H; have e : wr l = false := by rw [wr, ← ef, decide_eq_false (by omega)]; rfl
                   have:=k H (Same.refl _);rw[e]at this;exact this)
      refine⟨_,rfl,_,_,rfl,lf,_,_,rfl,rfl,_,rfl,?_⟩
      dsimp only
      refine iteP (fun h1=>?_) (fun h1=>?_)
      · refine (by show Q (.bl false) H; have e : wr l = false := by rw [wr, ← ef, decide_eq_false (show ¬ f.length ≤ 30 by omega), Bool.and_false]; rfl
                   have:=k H (Same.refl _);rw[e]at this;exact this)
      obtain⟨c,r,rfl⟩:∃c r,f=c::r:=by
        cases f with
        | nil=>exact absurd rfl h0
        | cons c r=>exact⟨c,r,rfl⟩
      have ewr:wr l=(if c=48 then decide (l=[48])else(c::r).all dg):=by
        rw[wr,← ef,decide_eq_true (by simp),decide_eq_true (by omega)]
        simp only[List.head?_cons,Option.some.injEq,Bool.and_self,Bool.true_and]
      refine⟨_,rfl,_,_,_,rfl,rfl,by rw[a0s];omega,hd_at rfl,rfl,_,rfl,?_⟩
      dsimp only
      rw[o_is]
      refine iteS (fun h2=>?_) (fun h2=>?_)
      · have hc:c=48:=by
          have:=d0u (a:=[c]) (b:=[48]) h2
          simpa using this
        refine⟨_,rfl,rfl,?_⟩
        have e:decide (V.str (tx l)=V.str (Str.ofString "0"))=wr l:=by
          rw[ewr,if_pos hc,o_is,Bool.eq_iff_iff,decide_eq_true_eq,decide_eq_true_eq]
          exact⟨fun z=>d0u (V.str.inj z),fun z=>by rw[z]⟩
        show Q (.bl (decide (V.str (tx l)=V.str (Str.ofString "0")))) H
        rw[e]
        exact k H (Same.refl _)
      · have hc:¬c=48:=fun z=>h2 (by subst z;rfl)
        rw[if_neg hc]at ewr
        refine⟨_,rfl,_,rfl,gf.asc,d0t (n:=(c::r).length) (fun j zs H3=>(H3=H∧zs=(((c::r).take j).map dg).map V.bl)∧zs.length=j) (by omega) ⟨⟨rfl,rfl⟩,rfl⟩ (fun j zs H3 q=>q.2) ?_ ?_ ?_⟩
        · rintro j zs H3 hj ⟨⟨rfl,rfl⟩,lz⟩
          refine⟨(by show j < (c::r).toArray.size;simpa using hj),fun y G3 hy=>?_⟩
          obtain⟨rfl,c',hc',rfl⟩:=hy
          have hc':(c::r)[j]? = some c':=by simpa [tx] using hc'
          refine⟨⟨[some _],rfl,rfl⟩,_,rfl,_,_,rfl,rfl,⟨rfl,?_⟩,by rw[List.length_append,lz];rfl⟩
          rw[List.take_succ,hc',List.map_append,List.map_append]
          have:=in_fig c'
          simp only[Option.toList_some,List.map_cons,List.map_nil]
          rw[← this]
        · rintro zs H3 ⟨⟨rfl,rfl⟩,_⟩
          show(c::r).toArray.size≤_
          simp
        · rintro zs H3 lp ⟨⟨rfl,rfl⟩,_⟩ nl
          refine⟨lp,_,rfl,SqL.of a0c,?_⟩
          have ea:(((c::r).take (c::r).length).map dg).all id=wr l:=by
            rw[List.take_length,ewr,List.all_map];rfl
          dsimp only
          rw[ea]
          exact k _ (a0e nl)
def spx_whole(K:PySem.W.Frag)(t:Adr):Sp:=fun vs H Q E=>∃v,vs=[v]∧((∃l,v=vT l∧Gd 16777216 l∧(wr l=true→∀H',Same H H'→Q (.int (nm l)) H')∧(wr l=false→∀H',Same H H'→E (.ref t.t0n) none H'))∨(NoStr K v H∧E (.ref t.t0n) none H))
theorem c0m(T:Txt K mg t):FnOk Pr w K mg base (CX1 Pr w) 2 t.q0q t.n0v ["text"] (spx_whole K t):=by
  refine T.n0k.okx j0d (fun vs H Q E h=>?_) (fun cdv A outer s H vs Q E hr h=>?_)
  · obtain⟨v,rfl,_⟩:=h
    rfl
  · obtain⟨v,rfl,h⟩:=h
    refine⟨_,(a0d (a0y (d0w (e0d (a0p (j0r T) hr.m rfl T.n0f T.m0z.kp T.o0d .nil b0b (a0a (pv 0) a0b)))) (a0g (c0r b0k rfl T.s0v.ex rfl T.t0d (a0a a0m a0b))) a0n) (a0g (a0o (a0z g0e (by rfl) T.z_int boot_int (a0a (pv 0) a0b))))),?_⟩
    rcases h with ⟨l,rfl,g,k0,k1⟩ | ⟨hn,k⟩
    case inr=>
      refine⟨_,rfl,_,rfl,.inr ⟨hn,_,rfl,?_⟩⟩
      (try refine iteT ?_)
      exact⟨(by show 1≤sizeLine;decide),k⟩
    refine⟨_,rfl,_,rfl,.inl ⟨l,rfl,g,fun H1 s1=>?_⟩⟩
    refine⟨_,rfl,?_⟩
    cases hw:wr l with
    | false=>
      (try refine iteT ?_)
      exact⟨(by show 1≤sizeLine;decide),k1 hw H1 s1⟩
    | true=>
      (try refine iteF ?_)
      obtain⟨e1,e2⟩:=wr_int hw
      exact⟨_,rfl,_,_,rfl,e1,e2,k0 hw H1 s1⟩
def spx_need(K:PySem.W.Frag)(t:Adr):Sp:=fun vs H Q E=>∃v,vs=[v]∧((∃l,v=vT l∧Q .non H)∨(NoStr K v H∧E (.ref t.t0n) none H))
theorem c0t(T:Txt K mg t):FnOk Pr w K mg base (CX1 Pr w) 1 t.s0d t.o0g ["text"] (spx_need K t):=by
  refine T.o0v.okx sc_need_text (fun vs H Q E h=>?_) (fun cdv A outer s H vs Q E hr h=>?_)
  · obtain⟨v,rfl,_⟩:=h
    rfl
  · obtain⟨v,rfl,h⟩:=h
    refine⟨_,(a0g (a0y (d0w (e0d (a0k g0d (by rfl) T.z_isinstance boot_isinstance (a0a (pv 0) (a0a (g0n (v:=.ty "str") rfl T.z_str boot_str rfl) a0b))))) (a0g (c0r b0k rfl T.s0v.ex rfl T.t0d (a0a a0m a0b))) a0n)),?_⟩
    rcases h with ⟨l,rfl,k⟩ | ⟨⟨ty,h1,h2⟩,k⟩
    · refine⟨_,rfl,_,_,_,_,rfl,TyOf.str _,T.k_ss,_,rfl,?_⟩
      (try refine iteF ?_)
      exact k
    · refine⟨_,rfl,_,_,_,_,rfl,h1,h2,_,rfl,?_⟩
      (try refine iteT ?_)
      exact⟨(by show 1≤sizeLine;decide),k⟩
def WV(H:Hp)(v:V):PyData→Prop
  | .none=>v=.non
  | .bool b=>v=.bl b
  | .int i=>v=.int i
  | .tuple [.int a,.int b]=>∃p,v=.ref p∧H p=some (.tup [.int a,.int b])
  | _=>False
theorem WV.same{H H':Hp}{v:V}{d:PyData}(s:Same H H')(hd:WDt d)(h:WV H v d):WV H' v d:=by
  rcases hd with rfl | ⟨b,rfl⟩ | ⟨i,rfl⟩ | ⟨a,b,rfl⟩
  · exact h
  · exact h
  · exact h
  · obtain⟨p,e,hp⟩:=h
    exact⟨p,e,s _ _ hp⟩
theorem WV.is{H:Hp}{v:V}{d:PyData}(hd:WDt d)(h:WV H v d):Is K H v d:=by
  rcases hd with rfl | ⟨b,rfl⟩ | ⟨i,rfl⟩ | ⟨a,b,rfl⟩
  · cases (show v=.non from h);exact .non
  · cases (show v=.bl b from h);exact .bl b
  · cases (show v=.int i from h);exact .int i
  · obtain⟨p,rfl,hp⟩:=h
    exact .tup (SqT.of hp) (.cons (.int _) (.cons (.int _) .nil))
theorem WB.wd{way:Int}{d:PyData}(h:WB way d):WDt d:=by
  rcases h with ⟨_,a,b,rfl,_⟩ | ⟨_,a,rfl,_⟩ | ⟨_,rfl | ⟨a,rfl,_⟩⟩ | ⟨_,b,rfl⟩
  · exact .inr (.inr (.inr ⟨_,_,rfl⟩))
  · exact .inr (.inr (.inl ⟨_,rfl⟩))
  · exact .inl rfl
  · exact .inr (.inr (.inl ⟨_,rfl⟩))
  · exact .inr (.inl ⟨_,rfl⟩)
def spRead(K:PySem.W.Frag)(t:Adr)(C:Addr)(fs:List (Str × V))(rd:List Nat→Option PyData):Sp:=fun vs H Q E=>∃kv v,vs=[kv,v]∧KAt C fs H kv∧
  ((∃l,v=vT l∧Gd 16777216 l∧(∀d,rd l=some d→∀u H',Same H H'→WV H' u d→Q u H')∧(rd l=none→∀H',Same H H'→E (.ref t.t0n) none H'))∨(NoStr K v H∧∀H',Same H H'→E (.ref t.t0n) none H'))
theorem f0u(T:Txt K mg t):FnOk Pr w K mg base (CX1 Pr w) 3 t.l0x t.l0i ["self","text"] (spRead K t t.r0x [] rdF):=by
  refine T.l0g.okx sc_Fractions_read (fun vs H Q E h=>?_) (fun cdv A outer s H vs Q E hr h=>?_)
  · obtain⟨kv,v,rfl,_⟩:=h
    rfl
  · obtain⟨kv,v,rfl,hk,h⟩:=h
    have z40:16777216≤sizeLine:=by decide
    refine⟨_,(a0d (d0p (PEX.thru b0k (c0b (c0t T) hr.m rfl T.p0k T.o0v.kp T.o0p .nil (a0a (pv 1) a0b)))) (a0d (a0q (i:=2) sc_Fractions_read.nd rfl (Or.inl rfl) (c0s PySem.F.plainAttrs_str PySem.F.slot_str_partition PySem.F.type_str_partition g0y (pv 1) (a0a a0m a0b))) (a0d (a0q (i:=3) sc_Fractions_read.nd rfl (Or.inl rfl) (PEX.thru b0k (c0b (c0m T) hr.m rfl T.n0t T.n0k.kp T.n0y .nil (a0a (b0d b0m (pv 2) a0f (fun _ _=>rfl)) a0b)))) (a0d (a0y (a0j b0j (b0d b0m (pv 2) a0f (fun _ _=>rfl)) a0m (a0l _)) (a0g (a0o (b0u (a0a (pv 3) (a0a a0f a0b))))) a0n) (a0d (a0q (i:=4) sc_Fractions_read.nd rfl (Or.inl rfl) (PEX.thru b0k (c0b (c0m T) hr.m rfl T.n0t T.n0k.kp T.n0y .nil (a0a (b0d b0m (pv 2) a0f (fun _ _=>rfl)) a0b)))) (a0d (a0y (PW.pt (d0x (a0j op_lt (pv 4) a0f (a0l _)) (d0v (a0j e0f (a0p (ok_divisor T) hr.m rfl T.s0a T.r0w.kp T.s0b .nil b0b (a0a (pv 3) (a0a (pv 4) a0b))) a0f (a0l _))))) (a0g (c0r b0k rfl T.s0v.ex rfl T.t0d (a0a a0m a0b))) a0n) (a0g (a0o (b0u (a0a (pv 3) (a0a (pv 4) a0b))))))))))),?_⟩
    rcases h with ⟨l,rfl,g,k0,k1⟩ | ⟨hn,k1⟩
    · have gl:=g.1
      refine⟨_,rfl,_,rfl,.inl ⟨l,rfl,?_⟩⟩
      refine⟨_,rfl,rfl,_,_,rfl,rfl,rfl,by rw[a0s];omega,fun pp np=>?_⟩
      cases hc:i0s l with
      | none=>
        rw[part_none hc]
        have t1:=a0e (o:=.tup [.str (tx l),.str Str.empty,.str Str.empty]) np
        have h1:=a0c (H:=H) (a:=pp) (o:=.tup [.str (tx l),.str Str.empty,.str Str.empty])
        dsimp only
        revert t1 h1
        generalize upd H pp (.tup [.str (tx l),.str Str.empty,.str Str.empty])=H1
        intro t1 h1
        refine⟨_,rfl,_,_,_,_,rfl,rfl,SqT.of h1,rfl,_,rfl,.inl ⟨l,rfl,g,fun hw H2 s2=>?_,fun hw H2 s2=>?_⟩⟩
        · refine⟨_,rfl,_,_,_,_,rfl,rfl,SqT.of (s2 _ _ h1),rfl,rfl,_,rfl,?_⟩
          dsimp only
          refine iteS (fun _=>?_) (fun z=>absurd rfl z)
          refine⟨_,rfl,(by show 2≤sizeLine;decide),fun q nq=>?_⟩
          exact k0 (.tuple [.int (nm l),.int 1]) (by rw[rdF,hc];exact if_pos hw) _ _ ((t1.trans s2).trans (a0e nq)) ⟨_,rfl,a0c⟩
        · exact k1 (by rw[rdF,hc];exact if_neg (by rw[hw];decide)) _ (t1.trans s2)
      | some i=>
        rw[part_some hc]
        have t1:=a0e (o:=.tup [.str (tx (l.take i)),.str (Str.ofString "/"),.str (tx (l.drop (i+1)))]) np
        have h1:=a0c (H:=H) (a:=pp) (o:=.tup [.str (tx (l.take i)),.str (Str.ofString "/"),.str (tx (l.drop (i+1)))])
        dsimp only
        revert t1 h1
        generalize upd H pp (.tup [.str (tx (l.take i)),.str (Str.ofString "/"),.str (tx (l.drop (i+1)))])=H1
        intro t1 h1
        refine⟨_,rfl,_,_,_,_,rfl,rfl,SqT.of h1,rfl,_,rfl,.inl ⟨l.take i,rfl,g.take i,fun hw H2 s2=>?_,fun hw H2 s2=>?_⟩⟩
        · refine⟨_,rfl,_,_,_,_,rfl,rfl,SqT.of (s2 _ _ h1),rfl,rfl,_,rfl,?_⟩
          dsimp only
          refine iteS (fun z=>absurd z (by decide +kernel)) (fun _=>?_)
          refine⟨_,rfl,_,_,_,_,rfl,rfl,SqT.of (s2 _ _ h1),rfl,_,rfl,.inl ⟨l.drop (i+1),rfl,g.drop _,fun hw2 H3 s3=>?_,fun hw2 H3 s3=>?_⟩⟩
          · refine⟨_,rfl,_,_,rfl,rfl,_,rfl,?_⟩
            dsimp only
            refine iteP (fun hb=>?_) (fun hb=>?_)
            · exact⟨(by show 1≤sizeLine;decide),k1 (by rw[rdF,hc];exact if_neg (fun z=>by omega)) _ ((t1.trans s2).trans s3)⟩
            refine⟨_,rfl,_,rfl,_,_,rfl,rfl,_,rfl,?_⟩
            dsimp only
            refine iteNI (fun hd=>?_) (fun hd=>?_)
            · exact⟨(by show 1≤sizeLine;decide),k1 (by rw[rdF,hc];exact if_neg (fun z=>hd z.2.2.2)) _ ((t1.trans s2).trans s3)⟩
            refine⟨_,rfl,_,rfl,(by show 2≤sizeLine;decide),fun q nq=>?_⟩
            exact k0 (.tuple [.int (nm (l.take i)),.int (nm (l.drop (i+1)))]) (by rw[rdF,hc];exact if_pos ⟨hw,hw2,by omega,hd⟩) _ _ (((t1.trans s2).trans s3).trans (a0e nq)) ⟨_,rfl,a0c⟩
          · exact k1 (by rw[rdF,hc];exact if_neg (fun z=>by rw[z.2.1]at hw2;cases hw2)) _ ((t1.trans s2).trans s3)
        · exact k1 (by rw[rdF,hc];exact if_neg (fun z=>by rw[z.1]at hw;cases hw)) _ (t1.trans s2)
    · refine⟨_,rfl,_,rfl,.inr ⟨hn,k1 _ (Same.refl _)⟩⟩
theorem e0i(T:Txt K mg t)(p:Int)(hp:2≤p):FnOk Pr w K mg base CX0 2 t.k0w t.k0o ["self","thing"] (fun vs H Q _=>∃k i,vs=[k,.int i]∧KAt t.s0z (pfs p) H k∧Q (.bl (decide (0≤i) && decide (i < p))) H):=by
  refine T.k0r.ok d0y (fun vs H Q E h=>?_) (fun cdv A outer s H vs Q E hr h=>?_)
  · obtain⟨k,x,rfl,_⟩:=h
    rfl
  · obtain⟨k0,i,rfl,⟨q,dx,rfl,hq⟩,k⟩:=h
    refine⟨_,(a0g (a0o (pe_and (a0p (h0n T) hr.m rfl T.p0o T.q0a.kp T.p0q .nil b0b (a0a (pv 1) a0b)) (i0t (pe_chain op_le op_lt a0f (pv 1) (pe_fld (pv 0) rfl)))))),?_⟩
    refine⟨_,rfl,_,rfl,_,rfl,?_⟩
    (try refine iteT ?_)
    refine⟨_,rfl,_,_,rfl,rfl,_,rfl,?_⟩
    refine iteP (fun h0=>?_) (fun h0=>?_)
    · refine⟨_,rfl,q,_,dx,_,_,rfl,hq,T.q0m,T.nP,pfs_prime p,_,_,rfl,rfl,?_⟩
      rw[decide_eq_true h0,Bool.true_and]at k
      exact k
    · rw[decide_eq_false h0,Bool.false_and]at k
      exact k
theorem g0p(T:Txt K mg t)(p:Int)(hp:2≤p):FnOk Pr w K mg base (CX1 Pr w) 4 t.m0c t.l0l ["self","text"] (spRead K t t.s0z (pfs p) (rdR p)):=by
  refine T.l0k.okx sc_Residues_read (fun vs H Q E h=>?_) (fun cdv A outer s H vs Q E hr h=>?_)
  · obtain⟨kv,v,rfl,_⟩:=h
    rfl
  · obtain⟨kv,v,rfl,⟨q,dx,rfl,hq⟩,h⟩:=h
    refine⟨_,(a0d (a0q (i:=2) sc_Residues_read.nd rfl (Or.inl rfl) (PEX.thru b0k (c0b (c0m T) hr.m rfl T.n0t T.n0k.kp T.n0y .nil (a0a (pv 1) a0b)))) (a0d (a0y (d0w (e0d (pe_meth (pv 0) T.q0m T.k0q (e0i T p hp) hr.m T.k0p .nil b0b (a0a (pv 2) a0b)))) (a0g (c0r b0k rfl T.s0v.ex rfl T.t0d (a0a a0m a0b))) a0n) (a0g (a0o (pv 2))))),?_⟩
    rcases h with ⟨l,rfl,g,k0,k1⟩ | ⟨hn,k1⟩
    case inr=>exact⟨_,rfl,_,rfl,.inr ⟨hn,k1 _ (Same.refl _)⟩⟩
    refine⟨_,rfl,_,rfl,.inl ⟨l,rfl,g,fun hw H1 s1=>?_,fun hw H1 s1=>?_⟩⟩
    · refine⟨_,rfl,_,_,_,rfl,s1 _ _ hq,rfl,_,rfl,_,_,rfl,⟨_,_,rfl,s1 _ _ hq⟩,?_⟩
      refine⟨_,rfl,?_⟩
      by_cases h:0≤nm l∧nm l < p
      · rw[decide_eq_true h.1,decide_eq_true h.2]
        (try refine iteF ?_)
        exact⟨_,rfl,k0 _ (if_pos ⟨hw,h⟩) _ _ s1 rfl⟩
      · have e:(decide (0≤nm l) && decide (nm l < p))=false:=by
          rw[Bool.and_eq_false_iff,decide_eq_false_iff_not,decide_eq_false_iff_not];omega
        rw[e]
        (try refine iteT ?_)
        exact⟨(by show 1≤sizeLine;decide),k1 (if_neg fun z=>h z.2) _ s1⟩
    · exact k1 (if_neg fun z=>by rw[z.1]at hw;cases hw) _ s1
theorem i0j(T:Txt K mg t):FnOk Pr w K mg base (CX1 Pr w) 3 t.p0x t.n0n ["self","text"] (spRead K t t.t0s [] rdC):=by
  refine T.n0c.okx j0f (fun vs H Q E h=>?_) (fun cdv A outer s H vs Q E hr h=>?_)
  · obtain⟨kv,v,rfl,_⟩:=h
    rfl
  · obtain⟨kv,v,rfl,hk,h⟩:=h
    refine⟨_,(a0d (d0p (PEX.thru b0k (c0b (c0t T) hr.m rfl T.p0k T.o0v.kp T.o0p .nil (a0a (pv 1) a0b)))) (a0d (a0y (a0j b0j (pv 1) a0m (a0l _)) (a0g (a0o e0e)) a0n) (a0g (a0o (PEX.thru b0k (c0b (c0m T) hr.m rfl T.n0t T.n0k.kp T.n0y .nil (a0a (pv 1) a0b))))))),?_⟩
    rcases h with ⟨l,rfl,g,k0,k1⟩ | ⟨hn,k1⟩
    · refine⟨_,rfl,_,rfl,.inl ⟨l,rfl,?_⟩⟩
      refine⟨_,rfl,rfl,_,rfl,?_⟩
      dsimp only
      refine iteS (fun h=>?_) (fun h=>?_)
      · exact k0 _ (if_pos h) _ _ (Same.refl _) rfl
      · refine⟨_,rfl,_,rfl,.inl ⟨l,rfl,g,fun hw H2 s2=>?_,fun hw H2 s2=>?_⟩⟩
        · exact k0 (.int (nm l)) (by rw[rdC,if_neg h,if_pos hw]) _ _ s2 rfl
        · exact k1 (by rw[rdC,if_neg h];exact if_neg (by rw[hw];decide)) _ s2
    · refine⟨_,rfl,_,rfl,.inr ⟨hn,k1 _ (Same.refl _)⟩⟩
theorem h0l(T:Txt K mg t):FnOk Pr w K mg base (CX1 Pr w) 2 t.o0l t.m0g ["self","text"] (spRead K t t.t0q [] rdT):=by
  refine T.m0w.okx i0h (fun vs H Q E h=>?_) (fun cdv A outer s H vs Q E hr h=>?_)
  · obtain⟨kv,v,rfl,_⟩:=h
    rfl
  · obtain⟨kv,v,rfl,hk,h⟩:=h
    refine⟨_,(a0d (d0p (PEX.thru b0k (c0b (c0t T) hr.m rfl T.p0k T.o0v.kp T.o0p .nil (a0a (pv 1) a0b)))) (a0d (a0y (a0j b0j (pv 1) a0m (a0l _)) (a0g (a0o g0o)) a0n) (a0d (a0y (a0j b0j (pv 1) a0m (a0l _)) (a0g (a0o g0o)) a0n) (a0g (c0r b0k rfl T.s0v.ex rfl T.t0d (a0a a0m a0b)))))),?_⟩
    rcases h with ⟨l,rfl,g,k0,k1⟩ | ⟨hn,k1⟩
    · refine⟨_,rfl,_,rfl,.inl ⟨l,rfl,?_⟩⟩
      refine⟨_,rfl,rfl,_,rfl,?_⟩
      dsimp only
      refine iteS (fun h=>?_) (fun h=>?_)
      · exact k0 _ (if_pos h) _ _ (Same.refl _) rfl
      · refine⟨_,rfl,rfl,_,rfl,?_⟩
        dsimp only
        refine iteS (fun h2=>?_) (fun h2=>?_)
        · exact k0 (.bool false) (by rw[rdT,if_neg h,if_pos h2]) _ _ (Same.refl _) rfl
        · exact⟨(by show 1≤sizeLine;decide),k1 (by rw[rdT,if_neg h,if_neg h2]) _ (Same.refl _)⟩
    · refine⟨_,rfl,_,rfl,.inr ⟨hn,k1 _ (Same.refl _)⟩⟩
theorem f0z{a:Int}(h:a.natAbs≤2 ^ 100):a.natAbs.log2 < 1920:=Nat.lt_of_lt_of_le (log_100 h) (by decide)
theorem ts_len{a:Int}(h:a.natAbs≤2 ^ 100):(ts a).length≤102:=by
  have:=(ts_gd h).1
  rw[Array.length_toList]at this
  exact this
theorem Str.len_app(a b:Str):(a++b).length=a.length+b.length:=by
  show(a.cps++b.cps).size=_
  simp[Str.length]
theorem h0f(xs:List V)(k:Nat):cutV xs none (some (k:Int))=xs.take k:=by
  unfold cutV
  rw[HT.j0h,HT.j0i,List.drop_zero,Nat.sub_zero]
  by_cases h:k≤xs.length
  · rw[Nat.min_eq_left h]
  · rw[Nat.min_eq_right (by omega),List.take_length,List.take_of_length_le (by omega)]
def Dr(H:Hp)(a:Addr):Prop:=∃x:Int,H a=some (.lst [.int x])∨∃d:Int,H a=some (.lst [.int d,.int x])
def SameX(a:Addr)(H H':Hp):Prop:=∀b o,b≠a→H b=some o→H' b=some o
theorem SameX.refl(a:Addr)(H:Hp):SameX a H H:=fun _ _ _ h=>h
theorem SameX.trans{a:Addr}{H H1 H2:Hp}(x:SameX a H H1)(y:SameX a H1 H2):SameX a H H2:=fun b o n h=>y b o n (x b o n h)
theorem SameX.upd{a:Addr}{H:Hp}{o:HO}:SameX a H (upd H a o):=fun b u n h=>by rw[a0w n];exact h
theorem SameX.of{a:Addr}{H H':Hp}(x:Same H H'):SameX a H H':=fun b o _ h=>x b o h
def sp_next:Sp:=fun vs H Q _=>∃(a:Addr) (m:Int),vs=[.ref a,.int m]∧(Dr H a∧0 < m∧m≤1000000000000000)∧∀(r:Int) H',SameX a H H'→Dr H' a→0≤r→r < m→Q (.int r) H'
def sp_state(K:PySem.W.Frag):Sp:=fun vs H Q _=>∃(a:Addr) (ns:List Int),vs=[.ref a]∧SqL K H a (ns.map V.int)∧ns.length≤63∧∀b H',H b=none→Same H H'→Dr H' b→Q (.ref b) H'
theorem small_div{m:Int}(h:0 < m)(h':m≤1000000000000000)(x:Int):CDivB x m:=by
  refine⟨by omega,?_⟩
  have:m.natAbs≤2 ^ 50:=by
    have e:(2:Nat) ^ 50=1125899906842624:=by decide
    omega
  by_cases e:m.natAbs=0
  · rw[e];decide
  · rw[Nat.log2_lt e]
    exact Nat.lt_of_le_of_lt this (Nat.pow_lt_pow_right (by decide) (by decide))
theorem a0r(T:Txt K mg t):FnOk Pr w K mg base CX0 1 t.s0l t.q0b ["_law_state_here","_law_many"] sp_next:=by
  refine T.q0h.ok sc_law_next (fun vs H Q E h=>?_) (fun cdv A outer s H vs Q E hr h=>?_)
  · obtain⟨a,m,rfl,_⟩:=h
    rfl
  · obtain⟨a,m,rfl,⟨⟨x,hD⟩,m0,m1⟩,k⟩:=h
    refine⟨_,(a0d (a0y (a0j b0j (a0k a0v (by rfl) T.z_len PySem.boot_len (a0a (pv 0) a0b)) a0f (a0l _)) (a0d (a0q (i:=2) sc_law_next.nd rfl (Or.inl rfl) (b0c c0q (b0d b0a (pv 0) a0f (fun _ _=>rfl)) (pv 1))) (a0d (ps_asg (b0c f0t (b0d b0a (pv 0) a0f (fun _ _=>rfl)) (pv 1)) (pg_sub (pv 0) a0f f0m)) (a0d (a0y (a0j b0j (b0d b0a (pv 0) a0f (fun _ _=>rfl)) a0f (a0l _)) (a0g (d0p (c0s PySem.F.plainAttrs_list PySem.F.slot_list_pop PySem.F.type_list_pop mt_popAt (pv 0) (a0a a0f a0b)))) a0n) (a0g (a0o (pv 2)))))) a0n) (a0d (ps_asg (b0c c0q (b0c c0w (b0c i0u (b0d b0a (pv 0) a0f (fun _ _=>rfl)) a0f) a0f) a0f) (pg_sub (pv 0) a0f f0m)) (a0g (a0o (b0c c0q (b0c f0t (b0d b0a (pv 0) a0f (fun _ _=>rfl)) a0f) (pv 1)))))),?_⟩
    rcases hD with hD | ⟨d,hD⟩
    · have lc:LenV K (.ref a) H 1:=.inl ⟨_,SqL.of hD,rfl⟩
      refine⟨_,rfl,_,_,rfl,lc,rfl,_,rfl,?_⟩
      refine iteI (fun h=>absurd h (by decide)) (fun _=>?_)
      refine⟨_,rfl,_,_,_,_,rfl,rfl,SqL.of hD,rfl,_,_,rfl,rfl,.inr ⟨by decide,by decide⟩,_,_,rfl,rfl,_,_,rfl,rfl,(show(2305843009213693951:Int)≠0 by decide),?_⟩
      refine⟨_,rfl,_,_,_,_,rfl,rfl,hD,rfl,?_⟩
      refine⟨_,rfl,_,_,_,_,rfl,rfl,SqL.of a0c,rfl,_,_,rfl,rfl,⟨by decide,by decide⟩,_,rfl,_,_,rfl,rfl,(show m≠0 by omega),?_⟩
      exact k _ _ SameX.upd ⟨_,.inl a0c⟩ (Int.fmod_nonneg_of_pos _ m0) (Int.fmod_lt_of_pos _ m0)
    · have lc:LenV K (.ref a) H 2:=.inl ⟨_,SqL.of hD,rfl⟩
      refine⟨_,rfl,_,_,rfl,lc,rfl,_,rfl,?_⟩
      refine iteI (fun _=>?_) (fun h=>absurd rfl h)
      refine⟨_,rfl,_,_,_,_,rfl,rfl,SqL.of hD,rfl,_,rfl,_,_,rfl,rfl,(show m≠0 by omega),?_⟩
      refine⟨_,rfl,_,_,_,_,rfl,rfl,SqL.of hD,rfl,_,rfl,_,_,rfl,rfl,small_div m0 m1 _,?_⟩
      refine⟨_,rfl,_,_,_,_,rfl,rfl,hD,rfl,?_⟩
      refine⟨_,rfl,_,_,_,_,rfl,rfl,SqL.of a0c,rfl,rfl,_,rfl,?_⟩
      refine iteI (fun _=>?_) (fun _=>?_)
      · refine⟨_,rfl,.inl ⟨rfl,_,SqL.of a0c⟩,_,_,_,_,_,rfl,rfl,a0c,(by decide),(by decide),rfl,rfl,?_⟩
        refine⟨_,rfl,?_⟩
        exact k _ _ (SameX.upd.trans SameX.upd) ⟨x,.inl a0c⟩ (Int.fmod_nonneg_of_pos _ m0) (Int.fmod_lt_of_pos _ m0)
      · refine⟨_,rfl,?_⟩
        exact k _ _ SameX.upd ⟨x,.inr ⟨_,a0c⟩⟩ (Int.fmod_nonneg_of_pos _ m0) (Int.fmod_lt_of_pos _ m0)
theorem ok_law_state(T:Txt K mg t):FnOk Pr w K mg base CX0 1 t.r0v t.p0c ["_law_script"] (sp_state K):=by
  refine T.p0a.ok sc_law_state (fun vs H Q E h=>?_) (fun cdv A outer s H vs Q E hr h=>?_)
  · obtain⟨a,ns,rfl,_⟩:=h
    rfl
  · obtain⟨a,ns,rfl,hS,hlen,k⟩:=h
    refine⟨_,(a0d (a0q (i:=1) sc_law_state.nd rfl (Or.inl rfl) a0f) (a0d (g0w PassesOwn.never rfl (f0f (b0n e0y (pv 0) c0c (b0s a0f))) (b0i (i:=2) sc_law_state.nd rfl (Or.inl rfl)) (a0g (a0q (i:=1) sc_law_state.nd rfl (Or.inl rfl) (b0c c0q (b0c c0w (b0c c0w (b0c i0u (pv 1) a0f) (b0c c0q (pv 2) (b0c e0v a0f a0f))) a0f) a0f)))) (a0d (a0y (PW.pt (g0v (a0j j0p (a0k a0v (by rfl) T.z_len PySem.boot_len (a0a (pv 0) a0b)) a0f (a0l _)) (g0v (a0j j0p (b0d b0a (pv 0) a0f (fun _ _=>rfl)) a0f (a0l _)) (f0e (a0j b0j (b0c c0q (b0d b0a (pv 0) a0f (fun _ _=>rfl)) a0f) a0f (a0l _)))))) (a0g (a0o (b0e (a0a (b0c f0t (b0d b0a (pv 0) a0f (fun _ _=>rfl)) a0f) (a0a (pv 1) a0b))))) a0n) (a0g (a0o (b0e (a0a (pv 1) a0b))))))),?_⟩
    refine⟨_,rfl,_,rfl,_,_,rfl,hS,fun c1 hc1=>?_⟩
    have ec:cutV (ns.map V.int) none (some 200)=(ns.take 200).map V.int:=by
      rw[show(200:Int)=((200:Nat):Int)from rfl,h0f,List.map_take]
    have s1:=a0e (o:=.lst (cutV (ns.map V.int) none (some 200))) hc1
    have k1:=a0c (H:=H) (a:=c1) (o:=.lst (cutV (ns.map V.int) none (some 200)))
    have hS1:=s1.seq hS
    clear hc1
    revert s1 k1 hS1
    generalize upd H c1 (.lst (cutV (ns.map V.int) none (some 200)))=H1
    intro s1 k1 hS1
    rw[ec]at k1
    refine⟨c1,rfl,⟨_,SqL.of k1⟩,h0e (K:=K) (a:=c1) (xs:=(ns.take 200).map V.int) (fun i σ H'=>∃(x:Int) (v:Option V),σ=[some (.ref a),some (.int x),v]∧H'=H1) ⟨_,_,rfl,rfl⟩ (fun i σ H' _ ⟨_,_,_,e⟩=>e▸SqL.of k1) ?_ ?_⟩
    · rintro i y σ H' hi ⟨x,v,rfl,rfl⟩
      obtain⟨z,rfl⟩:∃z,y=V.int z:=by
        rw[List.getElem?_map]at hi
        cases e:(ns.take 200)[i]? with
        | none=>rw[e]at hi;cases hi
        | some z=>rw[e]at hi;exact⟨z,(Option.some.inj hi).symm⟩
      refine⟨_,rfl,_,_,rfl,rfl,.inr ⟨by decide,by decide⟩,_,rfl,_,_,rfl,rfl,⟨by decide,by decide,by decide⟩,_,_,rfl,rfl,(show((10:Int) ^ (30:Int).toNat)≠0 by decide),_,_,rfl,rfl,_,_,rfl,rfl,_,_,rfl,rfl,(show(2305843009213693951:Int)≠0 by decide),?_⟩
      exact⟨_,_,rfl,rfl⟩
    · rintro σ H' ⟨x,v,rfl,rfl⟩
      have lc:LenV K (.ref a) H' (ns.map V.int).length:=.inl ⟨_,hS1,rfl⟩
      rw[List.length_map]at lc
      have last:tSeq tNext (tRet (tLst (tCons (tVar 1) tNil))) { nx:=fun _ H''=>Q .non H'',rt:=Q } [some (.ref a),some (.int x),v] H':=by
        refine⟨_,rfl,(by show 1≤sizeLine;decide),fun b hb=>?_⟩
        exact k b _ (s1.free hb) (s1.trans (a0e hb)) ⟨x,.inl a0c⟩
      refine⟨_,rfl,_,_,rfl,lc,_,_,rfl,rfl,_,rfl,?_⟩
      refine iteP (fun h0=>?_) (fun _=>?_)
      · obtain⟨n0,g0⟩:∃n,ns[0]? = some n:=⟨ns[0]'(by omega),by simp⟩
        have a0:atI (ns.map V.int) 0=some (V.int n0):=c0k (j:=0) (by rw[List.getElem?_map,g0];rfl)
        refine⟨_,rfl,_,_,_,_,rfl,rfl,hS1,a0,_,_,rfl,rfl,_,rfl,?_⟩
        refine iteP (fun _=>?_) (fun _=>?_)
        · refine⟨_,rfl,_,_,_,_,rfl,rfl,hS1,a0,_,_,rfl,rfl,(show(2:Int)≠0 by decide),rfl,_,rfl,?_⟩
          refine iteI (fun _=>?_) (fun _=>?_)
          · refine⟨_,rfl,_,_,_,_,rfl,rfl,hS1,a0,_,_,rfl,rfl,⟨by decide,by decide⟩,_,rfl,(by show 2≤sizeLine;decide),fun b hb=>?_⟩
            exact k b _ (s1.free hb) (s1.trans (a0e hb)) ⟨x,.inr ⟨_,a0c⟩⟩
          · exact last
        · exact last
      · exact last
theorem Dr.same{H H':Hp}{a:Addr}(e:Same H H')(h:Dr H a):Dr H' a:=by
  obtain⟨x,h | ⟨d,h⟩⟩:=h
  · exact⟨x,.inl (e _ _ h)⟩
  · exact⟨x,.inr ⟨d,e _ _ h⟩⟩
theorem Dr.lst{H:Hp}{a:Addr}(h:Dr H a):∃xs,H a=some (.lst xs):=by
  obtain⟨x,h | ⟨d,h⟩⟩:=h
  · exact⟨_,h⟩
  · exact⟨_,h⟩
theorem SameX.tt{a:Addr}{H H':Hp}(s:SameX a H H')(d:Dr H a):SameT H H':=fun p vs h=>s p _ (by
  rintro rfl
  obtain⟨xs,e⟩:=d.lst
  rw[h]at e;cases e) h
theorem SameX.tup{a p:Addr}{H:Hp}{o:HO}(n:H p=none)(d:Dr H a):SameX a H (L2.upd H p o)∧Dr (L2.upd H p o) a:=⟨.of (a0e n),d.same (a0e n)⟩
structure LOk(l:List Nat):Prop where
  h1:1≤l.length
  h3:l.length≤3
  nd:l.Nodup
  as:∀c∈l,c < 128
structure Pool(p l:List Nat)(i:Nat):Prop where
  nd:(p++l).Nodup
  pl:p.length=26 - i
  ll:l.length=i
  az:∀c∈p++l,97≤c∧c≤122
def azs:List Nat:=[97,98,99,100,101,102,103,104,105,106,107,108,109,110,111,112,113,114,115,116,117,118,119,120,121,122]
theorem az_is:(Str.ofString "abcdefghijklmnopqrstuvwxyz")=tx azs:=by decide +kernel
theorem em_is:(Str.ofString "")=tx []:=by decide +kernel
theorem Pool.start:Pool azs [] 0:=⟨by decide,by decide,rfl,by decide⟩
theorem Pool.turn{p l:List Nat}{i j:Nat}{c:Nat}(h:Pool p l i)(hi:i≤20)(hc:p[j]? = some c):Pool (p.take j++p.drop (j+1)) (l++[c]) (i+1):=by
  have hj:j < p.length:=(List.getElem?_eq_some_iff.mp hc).1
  have e:p=p.take j++c::p.drop (j+1):=by
    have:p[j]=c:=(List.getElem?_eq_some_iff.mp hc).2
    rw[← this,List.getElem_cons_drop_succ_eq_drop hj,List.take_append_drop]
  have pm:((p.take j++p.drop (j+1))++(l++[c])).Perm (p++l):=by
    conv=>rhs;rw[e]
    have h1:((p.take j++p.drop (j+1))++(l++[c])).Perm ((l++[c])++(p.take j++p.drop (j+1))):=List.perm_append_comm
    have h2:(p.take j++c::p.drop (j+1)).Perm (c::(p.take j++p.drop (j+1))):=List.perm_middle
    have h3:(p.take j++c::p.drop (j+1)++l).Perm (c::(p.take j++p.drop (j+1))++l):=h2.append_right l
    have h4:(c::(p.take j++p.drop (j+1))++l).Perm (l++c::(p.take j++p.drop (j+1))):=List.perm_append_comm
    have h5:(l++[c])++(p.take j++p.drop (j+1))=l++c::(p.take j++p.drop (j+1)):=by simp
    rw[h5]at h1
    exact h1.trans (h4.symm.trans h3.symm)
  refine⟨pm.nodup_iff.mpr h.nd,?_,?_,fun x hx=>h.az x (pm.mem_iff.mp hx)⟩
  · rw[List.length_append,List.length_take,List.length_drop]
    have:=h.pl
    omega
  · rw[List.length_append,h.ll];rfl
def sp_letters:Sp:=fun vs H Q _=>∃(a:Addr),vs=[.ref a]∧Dr H a∧∀(p l:List Nat) (i:Nat) H',SameX a H H'→Dr H' a→Pool p l i→1≤i→i≤3→Q (vT l) H'
theorem strike{p:List Nat}{j c:Nat}(hd:p.Nodup)(hc:p[j]? = some c):p.filter (· != c)=p.take j++p.drop (j+1):=by
  induction p generalizing j with
  | nil=>cases hc
  | cons a p ih=>
    rw[List.nodup_cons]at hd
    cases j with
    | zero=>
      have e:a=c:=by simpa using hc
      subst e
      rw[List.filter_cons_of_neg (p:=fun x=>x != a) (by simp),PyProof.Rows.filter_free a p hd.1]
      rfl
    | succ j=>
      have hc':p[j]? = some c:=by simpa using hc
      have ne:(a != c)=true:=by
        simp only[bne_iff_ne]
        intro e
        subst e
        exact hd.1 (List.mem_of_getElem? hc')
      rw[List.filter_cons_of_pos (p:=fun x=>x != c) ne,ih hd.2 hc']
      rfl
theorem Pool.nodup{p l:List Nat}{i:Nat}(G:Pool p l i):p.Nodup:=(List.nodup_append.mp G.nd).1
theorem i0l(T:Txt K mg t):FnOk Pr w K mg base CX0 2 t.o0r t.m0l ["_law_state_here"] sp_letters:=by
  refine T.m0v.ok sc_law_letters (fun vs H Q E h=>?_) (fun cdv A outer s H vs Q E hr h=>?_)
  · obtain⟨a,rfl,_⟩:=h
    rfl
  · obtain⟨a,rfl,hD,k⟩:=h
    have szl:(1000:Nat) < sizeLine:=by decide
    refine⟨_,(pss_fl (i:=1) sc_law_letters.nd rfl rfl a0m (pssn_cons (PS.fl (a0q (i:=2) sc_law_letters.nd rfl (Or.inl rfl) a0m)) (pssn_cons (ps_forn PassesOwn.never rfl (d0g rfl T.z_range (a0a (b0c c0w a0f (a0p (a0r T) hr.m rfl T.p0r T.q0h.kp T.p0n .nil b0b (a0a (pv 0) (a0a a0f a0b)))) a0b)) (b0i (i:=3) sc_law_letters.nd rfl (Or.inl rfl)) (pssn_letter (il:=4) (ia:=1) (iw:=2) sc_law_letters.nd rfl rfl rfl rfl rfl rfl (by decide) (by decide) (by decide) (a0p (a0r T) hr.m rfl T.p0r T.q0h.kp T.p0n .nil b0b (a0a (pv 0) (a0a (a0k a0v (by rfl) T.z_len PySem.boot_len (a0a (pv 1) a0b)) a0b))) (fun _ _=>rfl))) (PSs.fl (a0g (a0o (pv 2))))))),?_⟩
    refine⟨_,rfl,_,_,rfl,⟨hD,by decide,by decide⟩,fun r H1 s1 D1 r0 r3=>?_⟩
    refine⟨_,_,rfl,rfl,_,rfl,(by omega),(by omega),for_range (lo:=0) (n:=(1+r).toNat)
      (fun i σ H'=>∃p l v3 v4,σ=[some (.ref a),some (vT p),some (vT l),v3,v4]∧SameX a H H'∧Dr H' a∧Pool p l i)
      ⟨azs,[],_,_,(by rw[vT,vT,← az_is,← em_is];rfl),s1,D1,Pool.start⟩ ?_ ?_⟩
    · rintro i σ H' hi ⟨p,l,v3,v4,rfl,q,D,G⟩
      have hp:=G.pl
      have hll:=G.ll
      have lp:LenV K (vT p) H' (tx p).length:=⟨by rw[a0s];omega,rfl⟩
      rw[a0s]at lp
      refine⟨tx p,tx l,rfl,rfl,by rw[a0s];omega,by rw[a0s];omega,?_⟩
      refine⟨_,rfl,_,rfl,_,_,rfl,lp,_,_,rfl,⟨D,by omega,by omega⟩,fun z H2 s2 D2 z0 z1=>?_⟩
      obtain⟨c,hc⟩:∃c,p[z.toNat]? = some c:=⟨p[z.toNat]'(by omega),by simp⟩
      have ac:atI (tx p).cps.toList z=some c:=by
        have e:z=((z.toNat:Nat):Int):=by omega
        rw[e]
        exact c0k (by show p.toArray.toList[z.toNat]? = some c;simpa using hc)
      refine⟨z,c,rfl,ac,?_⟩
      have e1:tx l++(⟨#[c]⟩:Str)=tx (l++[c]):=g0t l [c]
      have e3:Txt.replace (tx p) ⟨#[c]⟩ (Str.ofString "")=tx (p.take z.toNat++p.drop (z.toNat+1)):=by
        have:=PyProof.Rows.replace_strikes (tx p) c
        rw[show(tx p).cps.toList=p by simp[tx],strike G.nodup hc]at this
        show(⟨_⟩:Str)=⟨_⟩
        rw[← this]
        rfl
      exact⟨_,_,_,_,(by rw[e1,e3];rfl),q.trans s2,D2,G.turn (by omega) hc⟩
    · rintro σ H' ⟨p,l,v3,v4,rfl,q,D,G⟩
      refine⟨_,rfl,?_⟩
      exact k p l _ H' q D G (by omega) (by omega)
theorem Pool.ok{p l:List Nat}{i:Nat}(G:Pool p l i)(h1:1≤i)(h3:i≤3):LOk l:=by
  have e:=G.ll
  refine⟨by omega,by omega,(List.nodup_append.mp G.nd).2.1,fun c hc=>?_⟩
  have:=(G.az c (List.mem_append_right _ hc)).2
  omega
structure RX(w:World)(K:PySem.W.Frag)(mg:Str→Option Value)(base:Heap)(t:Adr)where
  way:Int
  p:Int
  C:Addr
  fs:List (Str × V)
  rd:List Nat→Option PyData
  cl:Cls K C
  f_read:Addr
  d_read:FuncData
  t_read:Meth K C "read" f_read
  b_read:Binds K d_read ["self","text"] []
  l_read:fs.lookup ("read":Str)=none
  G_read:FnOk Pr w K mg base (CX1 Pr w) 4 f_read d_read ["self","text"] (spRead K t C fs rd)
noncomputable def X_fr(T:Txt K mg t):RX w K mg base t:={ way:=0,p:=0,C:=t.r0x,fs:=[],rd:=rdF,cl:=T.o0n,f_read:=t.l0x,d_read:=t.l0i,t_read:=T.l0h,b_read:=T.l0e,l_read:=rfl,G_read:=(f0u T).mono (by decide) }
noncomputable def X_re(T:Txt K mg t)(p:Int)(hp:2≤p):RX w K mg base t:={ way:=1,p:=p,C:=t.s0z,fs:=pfs p,rd:=rdR p,cl:=T.q0m,f_read:=t.m0c,d_read:=t.l0l,t_read:=T.l0o,b_read:=T.l0n,l_read:=rfl,G_read:=g0p T p hp }
noncomputable def X_co(T:Txt K mg t):RX w K mg base t:={ way:=2,p:=0,C:=t.t0s,fs:=[],rd:=rdC,cl:=T.t0g,f_read:=t.p0x,d_read:=t.n0n,t_read:=T.n0r,b_read:=T.n0p,l_read:=rfl,G_read:=(i0j T).mono (by decide) }
noncomputable def X_tr(T:Txt K mg t):RX w K mg base t:={ way:=3,p:=0,C:=t.t0q,fs:=[],rd:=rdT,cl:=T.t0a,f_read:=t.o0l,d_read:=t.m0g,t_read:=T.m0m,b_read:=T.m0d,l_read:=rfl,G_read:=(h0l T).mono (by decide) }
inductive So(T:Txt K mg t):RX w K mg base t→Str→Int→Prop
  | fr:So T (X_fr T) "fractions" 0
  | re (p:Int) (hp:2≤p) (hq:p≤1000000) (hi:isP p=true):So T (X_re T p hp) "residues" p
  | co:So T (X_co T) "costs" 0
  | tr:So T (X_tr T) "truths" 0
def SortAt(H:Hp)(v:V)(nm:Str)(p:Int):Prop:=∃q,v=.ref q∧H q=some (.tup [.str nm,.int p])
theorem SortAt.same{H H':Hp}{v:V}{nm:Str}{p:Int}(s:SameT H H')(h:SortAt H v nm p):SortAt H' v nm p:=by
  obtain⟨q,rfl,e⟩:=h
  exact⟨q,rfl,s _ _ e⟩
theorem WV.wd{H:Hp}{v:V}{d:PyData}(h:WV H v d):WDt d:=by
  unfold WV at h
  split at h
  · exact .inl rfl
  · exact .inr (.inl ⟨_,rfl⟩)
  · exact .inr (.inr (.inl ⟨_,rfl⟩))
  · exact .inr (.inr (.inr ⟨_,_,rfl⟩))
  · exact h.elim
theorem WV.st{H H':Hp}{v:V}{d:PyData}(s:SameT H H')(h:WV H v d):WV H' v d:=by
  rcases h.wd with rfl | ⟨b,rfl⟩ | ⟨i,rfl⟩ | ⟨a,b,rfl⟩
  · exact h
  · exact h
  · exact h
  · obtain⟨p,e,hp⟩:=h
    exact⟨p,e,s _ _ hp⟩
def LT{α:Type}(Pd:α→V→Hp→Prop)(m:List α)(v:V)(H:Hp):Prop:=∃p vs,v=.ref p∧H p=some (.tup vs)∧Ents (fun i u H=>∃r,m[i]? = some r∧Pd r u H) vs m.length H
theorem LT.same{α:Type}{Pd:α→V→Hp→Prop}{m:List α}{v:V}{H H':Hp}(hp:∀r u,Pd r u H→Pd r u H')(s:SameT H H')(h:LT Pd m v H):LT Pd m v H':=by
  obtain⟨p,vs,rfl,h,e⟩:=h
  exact⟨p,vs,rfl,s _ _ h,e.mono fun j u _ ⟨r,e1,e2⟩=>⟨r,e1,hp r u e2⟩⟩
theorem c0e{α:Type}{Pd:α→V→Hp→Prop}{m:List α}{ys:List V}{H H':Hp}{r:α}{u:V}(e:Ents (fun i u H=>∃r,m[i]? = some r∧Pd r u H) ys m.length H)(hp:∀r u,Pd r u H→Pd r u H')(h:Pd r u H') :
    Ents (fun i u H=>∃q,(m++[r])[i]? = some q∧Pd q u H) (ys++[u]) (m++[r]).length H':=by
  rw[List.length_append,List.length_singleton]
  refine(e.mono fun j v hj ⟨q,e1,e2⟩=>⟨q,by rw[List.getElem?_append_left hj];exact e1,hp q v e2⟩).snoc ⟨r,by simp,h⟩
def RowV(ds:List PyData)(v:V)(H:Hp):Prop:=LT (fun d u H=>WV H u d) ds v H
def TabV(m:List (List PyData))(v:V)(H:Hp):Prop:=LT RowV m v H
theorem RowV.same{ds:List PyData}{v:V}{H H':Hp}(s:SameT H H')(h:RowV ds v H):RowV ds v H':=LT.same (fun _ _ q=>q.st s) s h
theorem TabV.same{m:List (List PyData)}{v:V}{H H':Hp}(s:SameT H H')(h:TabV m v H):TabV m v H':=LT.same (fun _ _=>RowV.same s) s h
theorem LT.len{α:Type}{Pd:α→V→Hp→Prop}{m:List α}{v:V}{H:Hp}(h:LT Pd m v H):LenV K v H m.length:=by
  obtain⟨p,vs,rfl,h,e⟩:=h
  exact .inr ⟨_,SqT.of h,e.1.symm⟩
theorem fold_le{sep:Str}{k:Nat}:∀{ls:List Str} {a:Nat},(∀p∈ls,p.length≤k)→ls.foldl (fun x y=>x+y.length+sep.length) a≤a+ls.length * (k+sep.length)
  | [],a,_=>by simp
  | p::ls,a,h=>by
    have h1:=h p (by simp)
    have h2:=fold_le (sep:=sep) (k:=k) (ls:=ls) (a:=a+p.length+sep.length) (fun x hx=>h x (List.mem_cons_of_mem _ hx))
    rw[List.foldl_cons,List.length_cons,Nat.succ_mul]
    omega
theorem r_join{sep:List Nat}{sz:Str}(hz:sz=tx sep){a:Addr}{ls:List (List Nat)}{k:Nat}{H:Hp}{Q:VK}(hk:∀p∈ls,p.length≤k)(hl:ls.length * (k+sep.length)≤16777216)(hq:SqL K H a (ls.map vT))(q:Q (vT (jn sep ls)) H) :
    rJoin K (.str sz) [.ref a] H Q:=by
  subst hz
  refine⟨tx sep,a,ls.map tx,rfl,rfl,by rw[List.map_map];exact hq,?_,by rw[join_is];exact q⟩
  unfold PySem.JoinOk Builtin.Str.tooLong
  have:=fold_le (sep:=tx sep) (k:=k) (ls:=ls.map tx) (a:=0) (fun p hp=>by
    obtain⟨x,hx,rfl⟩:=List.mem_map.mp hp
    rw[a0s];exact hk x hx)
  have hl':ls.length * (k+(tx sep).length)≤16777216:=by rw[a0s];exact hl
  rw[List.length_map]at this
  have z:sizeLine=16777216:=by decide
  rw[List.foldl_toArray]
  simp only[Bool.not_eq_true',decide_eq_false_iff_not]
  omega
theorem s1:Sep [32] 0 32:=⟨rfl,fun i h=>by omega⟩
theorem s2:Sep [44,32] 0 44:=⟨rfl,fun i h=>by omega⟩
theorem s3:Sep [32,124,32] 1 124:=⟨rfl,fun i h=>by
  have:i=0:=by omega
  subst this
  decide⟩
theorem p1_is:(Str.ofString " ")=tx [32]:=by decide +kernel
theorem p2_is:(Str.ofString ", ")=tx [44,32]:=by decide +kernel
theorem p3_is:(Str.ofString " | ")=tx [32,124,32]:=by decide +kernel
def small(c:Nat):Bool:=decide (97≤c) && decide (c≤122)
def lets(l:List Nat):Bool:=decide (1≤l.length) && decide (l.length≤3) && decide l.Nodup && l.all small
theorem met_is(l:List Nat)(i x:Nat)(hi:i≤l.length):met ⟨l.toArray⟩ i ⟨#[x]⟩=(l.take i).contains x:=by
  unfold met
  rw[Bool.eq_iff_iff,List.any_eq_true,List.contains_iff_mem,List.mem_take_iff_getElem]
  constructor
  · rintro⟨j,hj,e⟩
    have hj:=List.mem_range.mp hj
    have e:=eq_of_beq e
    have e1:x=(l.toArray[j]?).getD 0:=by
      have:=congrArg (fun s:Str=>s.cps[0]?) e
      simpa [sg1] using this
    refine⟨j,by omega,?_⟩
    rw[e1]
    simp[show j < l.length by omega]
  · rintro⟨j,hj,e⟩
    refine⟨j,List.mem_range.mpr (by omega),?_⟩
    rw[beq_iff_eq,← e]
    unfold sg1
    simp[show j < l.length by omega]
theorem cnt_nd{l:List Nat}:cnt ⟨l.toArray⟩ l.length=l.length↔l.Nodup:=by
  rw[cnt_eq]
  have sg:∀j (h:j < l.length),sg1 ⟨l.toArray⟩ j=⟨#[l[j]]⟩:=fun j h=>by unfold sg1;simp[h]
  constructor
  · intro h
    rw[List.nodup_iff_pairwise_ne,List.pairwise_iff_getElem]
    intro i j hi hj ij e
    have:=h j hj
    rw[sg j hj,met_is l j _ (by omega)]at this
    rw[Bool.eq_false_iff]at this
    exact this (List.contains_iff_mem.mpr (List.mem_take_iff_getElem.mpr ⟨i,by omega,e⟩))
  · intro h j hj
    rw[sg j hj,met_is l j _ (by omega),Bool.eq_false_iff]
    intro m
    obtain⟨i,hi,e⟩:=List.mem_take_iff_getElem.mp (List.contains_iff_mem.mp m)
    rw[List.nodup_iff_pairwise_ne,List.pairwise_iff_getElem]at h
    exact h i j (by omega) hj (by omega) e
theorem small_is{c:Nat}(h:c < 128):(!(Builtin.Str.occurrences (Str.ofString "abcdefghijklmnopqrstuvwxyz") ⟨#[c]⟩ 0 (Str.ofString "abcdefghijklmnopqrstuvwxyz").length 1).isEmpty)=small c:=by
  have:∀k:Fin 128,(!(Builtin.Str.occurrences (Str.ofString "abcdefghijklmnopqrstuvwxyz") ⟨#[k.val]⟩ 0 (Str.ofString "abcdefghijklmnopqrstuvwxyz").length 1).isEmpty)=small k.val:=by decide +kernel
  exact this ⟨c,h⟩
theorem asc_of{l:List Nat}(h:∀c∈l,c < 128):(⟨l.toArray⟩:Str).cps.all (· < 128)=true:=by
  show l.toArray.all (· < 128)=true
  simp only[List.all_toArray,List.all_eq_true,decide_eq_true_eq]
  exact h
theorem cnt_ndT{l:List Nat}:cnt (tx l) l.length=l.length↔l.Nodup:=cnt_nd
theorem iteN{b:Bool}{A B:Prop}(h:b=false)(q:B):if b=true then A else B:=by subst h;exact iteF q
theorem iteY{b:Bool}{A B:Prop}(h:b=true)(q:A):if b=true then A else B:=by subst h;exact iteT q
def sp_isl:Sp:=fun vs H Q _=>∃l,vs=[vT l]∧Gd 16777216 l∧∀H',Same H H'→Q (.bl (lets l)) H'
theorem j0s(T:Txt K mg t):FnOk Pr w K mg base CX0 1 t.q0j t.n0s ["thing"] sp_isl:=by
  refine T.o0a.ok j0e (fun vs H Q E h=>?_) (fun cdv A outer s H vs Q E hr h=>?_)
  · obtain⟨l,rfl,_⟩:=h
    rfl
  · obtain⟨l,rfl,gL,k⟩:=h
    have asc:=gL.2
    have z:=gL.1
    have sl:16777216≤sizeLine:=by decide
    refine⟨_,(a0d (a0y (PW.pt (d0x (d0w (e0d (a0k g0d (by rfl) T.z_isinstance boot_isinstance (a0a (pv 0) (a0a (g0n (v:=.ty "str") rfl T.z_str boot_str rfl) a0b))))) (d0v (d0w (pt_chain op_le op_le a0f (a0k a0v (by rfl) T.z_len PySem.boot_len (a0a (pv 0) a0b)) (b0t (v:=.int 3) rfl T.c_MOST_LETTERS.choose_spec ⟨_,rfl⟩)))))) (a0g (a0o g0o)) a0n) (a0g (a0o (pe_and (c0p b0j (pe_lenset rfl rfl T.z_len rfl T.z_set (a0a (pv 0) a0b)) (a0k a0v (by rfl) T.z_len PySem.boot_len (a0a (pv 0) a0b)) (a0l _)) (i0t (a0k (h0g rfl) (by rfl) T.z_all boot_all (a0a (d0q (xs:=["sign"]) rfl (show c0f ["thing"] (a0i d0d) _ from⟨rfl,by decide +kernel,by decide +kernel,by decide +kernel,by decide +kernel,by decide +kernel⟩) (pi_str (pv 0)) (fun _ _ _ _ _=>(b0i (i:=1) (by show List.Nodup (["thing","sign"]:List Str);decide +kernel) rfl (Or.inl rfl))) (fun _ _ _ _ _=>(c0p f0s (pv 1) (b0t (v:=.str "abcdefghijklmnopqrstuvwxyz") rfl T.c_SMALL_LETTERS.choose_spec ⟨_,rfl⟩) (by with_unfolding_all rfl)))) a0b))))))),?_⟩
    refine⟨_,rfl,_,_,_,_,rfl,TyOf.str _,T.k_ss,_,rfl,?_⟩
    focus
      have ll:∀H,LenV K (vT l) H l.length:=fun H=>⟨by show l.toArray.size≤_;simp;omega,by show _=l.toArray.size;simp⟩
      (try refine iteF ?_)
      refine⟨_,rfl,_,_,rfl,ll _,_,_,rfl,rfl,_,rfl,?_⟩
      have kf:∀H',Same H H'→lets l=false→Q (.bl false) H':=fun H' s' e=>by
        have:=k H' s'
        rw[e]at this
        exact this
      refine iteP (fun c1=>?_) (fun c1=>?_)
      rotate_left
      · have e:lets l=false:=by unfold lets;rw[decide_eq_false (show ¬1≤l.length by omega)];rfl
        exact⟨_,rfl,iteT (kf _ (Same.refl _) e)⟩
      refine⟨_,_,rfl,rfl,_,rfl,?_⟩
      by_cases c3:l.length≤3
      rotate_left
      · have e:lets l=false:=by unfold lets;rw[decide_eq_false c3];simp
        rw[show decide ((l.length:Int)≤3)=false from decide_eq_false (by omega)]
        first | exact iteT (kf _ (Same.refl _) e) | exact kf _ (Same.refl _) e
      rw[show decide ((l.length:Int)≤3)=true from decide_eq_true (by omega)]
      (try refine iteF ?_)
      (try refine iteF ?_)
      refine⟨_,rfl,_,rfl,(by show l.toArray.size≤_;simp;omega),_,rfl,_,_,rfl,ll _,rfl,_,rfl,?_⟩
      have el:(tx l).length=l.length:=by show l.toArray.size=_;simp
      rw[el]
      by_cases nd:l.Nodup
      rotate_left
      · rw[show decide (V.int ((cnt (tx l) l.length:Nat):Int)=V.int ((l.length:Nat):Int))=false from decide_eq_false (fun e=>nd (cnt_ndT.mp (by injection e with e;exact Int.ofNat.inj e)))]
        refine iteF ?_
        exact kf _ (Same.refl _) (by unfold lets;rw[decide_eq_false nd];simp)
      rw[show decide (V.int ((cnt (tx l) l.length:Nat):Int)=V.int ((l.length:Nat):Int))=true from decI (by rw[cnt_ndT.mpr nd])]
      refine iteT ?_
      refine⟨_,rfl,_,rfl,asc_of asc,d0t (n:=l.length) (fun j ys H2=>ys=((l.take j).map small).map V.bl∧H2=H∧j≤l.length) (by omega) ⟨rfl,rfl,Nat.zero_le _⟩ (fun j ys H2 q=>by rw[q.1,List.length_map,List.length_map,List.length_take];exact Nat.min_eq_left q.2.2) ?_ ?_ ?_⟩
      · rintro j ys H2 hj ⟨rfl,rfl,_⟩
        refine⟨(by show j < l.toArray.size;simpa using hj),fun y H' hy=>?_⟩
        obtain⟨rfl,c,hc,rfl⟩:=hy
        have hc:l.toArray[j]? = some c:=hc
        have hc:l[j]? = some c:=by simpa using hc
        refine⟨⟨[some _],rfl,rfl⟩,_,rfl,_,_,rfl,rfl,?_,rfl,hj⟩
        show _++[V.bl (!(Builtin.Str.occurrences (Str.ofString "abcdefghijklmnopqrstuvwxyz") ⟨#[c]⟩ 0 (Str.ofString "abcdefghijklmnopqrstuvwxyz").length 1).isEmpty)]=_
        rw[small_is (asc c (List.mem_of_getElem? hc)),List.take_add_one,hc,List.map_append,List.map_append];rfl
      · rintro ys H2 ⟨rfl,rfl,_⟩
        show l.toArray.size≤_
        simp
      · rintro ys H2 p ⟨rfl,rfl,_⟩ np
        refine⟨p,(l.take l.length).map small,rfl,SqL.of a0c,?_⟩
        have e:((l.take l.length).map small).all id=lets l:=by
          rw[List.take_length,List.all_map]
          unfold lets
          rw[decide_eq_true (show 1≤l.length by omega),decide_eq_true c3,decide_eq_true nd]
          simp[Function.comp_def]
        show Q (.bl (((l.take l.length).map small).all id)) _
        rw[e]
        exact k _ (a0e np)
def mp{α β:Type}(f:α→Option β):List α→Option (List β)
  | []=>some []
  | x::r=>(f x).bind fun y=>(mp f r).map fun m=>y::m
theorem j0t{α β:Type}{f:α→Option β}:∀(l:List α) (x:α),mp f (l++[x])=(mp f l).bind fun m=>(f x).map fun y=>m++[y]
  | [],x=>by simp only[List.nil_append,mp];cases f x <;>rfl
  | a::l,x=>by
    simp only[List.cons_append,mp,j0t l x]
    cases f a with
    | none=>rfl
    | some y=>
      simp only[Option.bind_some]
      cases mp f l with
      | none=>rfl
      | some m=>simp only[Option.bind_some,Option.map_some];cases f x <;>rfl
theorem j0u{α β:Type}{f:α→Option β}:∀{l:List α} {j:Nat} {x:α},l[j]? = some x→f x=none→mp f l=none
  | [],j,x,h,_=>by simp at h
  | a::l,0,x,h,e=>by cases h;simp only[mp,e];rfl
  | a::l,j+1,x,h,e=>by
    have:=j0u (f:=f) (l:=l) (j:=j) (by simpa using h) e
    simp only[mp,this]
    cases f a <;>rfl
theorem mp_len{α β:Type}{f:α→Option β}:∀{l:List α} {m:List β},mp f l=some m→m.length=l.length
  | [],m,h=>by cases h;rfl
  | a::l,m,h=>by
    simp only[mp]at h
    cases hf:f a with
    | none=>rw[hf]at h;cases h
    | some y=>
      rw[hf]at h
      simp only[Option.bind_some]at h
      cases hm:mp f l with
      | none=>rw[hm]at h;cases h
      | some m'=>rw[hm]at h;cases h;simp[mp_len hm]
def f0p(rd:List Nat→Option PyData)(x:List Nat):Option (List PyData):=if x=[45]then some []else mp rd (spG [32] x)
def a0x(rd:List Nat→Option PyData)(n:Nat)(x:List Nat):Option (List PyData):=(f0p rd x).bind fun r=>if r.length=n then some r else none
def c0v(rd:List Nat→Option PyData)(n:Nat)(x:List Nat):Option (List (List PyData)):=if n=0∧x=[45]then some []else if(spG [44,32] x).length=n then mp (a0x rd n) (spG [44,32] x)else none
theorem k0j{J:It}{n k:Nat}{g:TG}{te:TE}{σ:L2.St}{Q:VK}{H1:Hp}(Pv:Nat→List V→Hp→Prop)(hn:n≤sizeLine)(h0:Pv 0 [] H1)(hl:∀i ys H,Pv i ys H→ys.length=i)
    (hgo:∀i ys H,i < n→Pv i ys H→J.go i H∧∀x H',J.yld i H x H'→g x (σ++List.replicate k none) H' fun σ2 H2=>(∃zs,σ2=σ++zs∧zs.length=k)∧te σ2 H2 fun v H3=>Pv (i+1) (ys++[v]) H3)
    (hstop:∀ys H,Pv n ys H→J.stop n H) (hend:∀ys H p,Pv n ys H→H p=none→Q (.ref p) (upd H p (.lst ys))) :
    CTail J k g te σ Q H1:=by
  refine⟨fun i m ys H=>m=n - i∧i≤n∧Pv i ys H,⟨n,rfl,Nat.zero_le _,h0⟩,?_⟩
  rintro i m ys H ⟨rfl,hi,p⟩
  have yl:=hl i ys H p
  by_cases hlt:i < n
  · obtain⟨a,b⟩:=hgo i ys H hlt p
    refine .inr ⟨a,by omega,fun x H' y=>?_⟩
    have c:=b x H' y
    have e:(fun σ2 H2=>(∃zs,σ2=σ++zs∧zs.length=k)∧te σ2 H2 fun v H3=>∃m',m' < n - i∧m'=n - (i+1)∧i+1≤n∧Pv (i+1) (ys++[v]) H3)=fun σ2 H2=>(∃zs,σ2=σ++zs∧zs.length=k)∧te σ2 H2 fun v H3=>Pv (i+1) (ys++[v]) H3:=by
      funext σ2 H2
      congr 2
      funext v H3
      exact propext ⟨fun⟨_,_,_,_,q⟩=>q,fun q=>⟨_,by omega,rfl,hlt,q⟩⟩
    rw[e]
    exact c
  · have e:i=n:=by omega
    subst e
    exact .inl ⟨hstop ys H p,by omega,fun q nq=>hend ys H q p nq⟩
theorem c0a{sep x:List Nat}{sz:Str}{m:Nat}(hz:sz=tx sep)(hs:1≤sep.length)(gs:Gd m sep)(gx:Gd 16777215 x){H:Hp}{Q:VK}(q:∀p,H p=none→Q (.ref p) (upd H p (.lst ((spG sep x).map vT)))):rSplit (vT x) [.str sz] H Q:=by
  subst hz
  obtain⟨_,h2,_,_⟩:=d0a hs gs gx
  have gl:=gx.1
  have z:16777216≤sizeLine:=by decide
  have e:=spG_tx sep x
  have e2:=split_pb hs gs gx
  have el:(Txt.split (tx x) (tx sep)).length=(spG sep x).length:=by rw[← e,List.length_map]
  refine⟨tx x,tx sep,rfl,rfl,?_,by rw[a0s];omega,by rw[← e2,el];omega,by rw[el];omega,fun p np=>?_⟩
  · rw[a0s];exact beq_eq_false_iff_ne.mpr (by omega)
  · rw[← e,List.map_map]
    exact q p np
theorem tc1{x v:V}{H:Hp}{σ:L2.St}{Q:VK}(h:rSplit x [v] H Q):tCons (tC v) tNil σ H (fun xs H2=>rSplit x xs H2 Q):=h
theorem take1{α:Type}{ls:List α}{j:Nat}{x:α}(h:ls[j]? = some x):ls.take (j+1)=ls.take j++[x]:=by
  rw[List.take_succ,h];rfl
def spx_rrow(w:World)(K:PySem.W.Frag)(mg:Str→Option Value)(base:Heap)(t:Adr):Sp:=fun vs H Q E=>∃(R:RX w K mg base t),∃kv x,vs=[kv,vT x]∧(KAt R.C R.fs H kv∧Gd 16777215 x)∧(∀ds,f0p R.rd x=some ds→∀v H',Same H H'→RowV ds v H'→Q v H')∧(f0p R.rd x=none→∀H',Same H H'→E (.ref t.t0n) none H')
theorem g0x(T:Txt K mg t):FnOk Pr w K mg base (CX1 Pr w) 6 t.t0c t.p0z ["kind","text"] (spx_rrow w K mg base t):=by
  refine T.q0w.okx sc_read_row (fun vs H Q E h=>?_) (fun cdv A outer s H vs Q E hr h=>?_)
  · obtain⟨R,kv,x,rfl,_⟩:=h
    rfl
  · obtain⟨R,kv,x,rfl,⟨⟨kp,dx,rfl,hk⟩,g⟩,k,kn⟩:=h
    have gl:=g.1
    have zl:16777216≤sizeLine:=by decide
    refine⟨_,(a0d (a0y (a0j b0j (pv 1) (b0t (v:=.str "-") rfl T.c_NO_ROOMS.choose_spec ⟨_,rfl⟩) (a0l _)) (a0g (a0o (b0u a0b))) a0n) (a0g (a0o (a0z b0g (by rfl) T.z_tuple boot_tuple (a0a (j0o (xs:=["piece"]) b0k rfl (show c0f ["kind","text"] (a0i e0l) _ from⟨rfl,by decide +kernel,by decide +kernel,by decide +kernel,by decide +kernel,by decide +kernel⟩) (f0f (c0s PySem.F.plainAttrs_str PySem.F.slot_str_split PySem.F.type_str_split c0d (pv 1) (a0a a0m a0b))) (fun _ _ _ _ _=>(b0i (i:=2) (by show List.Nodup (["kind","text","piece"]:List Str);decide +kernel) rfl (Or.inl rfl))) (fun _ _ _ _ _=>(px_meth (pv 0) R.cl R.t_read R.G_read hr.m R.b_read .nil (a0a (pv 2) a0b)))) a0b))))),?_⟩
    refine⟨_,rfl,rfl,_,rfl,?_⟩
    dsimp only
    refine iteS (fun h=>?_) (fun h=>?_)
    · have he:x=[45]:=d0u (h.trans f0y)
      refine⟨(by show 0≤sizeLine;omega),fun p np=>?_⟩
      exact k [] (by rw[f0p,if_pos he]) _ _ (a0e np) ⟨p,[],rfl,a0c,Ents.nil⟩
    · have he:x≠[45]:=fun z=>h (by rw[z,f0y])
      rw[f0p,if_neg he]at k kn
      obtain⟨_,pl,_,pg⟩:=d0a (sep:=[32]) (by decide) (show Gd 1 [32] by decide) g
      refine⟨_,rfl,rfl,tc1 (c0a p1_is (by decide) (show Gd 1 [32] by decide) g fun a1 n1=>?_)⟩
      revert k kn pl pg
      generalize spG [32] x=ps
      intro k kn pl pg
      have q1:=a0e (o:=.lst (ps.map vT)) n1
      have k1:=a0c (H:=H) (a:=a1) (o:=.lst (ps.map vT))
      revert q1 k1
      generalize upd H a1 (.lst (ps.map vT))=H1
      intro q1 k1
      refine⟨a1,rfl,⟨_,SqL.of k1⟩,k0j (n:=ps.length) (fun j ys H2=>∃ds,mp R.rd (ps.take j)=some ds∧Ents (fun i u H=>∃r,ds[i]? = some r∧WV H u r) ys ds.length H2∧Same H1 H2∧ys.length=j) (by omega) ⟨[],rfl,Ents.nil,Same.refl _,rfl⟩ (fun j ys H2 ⟨_,_,_,_,q⟩=>q) ?_ ?_ ?_⟩
      · rintro j ys H2 hj ⟨ds,em,en,q,yl⟩
        obtain⟨d,ed⟩:∃d,ps[j]? = some d:=⟨_,List.getElem?_eq_getElem hj⟩
        have ex:(ps.map vT)[j]? = some (vT d):=by rw[List.getElem?_map,ed];rfl
        refine⟨⟨_,_,SqL.of (q _ _ k1),ex⟩,fun y H' hy=>?_⟩
        obtain⟨rfl,hy⟩:=hy
        have:=hy _ (SqL.of (q _ _ k1))
        rw[ex]at this
        cases this
        have hk':=(q1.trans q) _ _ hk
        refine⟨⟨[some _],rfl,rfl⟩,_,rfl,_,_,_,rfl,hk',R.l_read,_,rfl,_,_,rfl,⟨_,_,rfl,hk'⟩,.inl ⟨d,rfl,(pg d (List.mem_of_getElem? ed)).1.mono (by decide),fun dd hd u H3 s3 wv=>⟨ds++[dd],?_,?_,q.trans s3,by rw[List.length_append,yl];rfl⟩,fun hn H3 s3=>kn (j0u ed hn) _ ((q1.trans q).trans s3)⟩⟩
        · rw[take1 ed,j0t,em,hd];rfl
        · exact c0e (Pd:=fun d u H=>WV H u d) en (fun _ _ z=>z.st s3.t) wv
      · rintro ys H2 ⟨ds,em,en,q,yl⟩
        exact⟨_,SqL.of (q _ _ k1),by simp⟩
      · rintro ys H2 l ⟨ds,em,en,q,yl⟩ nl
        rw[List.take_length]at em
        have t1:=a0e (o:=.lst ys) nl
        refine⟨l,_,rfl,.inl ⟨SqL.of a0c,fun l2 n2=>?_⟩⟩
        have t2:=a0e (o:=.tup ys) n2
        have t12:=t1.trans t2
        exact k ds em _ _ ((q1.trans q).trans t12) ⟨l2,ys,rfl,a0c,en.mono fun _ _ _ ⟨r,e1,e2⟩=>⟨r,e1,e2.st t12.t⟩⟩
def spx_rrowof(w:World)(K:PySem.W.Frag)(mg:Str→Option Value)(base:Heap)(t:Adr):Sp:=fun vs H Q E=>∃(R:RX w K mg base t),∃kv x,∃n:Nat,vs=[kv,.int (n:Int),vT x]∧(KAt R.C R.fs H kv∧Gd 16777215 x)∧(∀ds,a0x R.rd n x=some ds→∀v H',Same H H'→RowV ds v H'→Q v H')∧(a0x R.rd n x=none→∀H',Same H H'→E (.ref t.t0n) none H')
theorem e0g(T:Txt K mg t):FnOk Pr w K mg base (CX1 Pr w) 7 t.p0h t.m0n ["kind","size","text"] (spx_rrowof w K mg base t):=by
  refine T.m0q.okx sc_read_row_of (fun vs H Q E h=>?_) (fun cdv A outer s H vs Q E hr h=>?_)
  · obtain⟨R,kv,x,n,rfl,_⟩:=h
    rfl
  · obtain⟨R,kv,x,n,rfl,⟨hk,g⟩,k,kn⟩:=h
    refine⟨_,(a0d (a0q (i:=3) sc_read_row_of.nd rfl (Or.inl rfl) (PEX.thru b0k (c0b (g0x T) hr.m rfl T.p0p T.q0w.kp T.q0y .nil (a0a (pv 0) (a0a (pv 2) a0b))))) (a0d (a0y (a0j e0f (a0k a0v (by rfl) T.z_len PySem.boot_len (a0a (pv 3) a0b)) (pv 1) (a0l _)) (a0g (c0r b0k rfl T.s0v.ex rfl T.t0d (a0a a0m a0b))) a0n) (a0g (a0o (pv 3))))),?_⟩
    refine⟨_,rfl,_,rfl,R,_,x,rfl,⟨hk,g⟩,fun ds hd v H1 s1 rv=>?_,fun hn H1 s1=>kn (by rw[a0x,hn];rfl) _ s1⟩
    refine⟨_,rfl,_,_,rfl,rv.len,_,rfl,rfl,_,rfl,?_⟩
    dsimp only
    refine iteNI (fun ne=>?_) (fun e=>?_)
    · exact⟨(by show 1≤sizeLine;decide),kn (by rw[a0x,hd];exact if_neg (fun z=>ne (by rw[z]))) _ s1⟩
    · exact⟨_,rfl,k ds (by rw[a0x,hd];exact if_pos (Int.ofNat.inj e)) v H1 s1 rv⟩
def spx_rtab(w:World)(K:PySem.W.Frag)(mg:Str→Option Value)(base:Heap)(t:Adr):Sp:=fun vs H Q E=>∃(R:RX w K mg base t),∃kv x,∃n:Nat,vs=[kv,.int (n:Int),vT x]∧(KAt R.C R.fs H kv∧Gd 16777215 x)∧(∀m,c0v R.rd n x=some m→∀v H',Same H H'→TabV m v H'→Q v H')∧(c0v R.rd n x=none→∀H',Same H H'→E (.ref t.t0n) none H')
theorem i0i(T:Txt K mg t):FnOk Pr w K mg base (CX1 Pr w) 8 t.q0i t.n0u ["kind","size","text"] (spx_rtab w K mg base t):=by
  refine T.n0h.okx sc_read_table (fun vs H Q E h=>?_) (fun cdv A outer s H vs Q E hr h=>?_)
  · obtain⟨R,kv,x,n,rfl,_⟩:=h
    rfl
  · obtain⟨R,kv,x,n,rfl,⟨hk,g⟩,k,kn⟩:=h
    have gl:=g.1
    have zl:16777216≤sizeLine:=by decide
    refine⟨_,(a0d (a0y (PW.pt (g0v (a0j b0j (pv 1) a0f (a0l _)) (f0e (a0j b0j (pv 2) (b0t (v:=.str "-") rfl T.c_NO_ROOMS.choose_spec ⟨_,rfl⟩) (a0l _))))) (a0g (a0o (b0u a0b))) a0n) (a0d (a0q (i:=3) sc_read_table.nd rfl (Or.inl rfl) (c0s PySem.F.plainAttrs_str PySem.F.slot_str_split PySem.F.type_str_split c0d (pv 2) (a0a a0m a0b))) (a0d (a0y (a0j e0f (a0k a0v (by rfl) T.z_len PySem.boot_len (a0a (pv 3) a0b)) (pv 1) (a0l _)) (a0g (c0r b0k rfl T.s0v.ex rfl T.t0d (a0a a0m a0b))) a0n) (a0g (a0o (a0z b0g (by rfl) T.z_tuple boot_tuple (a0a (j0o (xs:=["row"]) b0k rfl (show c0f ["kind","size","text","rows"] (a0i d0b) _ from⟨rfl,by decide +kernel,by decide +kernel,by decide +kernel,by decide +kernel,by decide +kernel⟩) (f0f (pv 3)) (fun _ _ _ _ _=>(b0i (i:=4) (by show List.Nodup (["kind","size","text","rows","row"]:List Str);decide +kernel) rfl (Or.inl rfl))) (fun _ _ _ _ _=>(c0b (e0g (w:=w) (base:=base) T) hr.m rfl T.m0r T.m0q.kp T.m0j .nil (a0a (pv 0) (a0a (pv 1) (a0a (pv 4) a0b)))))) a0b))))))),?_⟩
    refine⟨_,rfl,rfl,_,rfl,?_⟩
    dsimp only
    refine(fun(key:¬(n=0∧x=[45])→(?F:L2.St→Hp→Prop) [some kv,some (.int n),some (vT x),none] H)=>?main) ?rest
    case main=>
      refine iteI (fun h=>?_) (fun h=>?_)
      · refine⟨_,rfl,rfl,_,rfl,?_⟩
        dsimp only
        refine iteS (fun h2=>?_) (fun h2=>?_)
        · (try refine iteT ?_)
          refine⟨(by show 0≤sizeLine;decide),fun p np=>?_⟩
          exact k [] (by rw[c0v,if_pos ⟨by omega,d0u (h2.trans f0y)⟩]) _ _ (a0e np) ⟨p,[],rfl,a0c,Ents.nil⟩
        · (try refine iteF ?_)
          exact key fun z=>h2 (by rw[z.2,f0y])
      · (try refine iteF ?_)
        exact key fun z=>h (by rw[z.1];rfl)
    case rest=>
      intro hne
      rw[c0v,if_neg hne]at k kn
      obtain⟨_,pl,_,pg⟩:=d0a (sep:=[44,32]) (by decide) (show Gd 2 [44,32] by decide) g
      refine⟨_,rfl,rfl,tc1 (c0a p2_is (by decide) (show Gd 2 [44,32] by decide) g fun a1 n1=>?_)⟩
      revert k kn pl pg
      generalize spG [44,32] x=ps
      intro k kn pl pg
      have q1:=a0e (o:=.lst (ps.map vT)) n1
      have k1:=a0c (H:=H) (a:=a1) (o:=.lst (ps.map vT))
      revert q1 k1
      generalize upd H a1 (.lst (ps.map vT))=H1
      intro q1 k1
      have lc:LenV K (.ref a1) H1 ps.length:=.inl ⟨_,SqL.of k1,by rw[List.length_map]⟩
      show b0l 3 (.ref a1) [some kv,some (.int n),some (vT x),none] H1 _
      refine⟨_,rfl,_,_,rfl,lc,_,rfl,rfl,_,rfl,?_⟩
      dsimp only
      refine iteNI (fun ne=>?_) (fun e=>?_)
      · exact⟨(by show 1≤sizeLine;decide),kn (if_neg (fun z=>ne (by rw[z]))) _ q1⟩
      have en:ps.length=n:=Int.ofNat.inj e
      rw[if_pos en]at k kn
      refine⟨_,rfl,a1,rfl,⟨_,SqL.of k1⟩,k0j (n:=ps.length) (fun j ys H2=>∃ds,mp (a0x R.rd n) (ps.take j)=some ds∧Ents (fun i u H=>∃r,ds[i]? = some r∧RowV r u H) ys ds.length H2∧Same H1 H2∧ys.length=j) (by omega) ⟨[],rfl,Ents.nil,Same.refl _,rfl⟩ (fun j ys H2 ⟨_,_,_,_,q⟩=>q) ?_ ?_ ?_⟩
      · rintro j ys H2 hj ⟨ds,em,en,q,yl⟩
        obtain⟨d,ed⟩:∃d,ps[j]? = some d:=⟨_,List.getElem?_eq_getElem hj⟩
        have ex:(ps.map vT)[j]? = some (vT d):=by rw[List.getElem?_map,ed];rfl
        refine⟨⟨_,_,SqL.of (q _ _ k1),ex⟩,fun y H' hy=>?_⟩
        obtain⟨rfl,hy⟩:=hy
        have:=hy _ (SqL.of (q _ _ k1))
        rw[ex]at this
        cases this
        refine⟨⟨[some _],rfl,rfl⟩,_,rfl,_,rfl,_,rfl,R,_,d,n,rfl,⟨hk.same (q1.trans q),(pg d (List.mem_of_getElem? ed)).1⟩,fun dd hd u H3 s3 wv=>⟨ds++[dd],?_,?_,q.trans s3,by rw[List.length_append,yl];rfl⟩,fun hn H3 s3=>kn (j0u ed hn) _ ((q1.trans q).trans s3)⟩
        · rw[take1 ed,j0t,em,hd];rfl
        · exact c0e (Pd:=RowV) en (fun _ _ z=>z.same s3.t) wv
      · rintro ys H2 ⟨ds,em,en,q,yl⟩
        exact⟨_,SqL.of (q _ _ k1),by simp⟩
      · rintro ys H2 l ⟨ds,em,en,q,yl⟩ nl
        rw[List.take_length]at em
        have t1:=a0e (o:=.lst ys) nl
        refine⟨l,_,rfl,.inl ⟨SqL.of a0c,fun l2 n2=>?_⟩⟩
        have t2:=a0e (o:=.tup ys) n2
        have t12:=t1.trans t2
        exact k ds em _ _ ((q1.trans q).trans t12) ⟨l2,ys,rfl,a0c,en.mono fun _ _ _ ⟨r,e1,e2⟩=>⟨r,e1,e2.same t12.t⟩⟩
def MV(l:List Nat)(st:List PyData)(ts:List (List (List PyData)))(en:List PyData)(v:V)(H:Hp):Prop:=∃p s tv e,v=.ref p∧H p=some (.tup [vT l,s,tv,e])∧RowV st s H∧LT TabV ts tv H∧RowV en e H
theorem MV.same{l:List Nat}{st:List PyData}{ts:List (List (List PyData))}{en:List PyData}{v:V}{H H':Hp}(s:SameT H H')(h:MV l st ts en v H):MV l st ts en v H':=by
  obtain⟨p,a,b,c,rfl,h,h1,h2,h3⟩:=h
  exact⟨p,a,b,c,rfl,s _ _ h,h1.same s,h2.same (fun _ _=>TabV.same s) s,h3.same s⟩
abbrev Mc:=List Nat × List PyData × List (List (List PyData)) × List PyData
def MVm(m:Mc)(v:V)(H:Hp):Prop:=MV m.1 m.2.1 m.2.2.1 m.2.2.2 v H
def rdM2(rd:List Nat→Option PyData)(l s:List Nat)(T:List (List Nat))(e:List Nat):Option Mc:=(f0p rd s).bind fun st=>if 20 < st.length then none else(mp (c0v rd st.length) T).bind fun ts=>(a0x rd st.length e).map fun en=>(l,st,ts,en)
def f0d(rd:List Nat→Option PyData)(x:List Nat):Option Mc:=
  if lets ((spG [32,124,32] x).getD 0 [])=true∧(spG [32,124,32] x).length=((spG [32,124,32] x).getD 0 []).length+3 then rdM2 rd ((spG [32,124,32] x).getD 0 []) ((spG [32,124,32] x).getD 1 []) ((spG [32,124,32] x).drop 2).dropLast ((spG [32,124,32] x).getLastD [])else none
theorem four{α:Type}:∀{ps:List α},3≤ps.length→∃l s T e,ps=([l,s]++T)++[e]
  | l::s::r,h=>by
    have hr:r≠[]:=fun z=>by rw[z]at h;simp at h
    exact⟨l,s,r.dropLast,r.getLast hr,by simp[List.dropLast_concat_getLast hr]⟩
theorem rdMac_of{rd:List Nat→Option PyData}{x l s e:List Nat}{T:List (List Nat)}(h:spG [32,124,32] x=([l,s]++T)++[e])(hl:lets l=true)(ht:T.length=l.length):f0d rd x=rdM2 rd l s T e:=by
  unfold f0d
  rw[h]
  have e1:(([l,s]++T)++[e]).getD 0 []=l:=rfl
  have e2:(([l,s]++T)++[e]).getD 1 []=s:=rfl
  have e3:((([l,s]++T)++[e]).drop 2).dropLast=T:=by
    show(T++[e]).dropLast=T
    simp
  have e4:(([l,s]++T)++[e]).getLastD []=e:=by
    rw[List.getLastD_eq_getLast?,List.getLast?_concat];rfl
  rw[e1,e2,e3,e4,if_pos ⟨hl,by simp[ht]⟩]
theorem cut_mid(a b z:V)(T:List V):cutV (([a,b]++T)++[z]) (some 2) (some (-1))=T:=by
  have hl:(([a,b]++T)++[z]).length=T.length+3:=by simp
  unfold cutV
  rw[hl,show(2:Int)=((2:Nat):Int)from rfl,HT.j0i]
  have e:HT.sIx (T.length+3) (T.length+3) (some (-1))=T.length+2:=by
    show(if(-1:Int) < 0 then((-1:Int)+((T.length+3:Nat):Int)).toNat else min (-1:Int).toNat (T.length+3))=_
    rw[if_pos (by decide)]
    omega
  rw[e,show min 2 (T.length+3)=2 by omega]
  show(T++[z]).take (T.length+2 - 2)=T
  simp
def spx_rmac(w:World)(K:PySem.W.Frag)(mg:Str→Option Value)(base:Heap)(t:Adr):Sp:=fun vs H Q E=>∃(R:RX w K mg base t),∃kv v,vs=[kv,v]∧KAt R.C R.fs H kv∧
  ((∃x,v=vT x∧Gd 16777215 x∧(∀m,f0d R.rd x=some m→∀u H',Same H H'→MVm m u H'→Q u H')∧(f0d R.rd x=none→∀H',Same H H'→E (.ref t.t0n) none H'))∨(NoStr K v H∧E (.ref t.t0n) none H))
theorem g0z(T:Txt K mg t):FnOk Pr w K mg base (CX1 Pr w) 9 t.m0y t.l0w ["kind","text"] (spx_rmac w K mg base t):=by
  refine T.l0t.okx sc_read_machine (fun vs H Q E h=>?_) (fun cdv A outer s H vs Q E hr h=>?_)
  · obtain⟨R,kv,v,rfl,_⟩:=h
    rfl
  · obtain⟨R,kv,v,rfl,hk,h⟩:=h
    have zl:16777216≤sizeLine:=by decide
    refine⟨_,(a0d (d0p (PEX.thru b0k (c0b (c0t T) hr.m rfl T.p0k T.o0v.kp T.o0p .nil (a0a (pv 1) a0b)))) (a0d (a0q (i:=2) sc_read_machine.nd rfl (Or.inl rfl) (c0s PySem.F.plainAttrs_str PySem.F.slot_str_split PySem.F.type_str_split c0d (pv 1) (a0a a0m a0b))) (a0d (a0q (i:=3) sc_read_machine.nd rfl (Or.inl rfl) (b0d b0a (pv 2) a0f (fun _ _=>rfl))) (a0d (a0y (PW.pt (d0x (d0w (e0d (a0p (j0s T) hr.m rfl T.n0e T.o0a.kp T.n0z .nil b0b (a0a (pv 3) a0b)))) (d0v (a0j e0f (a0k a0v (by rfl) T.z_len PySem.boot_len (a0a (pv 2) a0b)) (b0c c0w (a0k a0v (by rfl) T.z_len PySem.boot_len (a0a (pv 3) a0b)) a0f) (a0l _))))) (a0g (c0r b0k rfl T.s0v.ex rfl T.t0d (a0a a0m a0b))) a0n) (a0d (a0q (i:=4) sc_read_machine.nd rfl (Or.inl rfl) (PEX.thru b0k (c0b (g0x T) hr.m rfl T.p0p T.q0w.kp T.q0y .nil (a0a (pv 0) (a0a (b0d b0a (pv 2) a0f (fun _ _=>rfl)) a0b))))) (a0d (a0q (i:=5) sc_read_machine.nd rfl (Or.inr rfl) (a0k a0v (by rfl) T.z_len PySem.boot_len (a0a (pv 4) a0b))) (a0d (a0y (a0j j0p (pv 5) (b0t (v:=.int 20) rfl T.c_MOST_ROOMS.choose_spec ⟨_,rfl⟩) (a0l _)) (a0g (c0r b0k rfl T.s0v.ex rfl T.t0d (a0a a0m a0b))) a0n) (a0d (a0q (i:=6) sc_read_machine.nd rfl (Or.inl rfl) (a0z b0g (by rfl) T.z_tuple boot_tuple (a0a (j0o (xs:=["piece"]) b0k rfl (show c0f ["kind","text","pieces","letters","start","size","tables"] (a0i c0l) _ from⟨rfl,by decide +kernel,by decide +kernel,by decide +kernel,by decide +kernel,by decide +kernel⟩) (f0f (b0n e0y (pv 2) (b0s a0f) (b0s (pe_un un_neg a0f)))) (fun _ _ _ _ _=>(b0i (i:=7) (by show List.Nodup (["kind","text","pieces","letters","start","size","tables","piece"]:List Str);decide +kernel) rfl (Or.inl rfl))) (fun _ _ _ _ _=>(c0b (i0i (w:=w) (base:=base) T) hr.m rfl T.n0g T.n0h.kp T.n0q .nil (a0a (pv 0) (a0a (pv 5) (a0a (pv 7) a0b)))))) a0b))) (a0g (a0o (b0u (a0a (pv 3) (a0a (pv 4) (a0a (pv 6) (a0a (PEX.thru b0k (c0b (e0g T) hr.m rfl T.m0r T.m0q.kp T.m0j .nil (a0a (pv 0) (a0a (pv 5) (a0a (b0d b0a (pv 2) (pe_un un_neg a0f) (fun _ _=>rfl)) a0b))))) a0b))))))))))))))),?_⟩
    rcases h with ⟨x,rfl,g,k,kn⟩ | ⟨hn,ke⟩
    case inr=>exact⟨_,rfl,_,rfl,.inr ⟨hn,ke⟩⟩
    have gl:=g.1
    refine⟨_,rfl,_,rfl,.inl ⟨_,rfl,?_⟩⟩
    obtain⟨pne,pl,_,pg⟩:=d0a (sep:=[32,124,32]) (by decide) (show Gd 3 [32,124,32] by decide) g
    refine⟨_,rfl,rfl,tc1 (c0a p3_is (by decide) (show Gd 3 [32,124,32] by decide) g fun a1 n1=>?_)⟩
    have mo:=@rdMac_of R.rd x
    have mn:∀l,(spG [32,124,32] x)[0]? = some l→¬(lets l=true∧(spG [32,124,32] x).length=l.length+3)→f0d R.rd x=none:=fun l h0 h1=>by
      unfold f0d
      rw[List.getD_eq_getElem?_getD,h0]
      exact if_neg h1
    revert pne pl pg mo mn
    generalize spG [32,124,32] x=ps
    intro pne pl pg mo mn
    have q1:=a0e (o:=.lst (ps.map vT)) n1
    have k1:=a0c (H:=H) (a:=a1) (o:=.lst (ps.map vT))
    revert q1 k1
    generalize upd H a1 (.lst (ps.map vT))=H1
    intro q1 k1
    obtain⟨l,el⟩:∃l,ps[0]? = some l:=⟨_,List.getElem?_eq_getElem (List.length_pos_iff.mpr pne)⟩
    have at0:atI (ps.map vT) 0=some (vT l):=c0k (j:=0) (by rw[List.getElem?_map,el];rfl)
    obtain⟨gll,_⟩:=pg l (List.mem_of_getElem? el)
    have glen:=gll.1
    refine⟨_,rfl,_,_,_,_,rfl,rfl,SqL.of k1,at0,?_⟩
    show b0l 3 (vT l) [some kv,some (vT x),some (.ref a1),none,none,none,none] H1 _
    refine⟨_,rfl,_,rfl,gll.mono (by decide),fun H2 s2=>⟨_,rfl,?_⟩⟩
    have k2:=s2 _ _ k1
    cases hl:lets l with
    | false=>
      (try refine iteT ?_)
      (try refine iteT ?_)
      exact⟨(by show 1≤sizeLine;decide),kn (mn l el (by rw[hl];exact fun z=>nomatch z.1)) _ (q1.trans s2)⟩
    | true=>
    (try refine iteF ?_)
    have lc:LenV K (.ref a1) H2 ps.length:=.inl ⟨_,SqL.of k2,by simp⟩
    have ll:LenV K (vT l) H2 l.length:=⟨by rw[a0s];omega,(a0s l).symm⟩
    refine⟨_,rfl,_,_,rfl,lc,_,rfl,_,_,rfl,ll,_,_,rfl,rfl,rfl,_,rfl,?_⟩
    dsimp only
    refine iteNI (fun ne=>?_) (fun e3=>?_)
    · (try refine iteT ?_)
      exact⟨(by show 1≤sizeLine;decide),kn (mn l el (fun z=>ne (by omega))) _ (q1.trans s2)⟩
    (try refine iteF ?_)
    have e3:ps.length=l.length+3:=by omega
    obtain⟨l',s',Tb',e',rfl⟩:=four (ps:=ps) (by omega)
    obtain rfl:l'=l:=Option.some.inj el
    have htl:Tb'.length=l'.length:=by simp at e3;omega
    rw[mo rfl hl htl,rdM2]at k kn
    have l3:l'.length≤3:=by
      unfold lets at hl
      simp only[Bool.and_eq_true,decide_eq_true_eq]at hl
      exact hl.1.1.2
    have pmap:(([l',s']++Tb')++[e']).map vT=([vT l',vT s']++Tb'.map vT)++[vT e']:=by simp
    rw[pmap]at k1 k2
    have gs:=(pg s' (by simp)).1
    have ge:=(pg e' (by simp)).1
    have gT:∀d∈Tb',Gd 16777215 d:=fun d hd=>(pg d (by simp[hd])).1
    have at2:atI (([vT l',vT s']++Tb'.map vT)++[vT e']) 1=some (vT s'):=c0k (j:=1) rfl
    refine⟨_,rfl,_,rfl,_,_,_,_,rfl,rfl,SqL.of k2,at2,R,_,s',rfl,⟨hk.same (q1.trans s2),gs⟩,fun st hst sv H3 s3 rs=>?_,fun hn H3 s3=>kn (by rw[hn];rfl) _ ((q1.trans s2).trans s3)⟩
    rw[hst]at k kn
    simp only[Option.bind_some]at k kn
    have q3:=(q1.trans s2).trans s3
    have k3:=s3 _ _ k2
    refine⟨_,rfl,_,_,rfl,rs.len,?_⟩
    show b0l 5 (.int (st.length:Nat)) [some kv,some (vT x),some (.ref a1),some (vT l'),some sv,none,none] H3 _
    refine⟨_,rfl,_,_,rfl,rfl,_,rfl,?_⟩
    dsimp only
    by_cases h20:20 < st.length
    · refine iteY (decide_eq_true (by omega)) ?_
      exact⟨(by show 1≤sizeLine;decide),kn (if_pos h20) _ q3⟩
    refine iteN (decide_eq_false (by omega)) ?_
    rw[if_neg h20]at k kn
    refine⟨_,rfl,_,rfl,_,rfl,_,rfl,_,_,rfl,SqL.of k3,fun a4 n4=>?_⟩
    rw[cut_mid]
    have t4:=a0e (o:=.lst (Tb'.map vT)) n4
    have q4:=q3.trans t4
    have k4:=a0c (H:=H3) (a:=a4) (o:=.lst (Tb'.map vT))
    have k4b:=t4 _ _ k3
    have rs4:=rs.same t4.t
    revert q4 k4 k4b rs4
    generalize upd H3 a4 (.lst (Tb'.map vT))=H4
    intro q4 k4 k4b rs4
    refine⟨a4,rfl,⟨_,SqL.of k4⟩,k0j (n:=Tb'.length) (fun j ys H2=>∃ds,mp (c0v R.rd st.length) (Tb'.take j)=some ds∧Ents (fun i u H=>∃r,ds[i]? = some r∧TabV r u H) ys ds.length H2∧Same H4 H2∧ys.length=j) (by omega) ⟨[],rfl,Ents.nil,Same.refl _,rfl⟩ (fun j ys H2 ⟨_,_,_,_,q⟩=>q) ?_ ?_ ?_⟩
    · rintro j ys H2 hj ⟨ds,em,en,q,yl⟩
      obtain⟨d,ed⟩:∃d,Tb'[j]? = some d:=⟨_,List.getElem?_eq_getElem hj⟩
      have ex:(Tb'.map vT)[j]? = some (vT d):=by rw[List.getElem?_map,ed];rfl
      refine⟨⟨_,_,SqL.of (q _ _ k4),ex⟩,fun y H' hy=>?_⟩
      obtain⟨rfl,hy⟩:=hy
      have:=hy _ (SqL.of (q _ _ k4))
      rw[ex]at this
      cases this
      refine⟨⟨[some _],rfl,rfl⟩,_,rfl,_,rfl,_,rfl,R,_,d,st.length,rfl,⟨hk.same (q4.trans q),gT d (List.mem_of_getElem? ed)⟩,fun dd hd u H3 s3 wv=>⟨ds++[dd],?_,?_,q.trans s3,by rw[List.length_append,yl];rfl⟩,fun hn H3 s3=>kn (by rw[j0u ed hn];rfl) _ ((q4.trans q).trans s3)⟩
      · rw[take1 ed,j0t,em,hd];rfl
      · exact c0e (Pd:=TabV) en (fun _ _ z=>z.same s3.t) wv
    · rintro ys H2 ⟨ds,em,en,q,yl⟩
      exact⟨_,SqL.of (q _ _ k4),by simp⟩
    · rintro ys H5 lp ⟨ds,em,en,q,yl⟩ nl
      rw[List.take_length]at em
      rw[em]at k kn
      simp only[Option.bind_some]at k kn
      have t1:=a0e (o:=.lst ys) nl
      refine⟨lp,_,rfl,.inl ⟨SqL.of a0c,fun l2 n2=>?_⟩⟩
      have t2:=a0e (o:=.tup ys) n2
      have t12:=t1.trans t2
      have rt:LT TabV ds (.ref l2) (upd (upd H5 lp (.lst ys)) l2 (.tup ys)):=⟨l2,ys,rfl,a0c,en.mono fun _ _ _ ⟨r,e1,e2⟩=>⟨r,e1,e2.same t12.t⟩⟩
      have t6:=q.trans t12
      revert rt t6
      generalize upd (upd H5 lp (.lst ys)) l2 (.tup ys)=H6
      intro rt t6
      have q6:=q4.trans t6
      have at1:atI (([vT l',vT s']++Tb'.map vT)++[vT e']) (-1)=some (vT e'):=atI_last _ _
      refine⟨_,rfl,_,rfl,_,rfl,_,rfl,_,rfl,_,rfl,_,rfl,_,_,_,_,rfl,rfl,SqL.of (t6 _ _ k4b),at1,R,_,e',st.length,rfl,⟨hk.same q6,ge⟩,fun ed hed ev H7 s7 re=>?_,fun hn H7 s7=>kn (by rw[hn];rfl) _ (q6.trans s7)⟩
      refine⟨(by show 4≤sizeLine;decide),fun p8 n8=>?_⟩
      have t8:=s7.trans (a0e (o:=.tup [vT l',sv,.ref l2,ev]) n8)
      exact k (l',st,ds,ed) (by rw[hed];rfl) _ _ (q6.trans t8) ⟨p8,_,_,_,rfl,a0c,(rs4.same t6.t).same t8.t,rt.same (fun _ _=>TabV.same t8.t) t8.t,re.same (a0e n8).t⟩
theorem LOk.asc'{l:List Nat}(L:LOk l):(tx l).cps.all (· < 128)=true:=by
  show l.toArray.all (· < 128)=true
  simp only[List.all_toArray,List.all_eq_true,decide_eq_true_eq]
  exact fun c hc=>L.as c hc
structure AZ(l:List Nat):Prop where
  lo:LOk l
  az:∀c∈l,97≤c∧c≤122
structure MG(l:List Nat)(n:Nat)(st:List PyData)(ts:List (List (List PyData)))(en:List PyData)(way p:Int):Prop where
  lk:AZ l
  n20:n≤20
  sl:st.length=n
  sg:RG st way p
  tl:ts.length=l.length
  tb:∀m∈ts,TG' m n way p
  el:en.length=n
  eg:RG en way p
theorem pcs_gd{l:List Nat}{n:Nat}{st:List PyData}{ts:List (List (List PyData))}{en:List PyData}{way p:Int}(h:MG l n st ts en way p):(∀q∈pcsT l st ts en,Gd 25640 q∧124 ∉ q)∧(pcsT l st ts en).length=l.length+3∧pcsT l st ts en≠[]:=by
  refine⟨fun q hq=>?_,?_,?_⟩
  · unfold pcsT at hq
    rcases List.mem_append.mp hq with hq | hq
    · rcases List.mem_append.mp hq with hq | hq
      · have:q=l∨q=rowT st:=by simpa using hq
        rcases this with rfl | rfl
        · have:=h.lk.lo.h3
          exact⟨⟨by omega,h.lk.lo.as⟩,fun z=>by have:=h.lk.az _ z;omega⟩
        · have:=row_gd h.sg
          exact⟨this.1.mono (by decide),fun z=>(this.2.2.1 _ z).2 rfl⟩
      · obtain⟨m,hm,rfl⟩:=List.mem_map.mp hq
        have:=tab_gd (h.tb m hm)
        exact⟨this.1,fun z=>this.2.2 _ z rfl⟩
    · have:q=rowT en:=by simpa using hq
      subst this
      have:=row_gd h.eg
      exact⟨this.1.mono (by decide),fun z=>(this.2.2.1 _ z).2 rfl⟩
  · unfold pcsT
    simp[h.tl]
  · unfold pcsT
    simp
theorem row_ne{ds:List PyData}(h:ds≠[]):rowT ds=jn [32] (ds.map wl):=if_neg h
theorem tab_ne{m:List (List PyData)}(h:m≠[]):tabT m=jn [44,32] (m.map rowT):=if_neg h
theorem h0h{α β:Type}{f:α→β}{ls:List α}{j:Nat}{x:α}(h:ls[j]? = some x):(ls.take (j+1)).map f=(ls.take j).map f++[f x]:=by
  rw[List.take_succ,h,List.map_append];rfl
theorem pcs_map(l:List Nat)(st:List PyData)(ts:List (List (List PyData)))(en:List PyData):(pcsT l st ts en).map vT=([vT l,vT (rowT st)]++(ts.map tabT).map vT)++[vT (rowT en)]:=by simp[pcsT]
theorem e0w(T:Txt K mg t):FnOk Pr w K mg base CX0 1 t.p0f t.m0b ["_law_one","_law_other"] sp_divisor:=by
  refine T.m0i.ok sc_law_divisor (fun vs H Q E h=>?_) (fun cdv A outer s H vs Q E hr h=>?_)
  · obtain⟨a,b,rfl,_⟩:=h
    rfl
  · obtain⟨a,b,rfl,k⟩:=h
    refine⟨_,(a0d (j0l PassesOwn.never (a0j e0f (pv 1) a0f (a0l _)) (a0g (ps_par (i:=0) (j:=1) rfl sc_law_divisor.nd rfl rfl (by decide) rfl rfl (a0a (pv 1) (a0a (b0c c0q (pv 0) (pv 1)) a0b)) rfl))) (a0g (a0o (a0k k0m (by rfl) T.z_abs boot_abs (a0a (pv 0) a0b))))),?_⟩
    refine⟨fun m σ H'=>∃x y,σ=[some (.int x),some (.int y)]∧m=y.natAbs∧dv x y=dv a b∧H'=H,⟨_,_,_,rfl,rfl,rfl,rfl⟩,?_⟩
    rintro m σ H' ⟨x,y,rfl,rfl,e,rfl⟩
    (repeat (first | apply Exists.intro | refine And.intro rfl ?_ | refine And.intro (by with_reducible assumption) ?_ | refine And.intro (SqT.of (by assumption)) ?_ | refine And.intro (SqL.of (by assumption)) ?_ | refine And.intro (TyOf.int _) ?_ | refine And.intro (TyOf.tup (by assumption)) ?_ | refine And.intro T.k_ii ?_ | refine And.intro T.k_ib ?_ | refine And.intro T.k_tt ?_ | refine And.intro T.k_bb ?_ | refine And.intro T.k_ss ?_ | refine And.intro T.nP ?_ | refine And.intro T.k_ts ?_ | refine And.intro T.k_ns ?_ | refine And.intro T.k_is ?_ | refine And.intro T.k_ls ?_ | refine And.intro T.eT ?_ | refine And.intro T.vT1 ?_ | refine And.intro T.kTT ?_ | refine And.intro T.xNoKind ?_ | refine And.intro T.xWrongKind ?_ | refine And.intro T.xNoWeight ?_ | refine And.intro T.xNoWord ?_ | refine And.intro T.xUnlike ?_ | refine And.intro T.xNoClosure ?_ | refine And.intro T.xTooGreat ?_ | refine And.intro T.xNoName ?_ | refine And.intro T.xNoRow ?_))
    refine iteNI (fun h0=>?_) (fun h0=>?_)
    · refine⟨fun σ' H''=>∃x' y',σ'=[some (.int x'),some (.int y')]∧y'.natAbs < y.natAbs∧dv x' y'=dv a b∧H''=H',fun σ' H'' ⟨x',y',e1,e2,e3,e4⟩=>⟨_,e2,x',y',e1,rfl,e3,e4⟩,?_⟩
      refine⟨_,rfl,_,rfl,_,rfl,_,_,rfl,rfl,h0,_,_,rfl,?_⟩
      exact⟨_,_,rfl,fmod_abs_lt _ _ h0,l_turn e,rfl⟩
    · refine⟨_,rfl,_,rfl,?_⟩
      (try dsimp only)
      rw[out2 e h0]
      exact k
theorem fr_is{a b:Int}(pb:0 < b):a.fdiv (dv a b)=tp a b∧b.fdiv (dv a b)=bt a b:=by
  unfold tp bt
  rw[sg_pos (by omega)]
  exact⟨rfl,rfl⟩
theorem dv_sz{a b:Int}{n:Nat}(h:b.natAbs≤2 ^ n)(pb:0 < b):(dv a b).natAbs≤2 ^ n:=by
  have h1:=dv_le a b (by omega)
  have h2:=i0b a b
  omega
def sp_low:Sp:=fun vs H Q _=>∃a b,vs=[.int a,.int b]∧(a.natAbs≤2 ^ 100∧b.natAbs≤2 ^ 100∧0 < b)∧∀v H',Same H H'→WV H' v (.tuple [.int (tp a b),.int (bt a b)])→Q v H'
theorem ok_law_low(T:Txt K mg t):FnOk Pr w K mg base CX0 2 t.t0j t.r0o ["_law_top","_law_bottom"] sp_low:=by
  refine T.r0z.ok sc_law_low (fun vs H Q E h=>?_) (fun cdv A outer s H vs Q E hr h=>?_)
  · obtain⟨a,b,rfl,_⟩:=h
    rfl
  · obtain⟨a,b,rfl,⟨ha,hb,pb⟩,k⟩:=h
    have hd:CDivB a (dv a b):=⟨Int.ne_of_gt (dv_pos (by omega)),sz_log (dv_sz hb pb) (by decide)⟩
    have hd':CDivB b (dv a b):=hd
    refine⟨_,(a0d (a0q (i:=2) sc_law_low.nd rfl (Or.inl rfl) (a0p (e0w T) hr.m rfl T.m0p T.m0i.kp T.m0k .nil b0b (a0a (pv 0) (a0a (pv 1) a0b)))) (a0g (a0o (b0u (a0a (b0c f0t (pv 0) (pv 2)) (a0a (b0c f0t (pv 1) (pv 2)) a0b)))))),?_⟩
    (repeat (first | apply Exists.intro | refine And.intro rfl ?_ | refine And.intro (by with_reducible assumption) ?_ | refine And.intro (SqT.of (by assumption)) ?_ | refine And.intro (SqL.of (by assumption)) ?_ | refine And.intro (TyOf.int _) ?_ | refine And.intro (TyOf.tup (by assumption)) ?_ | refine And.intro T.k_ii ?_ | refine And.intro T.k_ib ?_ | refine And.intro T.k_tt ?_ | refine And.intro T.k_bb ?_ | refine And.intro T.k_ss ?_ | refine And.intro T.nP ?_ | refine And.intro T.k_ts ?_ | refine And.intro T.k_ns ?_ | refine And.intro T.k_is ?_ | refine And.intro T.k_ls ?_ | refine And.intro T.eT ?_ | refine And.intro T.vT1 ?_ | refine And.intro T.kTT ?_ | refine And.intro T.xNoKind ?_ | refine And.intro T.xWrongKind ?_ | refine And.intro T.xNoWeight ?_ | refine And.intro T.xNoWord ?_ | refine And.intro T.xUnlike ?_ | refine And.intro T.xNoClosure ?_ | refine And.intro T.xTooGreat ?_ | refine And.intro T.xNoName ?_ | refine And.intro T.xNoRow ?_))
    refine⟨(by show 2≤sizeLine;decide),fun p hp=>?_⟩
    (try dsimp only)
    rw[(fr_is pb).1,(fr_is pb).2]
    exact k _ _ (a0e hp) ⟨_,rfl,a0c⟩
theorem nine9{r:Int}(h0:0≤r)(h1:r < 9):∃p:Int,atI ([2,3,5,7,11,13,101,65537,999983].map V.int) r=some (V.int p)∧2≤p∧p≤1000000∧isP p=true:=by
  rcases(by omega:r=0∨r=1∨r=2∨r=3∨r=4∨r=5∨r=6∨r=7∨r=8)with rfl | rfl | rfl | rfl | rfl | rfl | rfl | rfl | rfl
  · exact⟨2,rfl,by decide,by decide,p2⟩
  · exact⟨3,rfl,by decide,by decide,p3⟩
  · exact⟨5,rfl,by decide,by decide,p5⟩
  · exact⟨7,rfl,by decide,by decide,p7⟩
  · exact⟨11,rfl,by decide,by decide,p11⟩
  · exact⟨13,rfl,by decide,by decide,p13⟩
  · exact⟨101,rfl,by decide,by decide,p101⟩
  · exact⟨65537,rfl,by decide,by decide,p65537⟩
  · exact⟨999983,rfl,by decide,by decide,p999983⟩
def sp_sort(T:Txt K mg t):Sp:=fun vs H Q _=>∃(a:Addr) (wy:Int),vs=[.ref a,.int wy]∧(Dr H a∧0≤wy∧wy < 4)∧∀(R:RX w K mg base t) nm p v H',So T R nm p→SortAt H' v nm p→SameX a H H'→Dr H' a→Q v H'
theorem ok_law_sort(T:Txt K mg t):FnOk Pr w K mg base CX0 2 t.s0f t.q0t ["_law_state_here","_law_way"] (sp_sort (w:=w) (base:=base) T):=by
  refine T.r0k.ok sc_law_sort (fun vs H Q E h=>?_) (fun cdv A outer s H vs Q E hr h=>?_)
  · obtain⟨a,wy,rfl,_⟩:=h
    rfl
  · obtain⟨a,wy,rfl,⟨hD,w0,w4⟩,k⟩:=h
    refine⟨_,(a0d (a0q (i:=2) sc_law_sort.nd rfl (Or.inl rfl) (b0d b0a (b0e (a0a a0f (a0a a0f (a0a a0f (a0a a0f (a0a a0f (a0a a0f (a0a a0f (a0a a0f (a0a a0f a0b)))))))))) (a0p (a0r T) hr.m rfl T.p0r T.q0h.kp T.p0n .nil b0b (a0a (pv 0) (a0a a0f a0b))) (fun _ _=>rfl))) (a0g (a0o (b0d b0a (b0e (a0a (b0u (a0a a0m (a0a a0f a0b))) (a0a (b0u (a0a a0m (a0a (pv 2) a0b))) (a0a (b0u (a0a a0m (a0a a0f a0b))) (a0a (b0u (a0a a0m (a0a a0f a0b))) a0b))))) (pv 1) (fun _ _=>rfl))))),?_⟩
    refine⟨(by show 9≤sizeLine;decide),fun l0 h0=>?_⟩
    have e0:=a0e (o:=.lst ([2,3,5,7,11,13,101,65537,999983].map V.int)) h0
    have la:l0≠a:=fun e=>by obtain⟨xs,z⟩:=hD.lst;rw[← e,h0]at z;cases z
    refine⟨_,rfl,a,9,rfl,⟨hD.same e0,by decide,by decide⟩,fun r H1 s1 d1 r0 r1=>?_⟩
    obtain⟨p,ap,hp⟩:=nine9 r0 r1
    refine⟨_,_,_,_,rfl,rfl,SqL.of (s1 _ _ la a0c),ap,?_⟩
    have q1:SameX a H H1:=(SameX.of e0).trans s1
    refine⟨(by show 2≤sizeLine;decide),fun p1 n1=>⟨_,rfl,(by show 2≤sizeLine;decide),fun p2 n2=>⟨(by show 2≤sizeLine;decide),fun p3 n3=>⟨(by show 2≤sizeLine;decide),fun p4 n4=>⟨(by show 4≤sizeLine;decide),fun l nl=>?_⟩⟩⟩⟩⟩
    have t1:=a0e (o:=.tup [.str "fractions",.int 0]) n1
    have t2:=a0e (o:=.tup [.str "residues",.int p]) n2
    have t3:=a0e (o:=.tup [.str "costs",.int 0]) n3
    have t4:=a0e (o:=.tup [.str "truths",.int 0]) n4
    have t5:=a0e (o:=.lst [V.ref p1,.ref p2,.ref p3,.ref p4]) nl
    have tt:=(((t1.trans t2).trans t3).trans t4).trans t5
    have q2:=q1.trans (.of tt)
    have d2:=d1.same tt
    rcases(by omega:wy=0∨wy=1∨wy=2∨wy=3)with rfl | rfl | rfl | rfl
    · exact⟨_,rfl,_,_,_,_,rfl,rfl,SqL.of a0c,rfl,k _ _ _ _ _ .fr ⟨p1,rfl,(((t2.trans t3).trans t4).trans t5) _ _ a0c⟩ q2 d2⟩
    · exact⟨_,rfl,_,_,_,_,rfl,rfl,SqL.of a0c,rfl,k _ _ _ _ _ (.re p hp.1 hp.2.1 hp.2.2) ⟨p2,rfl,((t3.trans t4).trans t5) _ _ a0c⟩ q2 d2⟩
    · exact⟨_,rfl,_,_,_,_,rfl,rfl,SqL.of a0c,rfl,k _ _ _ _ _ .co ⟨p3,rfl,(t4.trans t5) _ _ a0c⟩ q2 d2⟩
    · exact⟨_,rfl,_,_,_,_,rfl,rfl,SqL.of a0c,rfl,k _ _ _ _ _ .tr ⟨p4,rfl,t5 _ _ a0c⟩ q2 d2⟩
def sp_kind(T:Txt K mg t):Sp:=fun vs H Q _=>∃(R:RX w K mg base t),∃nm p so,So T R nm p∧vs=[so]∧SortAt H so nm p∧∀v H',Same H H'→KAt R.C R.fs H' v→Q v H'
theorem ok_law_kind(T:Txt K mg t):FnOk Pr w K mg base CX0 4 t.s0s t.p0u ["_law_sort_here"] (sp_kind (w:=w) (base:=base) T):=by
  refine T.q0p.ok sc_law_kind (fun vs H Q E h=>?_) (fun cdv A outer s H vs Q E hr h=>?_)
  · obtain⟨R,nm,p,so,_,rfl,_⟩:=h
    rfl
  · obtain⟨R,nm,p,so,hS,rfl,⟨q,rfl,hq⟩,k⟩:=h
    refine⟨_,(a0d (a0y (a0j b0j (b0d b0m (pv 0) a0f (fun _ _=>rfl)) a0m (a0l _)) (a0g (a0o (j0n T.p0d rfl T.p0e))) a0n) (a0d (a0y (a0j b0j (b0d b0m (pv 0) a0f (fun _ _=>rfl)) a0m (a0l _)) (a0g (a0o (pe_make T.q0z (e0s T) hr.m rfl T.q0d T.k0s .nil b0b (a0a (b0d b0m (pv 0) a0f (fun _ _=>rfl)) a0b)))) a0n) (a0d (a0y (a0j b0j (b0d b0m (pv 0) a0f (fun _ _=>rfl)) a0m (a0l _)) (a0g (a0o (j0n T.t0f rfl T.t0i))) a0n) (a0g (a0o (j0n T.s0n rfl T.s0x)))))),?_⟩
    cases hS with
    | fr=>
      refine⟨_,rfl,_,_,_,_,rfl,rfl,SqT.of hq,rfl,rfl,_,rfl,?_⟩
      rw[show decide (V.str ("fractions":Str)=V.str ("fractions":Str))=true by decide +kernel]
      refine iteT ?_
      intro x dx nx ndx nex
      exact k _ _ (f0n nx ndx) ⟨_,_,rfl,a0c⟩
    | re p hp hq' hi=>
      refine⟨_,rfl,_,_,_,_,rfl,rfl,SqT.of hq,rfl,rfl,_,rfl,?_⟩
      rw[show decide (V.str ("residues":Str)=V.str ("fractions":Str))=false by decide +kernel]
      refine iteF ?_
      refine⟨_,rfl,_,_,_,_,rfl,rfl,SqT.of hq,rfl,rfl,_,rfl,?_⟩
      rw[show decide (V.str ("residues":Str)=V.str ("residues":Str))=true by decide +kernel]
      refine iteT ?_
      refine⟨_,rfl,_,_,_,_,rfl,rfl,SqT.of hq,rfl,fun x dx nx ndx nex=>⟨x,dx,_,rfl,⟨hp,hq',hi⟩,a0c,rfl,?_⟩⟩
      rw[upd_upd]
      exact k _ _ (f0n nx ndx) ⟨_,_,rfl,a0c⟩
    | co=>
      refine⟨_,rfl,_,_,_,_,rfl,rfl,SqT.of hq,rfl,rfl,_,rfl,?_⟩
      rw[show decide (V.str ("costs":Str)=V.str ("fractions":Str))=false by decide +kernel]
      refine iteF ?_
      refine⟨_,rfl,_,_,_,_,rfl,rfl,SqT.of hq,rfl,rfl,_,rfl,?_⟩
      rw[show decide (V.str ("costs":Str)=V.str ("residues":Str))=false by decide +kernel]
      refine iteF ?_
      refine⟨_,rfl,_,_,_,_,rfl,rfl,SqT.of hq,rfl,rfl,_,rfl,?_⟩
      rw[show decide (V.str ("costs":Str)=V.str ("costs":Str))=true by decide +kernel]
      refine iteT ?_
      intro x dx nx ndx nex
      exact k _ _ (f0n nx ndx) ⟨_,_,rfl,a0c⟩
    | tr=>
      refine⟨_,rfl,_,_,_,_,rfl,rfl,SqT.of hq,rfl,rfl,_,rfl,?_⟩
      rw[show decide (V.str ("truths":Str)=V.str ("fractions":Str))=false by decide +kernel]
      refine iteF ?_
      refine⟨_,rfl,_,_,_,_,rfl,rfl,SqT.of hq,rfl,rfl,_,rfl,?_⟩
      rw[show decide (V.str ("truths":Str)=V.str ("residues":Str))=false by decide +kernel]
      refine iteF ?_
      refine⟨_,rfl,_,_,_,_,rfl,rfl,SqT.of hq,rfl,rfl,_,rfl,?_⟩
      rw[show decide (V.str ("truths":Str)=V.str ("costs":Str))=false by decide +kernel]
      refine iteF ?_
      intro x dx nx ndx nex
      exact k _ _ (f0n nx ndx) ⟨_,_,rfl,a0c⟩
def sp_lshown(T:Txt K mg t):Sp:=fun vs H Q _=>∃(R:RX w K mg base t),∃nm p so x d,So T R nm p∧vs=[so,x]∧(SortAt H so nm p∧WV H x d∧WQ R.way R.p d)∧∀H',Same H H'→Q (vT (wl d)) H'
theorem ok_law_shown(T:Txt K mg t):FnOk Pr w K mg base CX0 1 t.r0s t.p0j ["_law_sort_here","_law_x"] (sp_lshown (w:=w) (base:=base) T):=by
  refine T.o0j.ok sc_law_shown (fun vs H Q E h=>?_) (fun cdv A outer s H vs Q E hr h=>?_)
  · obtain⟨R,nm,p,so,x,d,_,rfl,_⟩:=h
    rfl
  · obtain⟨R,nm,p,so,x,d,hS,rfl,⟨⟨q,rfl,hq⟩,hx,hd⟩,k⟩:=h
    have z40:1000 < sizeLine:=by decide
    have wb:=hd.wb
    have k:∀H',Same H H'→Q (.str (wrt d)) H':=fun H' s'=>by
      have:=k H' s'
      rw[vT,wl_tx]at this
      exact this
    refine⟨_,(a0d (a0y (PW.pt (g0v (a0j b0j (b0d b0m (pv 0) a0f (fun _ _=>rfl)) a0m (a0l _)) (f0e (a0j e0f (b0d b0m (pv 1) a0f (fun _ _=>rfl)) a0f (a0l _))))) (a0g (a0o (b0c c0h (b0c c0h (a0z d0e (by rfl) T.z_str boot_str (a0a (b0d b0m (pv 1) a0f (fun _ _=>rfl)) a0b)) a0m) (a0z d0e (by rfl) T.z_str boot_str (a0a (b0d b0m (pv 1) a0f (fun _ _=>rfl)) a0b))))) a0n) (a0d (a0y (a0j b0j (b0d b0m (pv 0) a0f (fun _ _=>rfl)) a0m (a0l _)) (a0g (a0o (a0z d0e (by rfl) T.z_str boot_str (a0a (b0d b0m (pv 1) a0f (fun _ _=>rfl)) a0b)))) a0n) (a0d (a0y (a0j b0j (b0d b0m (pv 0) a0f (fun _ _=>rfl)) a0m (a0l _)) (a0g (a0o (b0d b0a (b0e (a0a a0m (a0a a0m a0b))) (a0z g0f (by rfl) T.z_int boot_int (a0a (pv 1) a0b)) (fun _ _=>rfl)))) a0n) (a0d (a0y (a0j op_isN (pv 1) e0e (a0l _)) (a0g (a0o a0m)) a0n) (a0g (a0o (a0z d0e (by rfl) T.z_str boot_str (a0a (pv 1) a0b)))))))),?_⟩
    refine⟨_,rfl,_,_,_,_,rfl,rfl,SqT.of hq,rfl,rfl,_,rfl,?_⟩
    cases hS with
    | fr=>
      rcases wb with ⟨_,a,b,rfl,ha,hb⟩ | ⟨z,_⟩ | ⟨z,_⟩ | ⟨z,_⟩ <;>try (exact absurd z (by show ¬(0:Int)=_;decide))
      obtain⟨px,rfl,hp⟩:=hx
      have k:=k H (Same.refl _)
      rw[wrt]at k
      have la:=ts_len ha
      have lb:=ts_len hb
      have l1:(Str.ofString "/").length=1:=rfl
      rw[show decide (V.str ("fractions":Str)=V.str ("fractions":Str))=true by decide +kernel]
      refine iteT ?_
      refine⟨_,rfl,_,_,_,_,rfl,rfl,SqT.of hp,rfl,rfl,_,rfl,?_⟩
      dsimp only
      refine iteNI (fun h=>?_) (fun h=>?_)
      · rw[if_neg h]at k
        refine⟨_,rfl,_,_,_,_,rfl,rfl,SqT.of hp,rfl,_,rfl,f0z ha,_,_,rfl,rfl,by show(ts a).length+_≤_;omega,?_⟩
        refine⟨_,rfl,_,_,_,_,rfl,rfl,SqT.of hp,rfl,_,rfl,f0z hb,_,_,rfl,rfl,by show(ts a++_).length+(ts b).length≤_;rw[Str.len_app];omega,?_⟩
        exact k
      · rw[if_pos h]at k
        refine⟨_,rfl,_,_,_,_,rfl,rfl,SqT.of hq,rfl,rfl,_,rfl,?_⟩
        rw[show decide (V.str ("fractions":Str)=V.str ("fractions":Str))=true by decide +kernel]
        refine iteT ?_
        exact⟨_,rfl,_,_,_,_,rfl,rfl,SqT.of hp,rfl,_,rfl,f0z ha,k⟩
    | re p hp hq' hi=>
      rcases wb with ⟨z,_⟩ | ⟨_,a,rfl,ha⟩ | ⟨z,_⟩ | ⟨z,_⟩ <;>try (exact absurd z (by show ¬(1:Int)=_;decide))
      obtain rfl:x=_:=hx
      rw[show decide (V.str ("residues":Str)=V.str ("fractions":Str))=false by decide +kernel]
      (try refine iteF ?_)
      (try refine iteF ?_)
      refine⟨_,rfl,_,_,_,_,rfl,rfl,SqT.of hq,rfl,rfl,_,rfl,?_⟩
      rw[show decide (V.str ("residues":Str)=V.str ("fractions":Str))=false by decide +kernel]
      refine iteF ?_
      refine⟨_,rfl,_,_,_,_,rfl,rfl,SqT.of hq,rfl,rfl,_,rfl,?_⟩
      rw[show decide (V.str ("residues":Str)=V.str ("truths":Str))=false by decide +kernel]
      refine iteF ?_
      refine⟨_,rfl,rfl,_,rfl,?_⟩
      (try refine iteF ?_)
      exact⟨_,rfl,_,rfl,f0z ha,k H (Same.refl _)⟩
    | co=>
      rw[show decide (V.str ("costs":Str)=V.str ("fractions":Str))=false by decide +kernel]
      (try refine iteF ?_)
      (try refine iteF ?_)
      refine⟨_,rfl,_,_,_,_,rfl,rfl,SqT.of hq,rfl,rfl,_,rfl,?_⟩
      rw[show decide (V.str ("costs":Str)=V.str ("fractions":Str))=false by decide +kernel]
      refine iteF ?_
      refine⟨_,rfl,_,_,_,_,rfl,rfl,SqT.of hq,rfl,rfl,_,rfl,?_⟩
      rw[show decide (V.str ("costs":Str)=V.str ("truths":Str))=false by decide +kernel]
      refine iteF ?_
      rcases wb with ⟨z,_⟩ | ⟨z,_⟩ | ⟨_,rfl | ⟨a,rfl,ha⟩⟩ | ⟨z,_⟩ <;>try (exact absurd z (by show ¬(2:Int)=_;decide))
      · obtain rfl:x=_:=hx
        refine⟨_,rfl,rfl,_,rfl,?_⟩
        (try refine iteT ?_)
        exact k H (Same.refl _)
      · obtain rfl:x=_:=hx
        refine⟨_,rfl,rfl,_,rfl,?_⟩
        (try refine iteF ?_)
        exact⟨_,rfl,_,rfl,f0z ha,k H (Same.refl _)⟩
    | tr=>
      rcases wb with ⟨z,_⟩ | ⟨z,_⟩ | ⟨z,_⟩ | ⟨_,b,rfl⟩ <;>try (exact absurd z (by show ¬(3:Int)=_;decide))
      obtain rfl:x=_:=hx
      rw[show decide (V.str ("truths":Str)=V.str ("fractions":Str))=false by decide +kernel]
      (try refine iteF ?_)
      (try refine iteF ?_)
      refine⟨_,rfl,_,_,_,_,rfl,rfl,SqT.of hq,rfl,rfl,_,rfl,?_⟩
      rw[show decide (V.str ("truths":Str)=V.str ("fractions":Str))=false by decide +kernel]
      refine iteF ?_
      refine⟨_,rfl,_,_,_,_,rfl,rfl,SqT.of hq,rfl,rfl,_,rfl,?_⟩
      rw[show decide (V.str ("truths":Str)=V.str ("truths":Str))=true by decide +kernel]
      refine iteT ?_
      refine⟨(by show 2≤sizeLine;decide),fun l0 n0=>?_⟩
      refine⟨_,rfl,.inr ⟨b,rfl,_,_,_,_,rfl,rfl,SqL.of a0c,?_,k _ (a0e n0)⟩⟩
      cases b <;>rfl
theorem four1{r:Int}(h0:0≤r)(h1:r < 4):∃m:Int,atI [V.int 2,V.int 10,V.int 1000,V.int (10 ^ (9:Int).toNat)] r=some (V.int m)∧0 < m:=by
  rcases(by omega:r=0∨r=1∨r=2∨r=3)with rfl | rfl | rfl | rfl
  · exact⟨2,rfl,by decide⟩
  · exact⟨10,rfl,by decide⟩
  · exact⟨1000,rfl,by decide⟩
  · exact⟨_,rfl,by decide⟩
theorem four2{r:Int}(h0:0≤r)(h1:r < 4):∃m:Int,atI [V.int 1,V.int 4,V.int (10 ^ (6:Int).toNat),V.int (10 ^ (9:Int).toNat)] r=some (V.int m)∧0 < m∧m≤1000000000:=by
  rcases(by omega:r=0∨r=1∨r=2∨r=3)with rfl | rfl | rfl | rfl
  · exact⟨1,rfl,by decide⟩
  · exact⟨4,rfl,by decide⟩
  · exact⟨_,rfl,by decide⟩
  · exact⟨_,rfl,by decide⟩
theorem two2{r:Int}(h0:0≤r)(h1:r < 2):∃m:Int,atI [V.int 1,V.int (10 ^ (9:Int).toNat+9)] r=some (V.int m)∧0 < m∧m≤1000000009:=by
  rcases(by omega:r=0∨r=1)with rfl | rfl
  · exact⟨1,rfl,by decide⟩
  · exact⟨_,rfl,by decide⟩
theorem four3{g r:Int}(h0:0≤r)(h1:r < 4):atI [V.int g,V.int g,V.int g,V.non] r=some (V.int g)∨atI [V.int g,V.int g,V.int g,V.non] r=some V.non:=by
  rcases(by omega:r=0∨r=1∨r=2∨r=3)with rfl | rfl | rfl | rfl
  · exact .inl rfl
  · exact .inl rfl
  · exact .inl rfl
  · exact .inr rfl
theorem g_one{r1 r2:Int}(a1:0≤r1)(b1:r1 < 10 ^ (9:Int).toNat)(a2:0≤r2)(b2:r2 < 10 ^ (9:Int).toNat):0≤r1 * 10 ^ (9:Int).toNat+r2∧r1 * 10 ^ (9:Int).toNat+r2 < 10 ^ 18:=by
  have e:(10:Int) ^ (9:Int).toNat=1000000000:=by decide
  have e2:(10:Int) ^ 18=1000000000000000000:=by decide
  rw[e]at b1 b2 ⊢
  rw[e2]
  omega
theorem g_two{g r3:Int}(h:0≤g∧g < 10 ^ 18)(a3:0≤r3)(b3:r3 < 10 ^ (9:Int).toNat):0≤g * 10 ^ (11:Int).toNat+r3∧g * 10 ^ (11:Int).toNat+r3 < 10 ^ 29:=by
  have e:(10:Int) ^ (9:Int).toNat=1000000000:=by decide
  have e1:(10:Int) ^ (11:Int).toNat=100000000000:=by decide
  have e2:(10:Int) ^ 18=1000000000000000000:=by decide
  have e3:(10:Int) ^ 29=100000000000000000000000000000:=by decide
  rw[e]at b3
  rw[e2]at h
  rw[e1,e3]
  omega
theorem g_abs{g:Int}(h:0≤g∧g < 10 ^ 29):g.natAbs < 10 ^ 29:=by
  have e3:(10:Int) ^ 29=100000000000000000000000000000:=by decide
  have e4:(10:Nat) ^ 29=100000000000000000000000000000:=by decide
  rw[e3]at h
  rw[e4]
  omega
theorem g_mod{g m:Int}(h:0≤g∧g < 10 ^ 29)(m0:0 < m):0≤g.fmod m∧g.fmod m < 10 ^ 29:=by
  refine⟨Int.fmod_nonneg_of_pos _ m0,?_⟩
  have:g.fmod m≤g:=by
    rw[Int.fmod_eq_emod_of_nonneg _ (by omega)]
    by_cases z:g < m
    · rw[Int.emod_eq_of_lt h.1 z];exact Int.le_refl _
    · have:=Int.emod_lt_of_pos g m0;omega
  omega
theorem b_one{r m:Int}(h0:0≤r)(h1:r < m)(hm:m≤1000000000){c:Int}(c0:0 < c)(c1:c≤1000000009):0 < (1+r) * c∧((1+r) * c).natAbs < 10 ^ 19:=by
  have p0:0 < (1+r) * c:=Int.mul_pos (by omega) c0
  have p1:(1+r) * c≤1000000000 * 1000000009:=Int.mul_le_mul (by omega) c1 (by omega) (by decide)
  have e4:(10:Nat) ^ 19=10000000000000000000:=by decide
  rw[e4]
  exact⟨p0,by omega⟩
def sp_lweight(T:Txt K mg t):Sp:=fun vs H Q _=>∃(R:RX w K mg base t),∃nm p,∃(a:Addr),∃so,So T R nm p∧vs=[.ref a,so]∧(Dr H a∧SortAt H so nm p)∧∀v H' d,SameX a H H'→Dr H' a→WV H' v d→WQ R.way R.p d→Q v H'
theorem Dr.ne{H:Hp}{a l:Addr}(d:Dr H a)(n:H l=none):l≠a:=fun e=>by
  obtain⟨xs,z⟩:=d.lst
  rw[← e,n]at z
  cases z
theorem d0s(T:Txt K mg t):FnOk Pr w K mg base CX0 5 t.p0t t.n0a ["_law_state_here","_law_sort_here"] (sp_lweight (w:=w) (base:=base) T):=by
  refine T.n0d.ok sc_law_weight (fun vs H Q E h=>?_) (fun cdv A outer s H vs Q E hr h=>?_)
  · obtain⟨R,nm,p,a,so,_,rfl,_⟩:=h
    rfl
  · obtain⟨R,nm,p,a,so,hS,rfl,⟨hD,⟨q,rfl,hq⟩⟩,k⟩:=h
    refine⟨_,(a0d (a0q (i:=2) sc_law_weight.nd rfl (Or.inl rfl) (b0c c0w (b0c i0u (a0p (a0r T) hr.m rfl T.p0r T.q0h.kp T.p0n .nil b0b (a0a (pv 0) (a0a (b0c e0v a0f a0f) a0b))) (b0c e0v a0f a0f)) (a0p (a0r T) hr.m rfl T.p0r T.q0h.kp T.p0n .nil b0b (a0a (pv 0) (a0a (b0c e0v a0f a0f) a0b))))) (a0d (a0q (i:=2) sc_law_weight.nd rfl (Or.inl rfl) (b0c c0w (b0c i0u (pv 2) (b0c e0v a0f a0f)) (a0p (a0r T) hr.m rfl T.p0r T.q0h.kp T.p0n .nil b0b (a0a (pv 0) (a0a (b0c e0v a0f a0f) a0b))))) (a0d (a0y (a0j b0j (a0p (a0r T) hr.m rfl T.p0r T.q0h.kp T.p0n .nil b0b (a0a (pv 0) (a0a a0f a0b))) a0f (a0l _)) (a0g (a0q (i:=2) sc_law_weight.nd rfl (Or.inl rfl) (b0c c0q (pv 2) (b0d b0a (b0e (a0a a0f (a0a a0f (a0a a0f (a0a (b0c e0v a0f a0f) a0b))))) (a0p (a0r T) hr.m rfl T.p0r T.q0h.kp T.p0n .nil b0b (a0a (pv 0) (a0a a0f a0b))) (fun _ _=>rfl))))) a0n) (a0d (a0y (a0j b0j (b0d b0m (pv 1) a0f (fun _ _=>rfl)) a0m (a0l _)) (a0g (a0o (c0p b0j (b0c c0q (pv 2) a0f) a0f (a0l _)))) a0n) (a0d (a0y (a0j b0j (b0d b0m (pv 1) a0f (fun _ _=>rfl)) a0m (a0l _)) (a0g (a0o (b0c c0q (pv 2) (b0d b0m (pv 1) a0f (fun _ _=>rfl))))) a0n) (a0d (a0y (a0j b0j (a0p (a0r T) hr.m rfl T.p0r T.q0h.kp T.p0n .nil b0b (a0a (pv 0) (a0a a0f a0b))) a0f (a0l _)) (a0g (a0q (i:=2) sc_law_weight.nd rfl (Or.inl rfl) (pe_un un_neg (pv 2)))) a0n) (a0d (a0y (a0j b0j (b0d b0m (pv 1) a0f (fun _ _=>rfl)) a0m (a0l _)) (a0g (a0o (b0d b0a (b0e (a0a (pv 2) (a0a (pv 2) (a0a (pv 2) (a0a e0e a0b))))) (a0p (a0r T) hr.m rfl T.p0r T.q0h.kp T.p0n .nil b0b (a0a (pv 0) (a0a a0f a0b))) (fun _ _=>rfl)))) a0n) (a0d (a0q (i:=3) sc_law_weight.nd rfl (Or.inl rfl) (b0c c0w a0f (a0p (a0r T) hr.m rfl T.p0r T.q0h.kp T.p0n .nil b0b (a0a (pv 0) (a0a (b0d b0a (b0e (a0a a0f (a0a a0f (a0a (b0c e0v a0f a0f) (a0a (b0c e0v a0f a0f) a0b))))) (a0p (a0r T) hr.m rfl T.p0r T.q0h.kp T.p0n .nil b0b (a0a (pv 0) (a0a a0f a0b))) (fun _ _=>rfl)) a0b))))) (a0g (a0o (a0p (ok_law_low T) hr.m rfl T.r0u T.r0z.kp T.r0r .nil b0b (a0a (pv 2) (a0a (b0c i0u (pv 3) (b0d b0a (b0e (a0a a0f (a0a (b0c c0w (b0c e0v a0f a0f) a0f) a0b))) (a0p (a0r T) hr.m rfl T.p0r T.q0h.kp T.p0n .nil b0b (a0a (pv 0) (a0a a0f a0b))) (fun _ _=>rfl))) a0b))))))))))))),?_⟩
    refine⟨_,rfl,_,_,rfl,rfl,⟨by decide,by decide,by decide⟩,a,_,rfl,⟨hD,by decide,by decide⟩,fun r1 H1 s1 d1 a1 b1=>?_⟩
    refine⟨_,_,rfl,rfl,⟨by decide,by decide,by decide⟩,_,_,rfl,rfl,.inr ⟨by decide,by decide⟩,_,rfl,_,_,rfl,rfl,⟨by decide,by decide,by decide⟩,a,_,rfl,⟨d1,by decide,by decide⟩,fun r2 H2 s2 d2 a2 b2=>?_⟩
    refine⟨_,_,rfl,rfl,?_⟩
    show b0l 2 (.int (r1 * 10 ^ (9:Int).toNat+r2)) [some (.ref a),some (.ref q),none,none] H2 _
    have g1:=g_one a1 b1 a2 b2
    have q2:=s1.trans s2
    revert g1
    generalize r1 * 10 ^ (9:Int).toNat+r2=g0
    intro g1
    refine⟨_,rfl,_,_,rfl,rfl,⟨by decide,by decide,by decide⟩,_,_,rfl,rfl,.inr ⟨by decide,by decide⟩,_,rfl,_,_,rfl,rfl,⟨by decide,by decide,by decide⟩,a,_,rfl,⟨d2,by decide,by decide⟩,fun r3 H3 s3 d3 a3 b3=>?_⟩
    refine⟨_,_,rfl,rfl,?_⟩
    show b0l 2 (.int (g0 * 10 ^ (11:Int).toNat+r3)) [some (.ref a),some (.ref q),some (.int g0),none] H3 _
    have g2:=g_two g1 a3 b3
    have q3:=q2.trans s3
    revert g2
    generalize g0 * 10 ^ (11:Int).toNat+r3=g1'
    intro g2
    refine⟨_,rfl,a,2,rfl,⟨d3,by decide,by decide⟩,fun r4 H4 s4 d4 a4 b4=>⟨rfl,_,rfl,?_⟩⟩
    have q4:=q3.trans s4
    refine(fun(key:∀g H',(0≤g∧g < 10 ^ 29)→SameX a H H'→Dr H' a→(?F:L2.St→Hp→Prop) [some (.ref a),some (.ref q),some (.int g),none] H')=>?main) ?rest
    case main=>
      refine iteI (fun _=>?_) (fun _=>?_)
      · refine⟨_,rfl,_,_,rfl,rfl,⟨by decide,by decide,by decide⟩,(by show 4≤sizeLine;decide),fun l0 h0=>?_⟩
        have e0:=a0e (o:=.lst [V.int 2,V.int 10,V.int 1000,V.int (10 ^ (9:Int).toNat)]) h0
        refine⟨_,rfl,a,4,rfl,⟨d4.same e0,by decide,by decide⟩,fun r5 H5 s5 d5 a5 b5=>?_⟩
        obtain⟨m,am,m0⟩:=four1 a5 b5
        refine⟨_,_,_,_,rfl,rfl,SqL.of (s5 _ _ (d4.ne h0) a0c),am,_,_,rfl,rfl,(show m≠0 by omega),?_⟩
        exact key _ _ (g_mod g2 m0) ((q4.trans (.of e0)).trans s5) d5
      · exact key _ _ g2 q4 d4
    case rest=>
    intro g H5 hg q5 d5
    have hq5:=q5.tt hD _ _ hq
    refine⟨_,rfl,_,_,_,_,rfl,rfl,SqT.of hq5,rfl,rfl,_,rfl,?_⟩
    cases hS with
    | tr=>
      rw[show decide (V.str ("truths":Str)=V.str ("truths":Str))=true by decide +kernel]
      refine iteT ?_
      refine⟨_,rfl,_,_,rfl,rfl,(show(2:Int)≠0 by decide),rfl,?_⟩
      exact k _ _ (.bool (decide (V.int (g.fmod 2)=V.int 0))) q5 d5 rfl (.inr (.inr (.inr ⟨rfl,_,rfl⟩)))
    | re p hp hq' hi=>
      rw[show decide (V.str ("residues":Str)=V.str ("truths":Str))=false by decide +kernel]
      refine iteF ?_
      refine⟨_,rfl,_,_,_,_,rfl,rfl,SqT.of hq5,rfl,rfl,_,rfl,?_⟩
      rw[show decide (V.str ("residues":Str)=V.str ("residues":Str))=true by decide +kernel]
      refine iteT ?_
      refine⟨_,rfl,_,rfl,_,_,_,_,rfl,rfl,SqT.of hq5,rfl,_,_,rfl,rfl,(show p≠0 by omega),?_⟩
      exact k _ _ (.int (g.fmod p)) q5 d5 rfl (.inr (.inl ⟨rfl,_,rfl,Int.fmod_nonneg_of_pos _ (by omega),Int.fmod_lt_of_pos _ (show 0 < p by omega),hq'⟩))
    | co=>
      rw[show decide (V.str ("costs":Str)=V.str ("truths":Str))=false by decide +kernel]
      refine iteF ?_
      refine⟨_,rfl,_,_,_,_,rfl,rfl,SqT.of hq5,rfl,rfl,_,rfl,?_⟩
      rw[show decide (V.str ("costs":Str)=V.str ("residues":Str))=false by decide +kernel]
      refine iteF ?_
      refine⟨_,rfl,a,2,rfl,⟨d5,by decide,by decide⟩,fun r6 H6 s6 d6 a6 b6=>⟨rfl,_,rfl,?_⟩⟩
      have q6:=q5.trans s6
      refine(fun(key:∀g':Int,g'.natAbs < 10 ^ 29→(?F1:L2.St→Hp→Prop) [some (.ref a),some (.ref q),some (.int g'),none] H6)=>?main1) ?rest1
      case main1=>
        refine iteI (fun _=>?_) (fun _=>?_)
        · refine⟨_,rfl,_,rfl,?_⟩
          exact key (-g) (by rw[Int.natAbs_neg];exact g_abs hg)
        · exact key g (g_abs hg)
      case rest1=>
      intro g' hg'
      have hq6:=q6.tt hD _ _ hq
      refine⟨_,rfl,_,_,_,_,rfl,rfl,SqT.of hq6,rfl,rfl,_,rfl,?_⟩
      rw[show decide (V.str ("costs":Str)=V.str ("costs":Str))=true by decide +kernel]
      refine iteT ?_
      refine⟨_,rfl,_,rfl,_,rfl,(by show 4≤sizeLine;decide),fun l0 h0=>?_⟩
      have e0:=a0e (o:=.lst [V.int g',V.int g',V.int g',V.non]) h0
      refine⟨_,rfl,a,4,rfl,⟨d6.same e0,by decide,by decide⟩,fun r7 H7 s7 d7 a7 b7=>?_⟩
      have q7:=(q6.trans (.of e0)).trans s7
      rcases four3 (g:=g') a7 b7 with am | am
      · exact⟨_,_,_,_,rfl,rfl,SqL.of (s7 _ _ (d6.ne h0) a0c),am,k _ _ (.int g') q7 d7 rfl (.inr (.inr (.inl ⟨rfl,.inr ⟨_,rfl,hg'⟩⟩)))⟩
      · exact⟨_,_,_,_,rfl,rfl,SqL.of (s7 _ _ (d6.ne h0) a0c),am,k _ _ .none q7 d7 rfl (.inr (.inr (.inl ⟨rfl,.inl rfl⟩)))⟩
    | fr=>
      rw[show decide (V.str ("fractions":Str)=V.str ("truths":Str))=false by decide +kernel]
      refine iteF ?_
      refine⟨_,rfl,_,_,_,_,rfl,rfl,SqT.of hq5,rfl,rfl,_,rfl,?_⟩
      rw[show decide (V.str ("fractions":Str)=V.str ("residues":Str))=false by decide +kernel]
      refine iteF ?_
      refine⟨_,rfl,a,2,rfl,⟨d5,by decide,by decide⟩,fun r6 H6 s6 d6 a6 b6=>⟨rfl,_,rfl,?_⟩⟩
      have q6:=q5.trans s6
      refine(fun(key:∀g':Int,g'.natAbs < 10 ^ 29→(?F2:L2.St→Hp→Prop) [some (.ref a),some (.ref q),some (.int g'),none] H6)=>?main2) ?rest2
      case main2=>
        refine iteI (fun _=>?_) (fun _=>?_)
        · refine⟨_,rfl,_,rfl,?_⟩
          exact key (-g) (by rw[Int.natAbs_neg];exact g_abs hg)
        · exact key g (g_abs hg)
      case rest2=>
      intro g' hg'
      have hq6:=q6.tt hD _ _ hq
      refine⟨_,rfl,_,_,_,_,rfl,rfl,SqT.of hq6,rfl,rfl,_,rfl,?_⟩
      rw[show decide (V.str ("fractions":Str)=V.str ("costs":Str))=false by decide +kernel]
      refine iteF ?_
      refine⟨_,rfl,_,_,rfl,rfl,⟨by decide,by decide,by decide⟩,_,_,rfl,rfl,⟨by decide,by decide,by decide⟩,(by show 4≤sizeLine;decide),fun l0 h0=>?_⟩
      have e0:=a0e (o:=.lst [V.int 1,V.int 4,V.int (10 ^ (6:Int).toNat),V.int (10 ^ (9:Int).toNat)]) h0
      refine⟨_,rfl,a,4,rfl,⟨d6.same e0,by decide,by decide⟩,fun r7 H7 s7 d7 a7 b7=>?_⟩
      obtain⟨m,am,m0,m1⟩:=four2 a7 b7
      have q7:=(q6.trans (.of e0)).trans s7
      refine⟨_,_,_,_,rfl,rfl,SqL.of (s7 _ _ (d6.ne h0) a0c),am,a,m,rfl,⟨d7,m0,by omega⟩,fun r8 H8 s8 d8 a8 b8=>?_⟩
      have q8:=q7.trans s8
      refine⟨_,_,rfl,rfl,?_⟩
      refine⟨_,rfl,_,rfl,_,_,rfl,rfl,⟨by decide,by decide,by decide⟩,_,_,rfl,rfl,(by show 2≤sizeLine;decide),fun l1 h1=>?_⟩
      have e1:=a0e (o:=.lst [V.int 1,V.int (10 ^ (9:Int).toNat+9)]) h1
      refine⟨_,rfl,a,2,rfl,⟨d8.same e1,by decide,by decide⟩,fun r9 H9 s9 d9 a9 b9=>?_⟩
      obtain⟨c,ac,c0,c1⟩:=two2 a9 b9
      have q9:=(q8.trans (.of e1)).trans s9
      obtain⟨p0,p1⟩:=b_one a8 b8 m1 c0 c1
      refine⟨_,_,_,_,rfl,rfl,SqL.of (s9 _ _ (d8.ne h1) a0c),ac,_,_,rfl,rfl,.inr ⟨by omega,by omega⟩,_,_,rfl,⟨b30 (u29 hg'),b30 (u19 p1),p0⟩,fun v H' s' wv=>?_⟩
      refine k v H' _ (q9.trans (.of s')) (d9.same s') wv (.inl ⟨rfl,_,_,rfl,Nat.lt_of_le_of_lt (tp_le (by omega)) hg',Nat.lt_of_le_of_lt (bt_le (by omega)) p1,bt_pos (by omega),low (by omega)⟩)
structure GD(k:Nat)(d:PyData):Prop where
  lay:d.canLay0=true
  dep:d.depth≤k
  mix:noMix d d=true
theorem gD_all{k:Nat}:∀{ds:List PyData},(∀d∈ds,GD k d)→PyData.canLayAll0 ds=true∧PyData.depthAll ds≤k∧noMixAll ds ds=true
  | [],_=>⟨by simp[PyData.canLayAll0],by simp[PyData.depthAll],by simp[noMixAll]⟩
  | d::ds,h=>by
    obtain⟨a,b,c⟩:=gD_all (ds:=ds) fun x hx=>h x (List.mem_cons_of_mem _ hx)
    have g:=h d (List.mem_cons_self ..)
    have gd:=g.dep
    exact⟨by simp[PyData.canLayAll0,g.lay,a],by simp only[PyData.depthAll];omega,by simp[noMixAll,g.mix,c]⟩
theorem GD.tup{k:Nat}{ds:List PyData}(h:∀d∈ds,GD k d):GD (k+1) (.tuple ds):=by
  obtain⟨a,b,c⟩:=gD_all h
  exact⟨by simp[PyData.canLay0,a],by simp only[PyData.depth];omega,by simp[noMix,c]⟩
theorem GD.up{j k:Nat}{d:PyData}(h:GD j d)(e:j≤k):GD k d:=⟨h.lay,Nat.le_trans h.dep e,h.mix⟩
theorem GD.sh{k:Nat}{d:PyData}(h:GD k d)(e:k≤64):shaped d=true:=by
  have hd:=h.dep
  unfold shaped
  rw[h.lay,decide_eq_true (by omega)];rfl
theorem wd_gd{d:PyData}(h:WDt d):GD 2 d:=by
  rcases h with rfl | ⟨b,rfl⟩ | ⟨i,rfl⟩ | ⟨a,b,rfl⟩
  · exact⟨by simp[PyData.canLay0],by simp[PyData.depth],by simp[noMix]⟩
  · exact⟨by simp[PyData.canLay0],by simp[PyData.depth],by simp[noMix]⟩
  · exact⟨by simp[PyData.canLay0],by simp[PyData.depth],by simp[noMix]⟩
  · exact⟨by simp[PyData.canLay0,PyData.canLayAll0],by simp[PyData.depth,PyData.depthAll],by simp[noMix,noMixAll]⟩
theorem isAll_lt{α:Type}{H:Hp}{f:α→PyData}:∀(vs:List V) (m:List α),vs.length=m.length→(∀(j:Nat) (u:V),vs[j]? = some u→∃r,m[j]? = some r∧Is K H u (f r))→IsAll K H vs (m.map f)
  | [],[],_,_=>.nil
  | [],_::_,h,_=>by simp at h
  | _::_,[],h,_=>by simp at h
  | v::vs,r::m,h,k=>by
    obtain⟨r',e,i⟩:=k 0 v rfl
    have e:r=r':=by simpa using e
    subst e
    exact .cons i (isAll_lt vs m (by simpa using h) fun j u e=>by
      obtain⟨q,e1,e2⟩:=k (j+1) u (by simpa using e)
      exact⟨q,by simpa using e1,e2⟩)
theorem lt_is{α:Type}{Pd:α→V→Hp→Prop}{m:List α}{v:V}{H:Hp}{f:α→PyData}(h:LT Pd m v H)(k:∀r u,Pd r u H→Is K H u (f r)):Is K H v (.tuple (m.map f)):=by
  obtain⟨p,vs,rfl,hp,e⟩:=h
  refine .tup (SqT.of hp) (isAll_lt vs m e.1 fun j u ej=>?_)
  obtain⟨_,r,e1,e2⟩:=e.at ej
  exact⟨r,e1,k r u e2⟩
theorem RowV.is{ds:List PyData}{v:V}{H:Hp}(h:RowV ds v H):Is K H v (.tuple ds):=by
  have:=lt_is (K:=K) (f:=fun d=>d) h fun r u q=>q.is q.wd
  rw[List.map_id']at this
  exact this
def tabD(m:List (List PyData)):PyData:=.tuple (m.map PyData.tuple)
theorem TabV.is{m:List (List PyData)}{v:V}{H:Hp}(h:TabV m v H):Is K H v (tabD m):=lt_is h fun r u q=>RowV.is q
def machD(l:List Nat)(st:List PyData)(ts:List (List (List PyData)))(en:List PyData):PyData:=.tuple [.str (tx l),.tuple st,.tuple (ts.map tabD),.tuple en]
theorem MV.is{l:List Nat}{st:List PyData}{ts:List (List (List PyData))}{en:List PyData}{v:V}{H:Hp}(h:MV l st ts en v H):Is K H v (machD l st ts en):=by
  obtain⟨p,s,tv,e,rfl,hp,h1,h2,h3⟩:=h
  exact .tup (SqT.of hp) (.cons (.str _) (.cons h1.is (.cons (lt_is h2 fun r u q=>TabV.is q) (.cons h3.is .nil))))
theorem row_GD{ds:List PyData}{way p:Int}(h:RG ds way p):GD 3 (.tuple ds):=GD.tup fun d hd=>wd_gd (h.wq d hd).wb.wd
theorem tab_GD{m:List (List PyData)}{n:Nat}{way p:Int}(h:TG' m n way p):GD 4 (tabD m):=GD.tup fun d hd=>by
  obtain⟨r,hr,rfl⟩:=List.mem_map.mp hd
  exact row_GD (h.rg r hr).2
theorem nm_nil(ds:List PyData):noMix (.tuple ds) (.tuple [])=true:=by cases ds <;>simp[noMix,noMixAll]
theorem same_nil(ds:List PyData):PySem.Spec.same (.tuple ds) (.tuple [])=decide (ds=[]):=by cases ds <;>simp[PySem.Spec.same,PySem.Spec.sameAll]
def WOk(R:RX w K mg base t)(ds:List PyData):Prop:=∀d∈ds,WQ R.way R.p d
theorem WOk.snoc{R:RX w K mg base t}{ds:List PyData}{d:PyData}(h:WOk R ds)(q:WQ R.way R.p d):WOk R (ds++[d]):=fun x hx=>by
  rcases List.mem_append.mp hx with hx | hx
  · exact h x hx
  · rw[List.mem_singleton.mp hx];exact q
def sp_lmachine(T:Txt K mg t):Sp:=fun vs H Q _=>∃(R:RX w K mg base t),∃nm p,∃(a:Addr),∃so l,∃(n:Nat),∃(z:Int),So T R nm p∧vs=[.ref a,so,vT l,.int z]∧(Dr H a∧SortAt H so nm p∧AZ l∧n≤20∧z=n)∧∀v H' st ts en,SameX a H H'→Dr H' a→MV l st ts en v H'→MG l n st ts en R.way R.p→Q v H'
theorem i0k(T:Txt K mg t):FnOk Pr w K mg base CX0 6 t.o0q t.m0e ["_law_state_here","_law_sort_here","_law_letters_here","_law_many"] (sp_lmachine (w:=w) (base:=base) T):=by
  refine T.m0x.ok sc_law_machine (fun vs H Q E h=>?_) (fun cdv A outer s H vs Q E hr h=>?_)
  · obtain⟨R,nm,p,a,so,l,n,z,_,rfl,_⟩:=h
    rfl
  · obtain⟨R,nm,p,a,so,l,n,z,hS,rfl,⟨hD,hso,Z,hn,rfl⟩,k⟩:=h
    have L:=Z.lo
    have l3:=L.h3
    have z20:1000 < sizeLine:=by decide
    refine⟨_,(a0d (a0q (i:=4) sc_law_machine.nd rfl (Or.inl rfl) (a0z b0g (by rfl) T.z_tuple boot_tuple (a0a (pe_hide 8 "#1" (d0q (xs:=["_law_k"]) rfl (show c0f ["_law_state_here","_law_sort_here","_law_letters_here","_law_many","_law_start","_law_tables","_law_letter","_law_table","#1"] (a0i b0w) _ from⟨rfl,by decide +kernel,by decide +kernel,by decide +kernel,by decide +kernel,by decide +kernel⟩) (d0g rfl T.z_range (a0a (pv 3) a0b)) (fun _ _ _ _ _=>(b0i (i:=9) (by show List.Nodup (["_law_state_here","_law_sort_here","_law_letters_here","_law_many","_law_start","_law_tables","_law_letter","_law_table","#1","_law_k"]:List Str);decide +kernel) rfl (Or.inl rfl))) (fun _ _ _ _ _=>(a0p (d0s (w:=w) (base:=base) T) hr.m rfl T.o0b T.n0d.kp T.o0c .nil b0b (a0a (pv 0) (a0a (pv 1) a0b)))))) a0b))) (a0d (a0q (i:=5) sc_law_machine.nd rfl (Or.inl rfl) (b0e a0b)) (a0d (g0w PassesOwn.never rfl (pi_str (pv 2)) (b0i (i:=6) sc_law_machine.nd rfl (Or.inl rfl)) (a0d (a0q (i:=7) sc_law_machine.nd rfl (Or.inl rfl) (b0e a0b)) (a0d (g0w PassesOwn.never rfl (d0g rfl T.z_range (a0a (pv 3) a0b)) (b0i (i:=8) sc_law_machine.nd rfl (Or.inl rfl)) (a0g (d0p (c0s PySem.F.plainAttrs_list PySem.F.slot_list_append PySem.F.type_list_append f0x (pv 7) (a0a (a0z b0g (by rfl) T.z_tuple boot_tuple (a0a (d0q (xs:=["_law_j"]) rfl (show c0f ["_law_state_here","_law_sort_here","_law_letters_here","_law_many","_law_start","_law_tables","_law_letter","_law_table","_law_k"] (a0i b0w) _ from⟨rfl,by decide +kernel,by decide +kernel,by decide +kernel,by decide +kernel,by decide +kernel⟩) (d0g rfl T.z_range (a0a (pv 3) a0b)) (fun _ _ _ _ _=>(b0i (i:=9) (by show List.Nodup (["_law_state_here","_law_sort_here","_law_letters_here","_law_many","_law_start","_law_tables","_law_letter","_law_table","_law_k","_law_j"]:List Str);decide +kernel) rfl (Or.inl rfl))) (fun _ _ _ _ _=>(a0p (d0s (w:=w) (base:=base) T) hr.m rfl T.o0b T.n0d.kp T.o0c .nil b0b (a0a (pv 0) (a0a (pv 1) a0b))))) a0b)) a0b))))) (a0g (d0p (c0s PySem.F.plainAttrs_list PySem.F.slot_list_append PySem.F.type_list_append f0x (pv 5) (a0a (a0z b0g (by rfl) T.z_tuple boot_tuple (a0a (pv 7) a0b)) a0b))))))) (a0g (ps_forget 8 (a0o (b0u (a0a (pv 2) (a0a (pv 4) (a0a (a0z b0g (by rfl) T.z_tuple boot_tuple (a0a (pv 5) a0b)) (a0a (a0z b0g (by rfl) T.z_tuple boot_tuple (a0a (pe_hide 8 "#1" (d0q (xs:=["_law_k"]) rfl (show c0f ["_law_state_here","_law_sort_here","_law_letters_here","_law_many","_law_start","_law_tables","_law_letter","_law_table","#1"] (a0i b0w) _ from⟨rfl,by decide +kernel,by decide +kernel,by decide +kernel,by decide +kernel,by decide +kernel⟩) (d0g rfl T.z_range (a0a (pv 3) a0b)) (fun _ _ _ _ _=>(b0i (i:=9) (by show List.Nodup (["_law_state_here","_law_sort_here","_law_letters_here","_law_many","_law_start","_law_tables","_law_letter","_law_table","#1","_law_k"]:List Str);decide +kernel) rfl (Or.inl rfl))) (fun _ _ _ _ _=>(a0p (d0s (w:=w) (base:=base) T) hr.m rfl T.o0b T.n0d.kp T.o0c .nil b0b (a0a (pv 0) (a0a (pv 1) a0b)))))) a0b)) a0b))))))))))),?_⟩
    refine⟨rfl,_,rfl,_,rfl,(by omega),(by omega),d0t (n:=n) (fun j ys H2=>∃ds,SameX a H H2∧Dr H2 a∧Ents (fun i u H=>∃r,ds[i]? = some r∧WV H u r) ys ds.length H2∧ds.length=j∧WOk R ds) (by omega) ⟨[],SameX.refl _ _,hD,Ents.nil,rfl,fun _ h=>by cases h⟩ (fun j ys H2 ⟨ds,_,_,q,e,_⟩=>by rw[q.1,e]) ?_ ?_ ?_⟩
    · rintro j ys H2 hj ⟨ds,q,d2,e2,ed,ew⟩
      refine⟨(show j < (n:Int).toNat by omega),fun y H' hy=>?_⟩
      obtain⟨rfl,rfl⟩:=hy
      refine⟨⟨[some _],rfl,rfl⟩,_,rfl,_,rfl,R,nm,p,a,so,hS,rfl,⟨d2,hso.same (q.tt hD)⟩,fun v H3 d s3 d3 wv wq=>?_⟩
      exact⟨ds++[d],q.trans s3,d3,c0e (Pd:=fun d u H=>WV H u d) e2 (fun _ _ z=>z.st (s3.tt d2)) wv,by simp[ed],ew.snoc wq⟩
    · rintro ys H2 ⟨ds,q,d2,e2,ed,ew⟩
      show(n:Int).toNat≤n
      omega
    rintro ys0 H0 l0 ⟨st,q0,d0,e0,stl,stw⟩ nl0
    have t1:=a0e (o:=.lst ys0) nl0
    refine⟨l0,_,rfl,.inl ⟨SqL.of a0c,fun sp nsp=>?_⟩⟩
    have t2:=t1.trans (a0e (o:=.tup ys0) nsp)
    have r1:RowV st (.ref sp) (upd (upd H0 l0 (.lst ys0)) sp (.tup ys0)):=⟨sp,ys0,rfl,a0c,e0.mono fun _ _ _ ⟨r,e1,e2⟩=>⟨r,e1,e2.st t2.t⟩⟩
    have s1:SameX a H (upd (upd H0 l0 (.lst ys0)) sp (.tup ys0)):=q0.trans (.of t2)
    have d1:=d0.same t2
    clear t1 t2 nl0 nsp
    revert r1 s1 d1
    generalize upd (upd H0 l0 (.lst ys0)) sp (.tup ys0)=H1
    intro r1 s1 d1
    refine⟨Nat.zero_le _,fun tp ntp=>?_⟩
    have s2:=a0e (o:=.lst []) ntp
    have k2:=a0c (H:=H1) (a:=tp) (o:=.lst [])
    have d2:=d1.same s2
    have na:tp≠a:=d1.ne ntp
    revert s2 k2 d2
    generalize upd H1 tp (.lst [])=H2
    intro s2 k2 d2
    refine⟨_,rfl,_,rfl,L.asc',for_it (n:=l.length) (fun i σ H3=>∃v6 v7 v8 ys ts,σ=[some (.ref a),some so,some (vT l),some (.int n),some (.ref sp),some (.ref tp),v6,v7,v8]∧SameX a H1 H3∧Dr H3 a∧H3 tp=some (.lst ys)∧
      Ents (fun i u H=>∃r,ts[i]? = some r∧TabV r u H) ys ts.length H3∧ts.length=i∧∀m∈ts,TG' m n R.way R.p) ⟨_,_,_,[],[],rfl,.of s2,d2,k2,Ents.nil,rfl,fun _ h=>by cases h⟩ ?_ ?_⟩
    · rintro i σ H3 hi ⟨v6,v7,v8,ys,ts,rfl,s3,d3,k3,e3,t3,g3⟩
      refine⟨(by show i < l.toArray.size;simpa using hi),fun y G3 hy=>?_⟩
      obtain⟨rfl,c,hc,rfl⟩:=hy
      refine⟨Nat.zero_le _,fun bp nbp=>?_⟩
      have s4:=a0e (o:=.lst []) nbp
      have k4:=a0c (H:=G3) (a:=bp) (o:=.lst [])
      have d4:=d3.same s4
      have nb:bp≠a:=d3.ne nbp
      have nt:tp≠bp:=fun z=>by rw[z,nbp]at k3;cases k3
      revert s4 k4 d4
      generalize upd G3 bp (.lst [])=H4
      intro s4 k4 d4
      refine⟨_,rfl,_,rfl,(by omega),(by omega),for_it (n:=n) (fun j σ H5=>∃v8 zs m,σ=[some (.ref a),some so,some (vT l),some (.int n),some (.ref sp),some (.ref tp),some (.str ⟨#[c]⟩),some (.ref bp),v8]∧SameX a G3 H5∧Dr H5 a∧H5 bp=some (.lst zs)∧
        Ents (fun i u H=>∃r,m[i]? = some r∧RowV r u H) zs m.length H5∧m.length=j∧∀r∈m,r.length=n∧RG r R.way R.p) ⟨_,[],[],rfl,.of s4,d4,k4,Ents.nil,rfl,fun _ h=>by cases h⟩ ?_ ?_⟩
      · rintro j σ H5 hj ⟨v8,zs,m,rfl,s5,d5,k5,e5,t5,g5⟩
        refine⟨(show j < (n:Int).toNat by omega),fun y G5 hy=>?_⟩
        obtain⟨rfl,rfl⟩:=hy
        refine⟨_,rfl,.inl ⟨rfl,_,SqL.of k5⟩,?_⟩
        refine⟨_,rfl,_,rfl,(by omega),(by omega),d0t (n:=n) (fun j ys H2=>∃ds,SameX a G5 H2∧Dr H2 a∧Ents (fun i u H=>∃r,ds[i]? = some r∧WV H u r) ys ds.length H2∧ds.length=j∧WOk R ds) (by omega) ⟨[],SameX.refl _ _,d5,Ents.nil,rfl,fun _ h=>by cases h⟩ (fun j ys H2 ⟨ds,_,_,q,e,_⟩=>by rw[q.1,e]) ?_ ?_ ?_⟩
        · rintro j' ys' H2 hj' ⟨ds,q,d2,e2,ed,ew⟩
          refine⟨(show j' < (n:Int).toNat by omega),fun y H' hy=>?_⟩
          obtain⟨rfl,rfl⟩:=hy
          have u1:=((((s1.trans s3).trans s5).trans q).tt hD)
          refine⟨⟨[some _],rfl,rfl⟩,_,rfl,_,rfl,R,nm,p,a,so,hS,rfl,⟨d2,hso.same u1⟩,fun v H3 d s3 d3 wv wq=>?_⟩
          exact⟨ds++[d],q.trans s3,d3,c0e (Pd:=fun d u H=>WV H u d) e2 (fun _ _ z=>z.st (s3.tt d2)) wv,by simp[ed],ew.snoc wq⟩
        · rintro ys' H2 ⟨ds,q,d2,e2,ed,ew⟩
          show(n:Int).toNat≤n
          omega
        · rintro ys' H6 lp ⟨b,s6,d6,e6,b6,g6⟩ nl
          have t1:=a0e (o:=.lst ys') nl
          refine⟨lp,_,rfl,.inl ⟨SqL.of a0c,fun l2 n2=>?_⟩⟩
          have t2:=a0e (o:=.tup ys') n2
          have t12:=t1.trans t2
          have k6:=t12 _ _ (s6 bp _ nb k5)
          have hr6:RowV b (.ref l2) (upd (upd H6 lp (.lst ys')) l2 (.tup ys')):=⟨l2,ys',rfl,a0c,e6.mono fun _ _ _ ⟨r,q1,q2⟩=>⟨r,q1,q2.st t12.t⟩⟩
          have d6':=d6.same t12
          have s6':SameX a G5 (upd (upd H6 lp (.lst ys')) l2 (.tup ys')):=s6.trans (.of t12)
          clear t1 t2 t12 nl n2
          revert k6 hr6 d6' s6'
          generalize upd (upd H6 lp (.lst ys')) l2 (.tup ys')=H7
          intro k6 hr6 d6' s6'
          refine⟨bp,zs,_,rfl,rfl,k6,(by rw[e5.1,t5];omega),?_⟩
          have nx:∀o,SameT H7 (upd H7 bp (.lst o)):=fun o p vs hp=>by
            by_cases q:p=bp
            · subst q;rw[hp]at k6;cases k6
            · rw[a0w q];exact hp
          refine⟨_,zs++[.ref l2],m++[b],rfl,fun c' o nc hc'=>?_,?_,a0c,c0e e5 (fun _ _ h=>(h.same (s6'.tt d5)).same (nx _)) (hr6.same (nx _)),by simp[t5],fun x hx=>?_⟩
          · rw[a0w (a0t hc' nbp)];exact s6' c' o nc (s5 c' o nc hc')
          · obtain⟨x,q⟩:=d6'
            exact⟨x,by rw[a0w (Ne.symm nb)];exact q⟩
          · rcases List.mem_append.mp hx with hx | hx
            · exact g5 x hx
            · rw[List.mem_singleton.mp hx];exact⟨b6,by omega,g6⟩
      · rintro σ H5 ⟨v8,zs,m,rfl,s5,d5,k5,e5,t5,g5⟩
        refine⟨(by show(n:Int).toNat≤n;omega),?_⟩
        have k5t:=s5 tp _ na k3
        refine⟨_,rfl,.inl ⟨rfl,_,SqL.of k5t⟩,_,rfl,bp,zs,rfl,.inl ⟨SqL.of k5,fun l2 n2=>?_⟩⟩
        have t2:=a0e (o:=.tup zs) n2
        have k6:=t2 _ _ k5t
        have ht6:TabV m (.ref l2) (upd H5 l2 (.tup zs)):=⟨l2,zs,rfl,a0c,e5.mono fun _ _ _ ⟨r,q1,q2⟩=>⟨r,q1,q2.same t2.t⟩⟩
        have d6:=d5.same t2
        have s6:SameX a G3 (upd H5 l2 (.tup zs)):=s5.trans (.of t2)
        clear t2 n2
        revert k6 ht6 d6 s6
        generalize upd H5 l2 (.tup zs)=H7
        intro k6 ht6 d6 s6
        refine⟨tp,ys,_,rfl,rfl,k6,(by rw[e3.1,t3];omega),?_⟩
        have nx:∀o,SameT H7 (upd H7 tp (.lst o)):=fun o p vs hp=>by
          by_cases q:p=tp
          · subst q;rw[hp]at k6;cases k6
          · rw[a0w q];exact hp
        refine⟨_,_,_,ys++[.ref l2],ts++[m],rfl,fun c' o nc hc'=>?_,?_,a0c,c0e e3 (fun _ _ h=>(h.same (s6.tt d3)).same (nx _)) (ht6.same (nx _)),by simp[t3],fun x hx=>?_⟩
        · rw[a0w (a0t hc' ntp)];exact s6 c' o nc (s3 c' o nc hc')
        · obtain⟨x,q⟩:=d6
          exact⟨x,by rw[a0w (Ne.symm na)];exact q⟩
        · rcases List.mem_append.mp hx with hx | hx
          · exact g3 x hx
          · rw[List.mem_singleton.mp hx];exact⟨t5,hn,g5⟩
    · rintro σ H3 ⟨v6,v7,v8,ys,ts,rfl,s3,d3,k3,e3,t3,g3⟩
      refine⟨(by show l.toArray.size≤_;simp),?_⟩
      refine⟨_,rfl,_,rfl,_,rfl,tp,ys,rfl,.inl ⟨SqL.of k3,fun l2 n2=>?_⟩⟩
      have t1:=a0e (o:=.tup ys) n2
      have ht:LT TabV ts (.ref l2) (upd H3 l2 (.tup ys)):=⟨l2,ys,rfl,a0c,e3.mono fun _ _ _ ⟨r,q1,q2⟩=>⟨r,q1,q2.same t1.t⟩⟩
      have d4:=d3.same t1
      have s4:SameX a H1 (upd H3 l2 (.tup ys)):=s3.trans (.of t1)
      clear t1 n2
      revert ht d4 s4
      generalize upd H3 l2 (.tup ys)=H4
      intro ht d4 s4
      refine⟨rfl,_,rfl,_,rfl,(by omega),(by omega),d0t (n:=n) (fun j ys H2=>∃ds,SameX a H4 H2∧Dr H2 a∧Ents (fun i u H=>∃r,ds[i]? = some r∧WV H u r) ys ds.length H2∧ds.length=j∧WOk R ds) (by omega) ⟨[],SameX.refl _ _,d4,Ents.nil,rfl,fun _ h=>by cases h⟩ (fun j ys H2 ⟨ds,_,_,q,e,_⟩=>by rw[q.1,e]) ?_ ?_ ?_⟩
      · rintro j' ys' H2 hj' ⟨ds,q,d2,e2,ed,ew⟩
        refine⟨(show j' < (n:Int).toNat by omega),fun y H' hy=>?_⟩
        obtain⟨rfl,rfl⟩:=hy
        refine⟨⟨[some _],rfl,rfl⟩,_,rfl,_,rfl,R,nm,p,a,so,hS,rfl,⟨d2,hso.same (((s1.trans s4).trans q).tt hD)⟩,fun v H3 d s3 d3 wv wq=>?_⟩
        exact⟨ds++[d],q.trans s3,d3,c0e (Pd:=fun d u H=>WV H u d) e2 (fun _ _ z=>z.st (s3.tt d2)) wv,by simp[ed],ew.snoc wq⟩
      · rintro ys' H2 ⟨ds,q,d2,e2,ed,ew⟩
        show(n:Int).toNat≤n
        omega
      · rintro ys' H5 lp ⟨en,s5,d5,e5,el,ew⟩ nl
        have t1:=a0e (o:=.lst ys') nl
        refine⟨lp,_,rfl,.inl ⟨SqL.of a0c,fun l3 n3=>?_⟩⟩
        have t2:=t1.trans (a0e (o:=.tup ys') n3)
        have re:RowV en (.ref l3) (upd (upd H5 lp (.lst ys')) l3 (.tup ys')):=⟨l3,ys',rfl,a0c,e5.mono fun _ _ _ ⟨r,e1,e2⟩=>⟨r,e1,e2.st t2.t⟩⟩
        refine⟨(by show 4≤sizeLine;decide),fun p6 n6=>?_⟩
        have t6:=t2.trans (a0e (o:=.tup [vT l,.ref sp,.ref l2,.ref l3]) n6)
        have u5:SameT H4 _:=(s5.tt d4).trans t6.t
        exact k _ _ st ts en (((s1.trans s4).trans s5).trans (.of t6)) (d5.same t6) ⟨p6,_,_,_,rfl,a0c,(r1.same (s4.tt d1)).same u5,ht.same (fun _ _=>TabV.same u5) u5,re.same (a0e n6).t⟩ ⟨Z,hn,stl,⟨by omega,stw⟩,t3,g3,el,⟨by omega,ew⟩⟩
theorem tn1{K':PySem.W.Frag}{x:V}{a:Addr}{H:Hp}{σ:L2.St}{Q:VK}(h:rJoin K' x [.ref a] H Q):tNil σ H (fun xs H2=>rJoin K' x (V.ref a::xs) H2 Q):=h
def sp_line(T:Txt K mg t):Sp:=fun vs H Q _=>∃(R:RX w K mg base t),∃nm p so v ds,So T R nm p∧vs=[so,v]∧(SortAt H so nm p∧RowV ds v H∧RG ds R.way R.p)∧∀H',Same H H'→Q (vT (rowT ds)) H'
theorem f0g(T:Txt K mg t):FnOk Pr w K mg base CX0 2 t.s0t t.q0u ["_law_sort_here","_law_row"] (sp_line (w:=w) (base:=base) T):=by
  refine T.q0e.ok sc_law_line (fun vs H Q E h=>?_) (fun cdv A outer s H vs Q E hr h=>?_)
  · obtain⟨R,nm,p,so,v,ds,_,rfl,_⟩:=h
    rfl
  · obtain⟨R,nm,p,so,v,ds,hS,rfl,⟨hso,hv,hg⟩,k⟩:=h
    have n20:=hg.n20
    refine⟨_,(a0d (a0y (a0j (op_eqD hr.units) (pv 1) (b0u a0b) (a0l _)) (a0g (a0o a0m)) a0n) (a0g (a0o (c0s PySem.F.plainAttrs_str PySem.F.slot_str_join PySem.F.type_str_join h0r a0m (a0a (d0q (xs:=["_law_x"]) rfl (show c0f ["_law_sort_here","_law_row"] (a0i e0o) _ from⟨rfl,by decide +kernel,by decide +kernel,by decide +kernel,by decide +kernel,by decide +kernel⟩) (pi_tup (pv 1)) (fun _ _ _ _ _=>(b0i (i:=2) (by show List.Nodup (["_law_sort_here","_law_row","_law_x"]:List Str);decide +kernel) rfl (Or.inl rfl))) (fun _ _ _ _ _=>(a0p (ok_law_shown (w:=w) (base:=base) T) hr.m rfl T.o0t T.o0j.kp T.o0f .nil b0b (a0a (pv 0) (a0a (pv 2) a0b))))) a0b))))),?_⟩
    refine⟨_,rfl,(by show 0≤sizeLine;decide),fun e0 ne0=>?_⟩
    have t0:=a0e (o:=.tup []) ne0
    have hv0:=hv.same t0.t
    have hso0:=hso.same t0.t
    refine⟨_,.tuple [],hv0.is,.tup (SqT.of a0c) .nil,(row_GD hg).sh (by decide),rfl,nm_nil _,_,rfl,?_⟩
    revert t0 hv0 hso0
    generalize upd H e0 (.tup [])=H0
    intro t0 hv0 hso0
    rw[same_nil]
    refine iteP (fun h0=>?_) (fun hne=>?_)
    · subst h0
      exact k H0 t0
    · obtain⟨px,us,rfl,hp,e⟩:=hv0
      refine⟨rfl,_,rfl,px,rfl,⟨_,SqT.of hp⟩,d0t (n:=ds.length) (fun j ys H2=>(ys=(((ds.take j).map wl).map vT)∧Same H0 H2)∧ys.length=j) (by omega) ⟨⟨rfl,Same.refl _⟩,rfl⟩ (fun j ys H2 q=>q.2) ?_ ?_ ?_⟩
      · rintro j ys H2 hj ⟨⟨rfl,q⟩,ly⟩
        obtain⟨u,eu,d,ed,pu⟩:=e.2 j hj
        refine⟨⟨_,_,SqT.of (q _ _ hp),eu⟩,fun y H' hy=>?_⟩
        obtain⟨rfl,hy⟩:=hy
        have:=hy _ (SqT.of (q _ _ hp))
        rw[eu]at this
        cases this
        refine⟨⟨[some _],rfl,rfl⟩,_,rfl,_,rfl,R,nm,p,_,_,d,hS,rfl,⟨hso0.same q.t,pu.st q.t,hg.wq d (List.mem_of_getElem? ed)⟩,fun H3 s3=>⟨⟨?_,q.trans s3⟩,by rw[List.length_append,ly];rfl⟩⟩
        rw[h0h ed,List.map_append];rfl
      · rintro ys H2 ⟨⟨rfl,q⟩,_⟩
        exact⟨_,SqT.of (q _ _ hp),by rw[e.1];exact Nat.le_refl _⟩
      · rintro ys H2 l ⟨⟨rfl,q⟩,_⟩ nl
        rw[List.take_length]
        refine r_join (k:=50) p1_is (fun x hx=>?_) ?_ (SqL.of a0c) ?_
        · obtain⟨d,hd,rfl⟩:=List.mem_map.mp hx
          exact(wl_ok (hg.wq d hd)).1.1
        · rw[List.length_map]
          show ds.length * 51≤_
          omega
        · rw[← row_ne hne]
          exact k _ ((t0.trans q).trans (a0e nl))
def sp_ltext(T:Txt K mg t):Sp:=fun vs H Q _=>∃(R:RX w K mg base t),∃nm p so v l n st ts en,So T R nm p∧vs=[so,v]∧(SortAt H so nm p∧MV l st ts en v H∧MG l n st ts en R.way R.p)∧∀H',Same H H'→Q (vT (macT l st ts en)) H'
theorem ok_law_text(T:Txt K mg t):FnOk Pr w K mg base CX0 3 t.s0q t.r0m ["_law_sort_here","_law_machine_here"] (sp_ltext (w:=w) (base:=base) T):=by
  refine T.q0o.ok sc_law_text (fun vs H Q E h=>?_) (fun cdv A outer s H vs Q E hr h=>?_)
  · obtain⟨R,nm,p,so,v,l,n,st,ts,en,_,rfl,_⟩:=h
    rfl
  · obtain⟨R,nm,p,so,v,l,n,st,ts,en,hS,rfl,⟨hso,⟨mp,sv,tv,ev,rfl,hm,rs,rt,re⟩,hg⟩,k⟩:=h
    have l3:=hg.lk.lo.h3
    have tl:=hg.tl
    have z20:1000 < sizeLine:=by decide
    obtain⟨px,us,rfl,hp,e⟩:=rt
    refine⟨_,(a0d (a0q (i:=2) sc_law_text.nd rfl (Or.inl rfl) (b0e (a0a (b0d b0m (pv 1) a0f (fun _ _=>rfl)) (a0a (a0p (f0g T) hr.m rfl T.r0f T.q0e.kp T.q0l .nil b0b (a0a (pv 0) (a0a (b0d b0m (pv 1) a0f (fun _ _=>rfl)) a0b))) a0b)))) (a0d (g0w PassesOwn.never rfl (pi_tup (b0d b0m (pv 1) a0f (fun _ _=>rfl))) (b0i (i:=3) sc_law_text.nd rfl (Or.inl rfl)) (a0g (a0y (a0j (op_eqD hr.units) (pv 3) (b0u a0b) (a0l _)) (a0g (d0p (c0s PySem.F.plainAttrs_list PySem.F.slot_list_append PySem.F.type_list_append f0x (pv 2) (a0a a0m a0b)))) (a0g (d0p (c0s PySem.F.plainAttrs_list PySem.F.slot_list_append PySem.F.type_list_append f0x (pv 2) (a0a (c0s PySem.F.plainAttrs_str PySem.F.slot_str_join PySem.F.type_str_join h0r a0m (a0a (d0q (xs:=["_law_row"]) rfl (show c0f ["_law_sort_here","_law_machine_here","_law_pieces_here","_law_table"] (a0i e0m) _ from⟨rfl,by decide +kernel,by decide +kernel,by decide +kernel,by decide +kernel,by decide +kernel⟩) (pi_tup (pv 3)) (fun _ _ _ _ _=>(b0i (i:=4) (by show List.Nodup (["_law_sort_here","_law_machine_here","_law_pieces_here","_law_table","_law_row"]:List Str);decide +kernel) rfl (Or.inl rfl))) (fun _ _ _ _ _=>(a0p (f0g (w:=w) (base:=base) T) hr.m rfl T.r0f T.q0e.kp T.q0l .nil b0b (a0a (pv 0) (a0a (pv 4) a0b))))) a0b)) a0b))))))) (a0g (a0o (c0s PySem.F.plainAttrs_str PySem.F.slot_str_join PySem.F.type_str_join h0r a0m (a0a (b0c op_cat (pv 2) (b0e (a0a (a0p (f0g T) hr.m rfl T.r0f T.q0e.kp T.q0l .nil b0b (a0a (pv 0) (a0a (b0d b0m (pv 1) a0f (fun _ _=>rfl)) a0b))) a0b))) a0b)))))),?_⟩
    refine⟨_,rfl,_,_,_,_,rfl,rfl,SqT.of hm,rfl,_,rfl,_,rfl,_,_,_,_,rfl,rfl,SqT.of hm,rfl,R,nm,p,_,_,st,hS,rfl,⟨hso,rs,hg.sg⟩,fun H1 s1=>?_⟩
    refine⟨(by show 2≤sizeLine;decide),fun lp nlp=>?_⟩
    have q2:=s1.trans (a0e (o:=.lst [vT l,vT (rowT st)]) nlp)
    have k2:=a0c (H:=H1) (a:=lp) (o:=.lst [vT l,vT (rowT st)])
    have nlp0:=s1.free nlp
    revert q2 k2
    generalize upd H1 lp (.lst [vT l,vT (rowT st)])=H2
    intro q2 k2
    refine⟨_,rfl,_,_,_,_,rfl,rfl,SqT.of (q2 _ _ hm),rfl,px,rfl,⟨_,SqT.of (q2 _ _ hp)⟩,for_it (n:=ts.length) (fun i σ H3=>∃v3,σ=[some so,some (.ref mp),some (.ref lp),v3]∧Same H H3∧H3 lp=some (.lst ([vT l,vT (rowT st)]++((ts.take i).map tabT).map vT))) ⟨_,rfl,q2,k2⟩ ?_ ?_⟩
    · rintro i σ H3 hi ⟨v3,rfl,q3,k3⟩
      obtain⟨u,eu,m,em,pu⟩:=e.2 i hi
      have tg:=hg.tb m (List.mem_of_getElem? em)
      have m20:=tg.n20
      have mn:=tg.ln
      refine⟨⟨_,_,SqT.of (q3 _ _ hp),eu⟩,fun y H' hy=>?_⟩
      obtain⟨rfl,hy⟩:=hy
      have:=hy _ (SqT.of (q3 _ _ hp))
      rw[eu]at this
      cases this
      have fin:∀H4,Same H H4→H4 lp=some (.lst ([vT l,vT (rowT st)]++((ts.take i).map tabT).map vT))→∃v3',[some so,some (.ref mp),some (.ref lp),some u]=[some so,some (.ref mp),some (.ref lp),v3']∧Same H (upd H4 lp (.lst (([vT l,vT (rowT st)]++((ts.take i).map tabT).map vT)++[vT (tabT m)])))∧upd H4 lp (.lst (([vT l,vT (rowT st)]++((ts.take i).map tabT).map vT)++[vT (tabT m)])) lp=some (.lst ([vT l,vT (rowT st)]++((ts.take (i+1)).map tabT).map vT)):=fun H4 q4 k4=>by
        refine⟨_,rfl,fun b o hb=>by rw[a0w (a0t hb nlp0)];exact q4 _ _ hb,?_⟩
        rw[a0c,h0h em,List.map_append,← List.append_assoc]
        rfl
      have lnl:([vT l,vT (rowT st)]++((ts.take i).map tabT).map vT).length≤100:=by
        rw[List.length_append,List.length_map,List.length_map,List.length_take]
        show 2+_≤_
        omega
      refine⟨_,rfl,(by show 0≤sizeLine;decide),fun e0 ne0=>?_⟩
      have t0:=a0e (o:=.tup []) ne0
      have hv0:=(TabV.same q3.t pu).same t0.t
      refine⟨_,.tuple [],hv0.is,.tup (SqT.of a0c) .nil,(tab_GD tg).sh (by decide),rfl,nm_nil _,_,rfl,?_⟩
      have q4:=q3.trans t0
      have k4:=t0 _ _ k3
      revert t0 hv0 q4 k4
      generalize upd H' e0 (.tup [])=H4
      intro t0 hv0 q4 k4
      have es:PySem.Spec.same (tabD m) (.tuple [])=decide (m=[]):=by
        rw[tabD,same_nil,Bool.eq_iff_iff,decide_eq_true_eq,decide_eq_true_eq]
        exact List.map_eq_nil_iff
      rw[es]
      refine iteP (fun h0=>?_) (fun hne=>?_)
      · subst h0
        refine⟨_,rfl,.inl ⟨rfl,_,SqL.of k4⟩,lp,_,_,rfl,rfl,k4,(by omega),?_⟩
        exact fin H4 q4 k4
      · obtain⟨pm,ms,rfl,hpm,e2⟩:=hv0
        refine⟨_,rfl,.inl ⟨rfl,_,SqL.of k4⟩,?_⟩
        refine⟨rfl,_,rfl,pm,rfl,⟨_,SqT.of hpm⟩,d0t (n:=m.length) (fun j ys H2=>(ys=(((m.take j).map rowT).map vT)∧Same H4 H2)∧ys.length=j) (by omega) ⟨⟨rfl,Same.refl _⟩,rfl⟩ (fun j ys H2 q=>q.2) ?_ ?_ ?_⟩
        · rintro j ys H2 hj ⟨⟨rfl,q⟩,ly⟩
          obtain⟨u2,eu2,d,ed,pu2⟩:=e2.2 j hj
          refine⟨⟨_,_,SqT.of (q _ _ hpm),eu2⟩,fun y H' hy=>?_⟩
          obtain⟨rfl,hy⟩:=hy
          have:=hy _ (SqT.of (q _ _ hpm))
          rw[eu2]at this
          cases this
          refine⟨⟨[some _],rfl,rfl⟩,_,rfl,_,rfl,R,nm,p,_,_,d,hS,rfl,⟨hso.same (q4.trans q).t,RowV.same q.t pu2,(tg.rg d (List.mem_of_getElem? ed)).2⟩,fun H3 s3=>⟨⟨?_,q.trans s3⟩,by rw[List.length_append,ly];rfl⟩⟩
          rw[h0h ed,List.map_append];rfl
        · rintro ys H2 ⟨⟨rfl,q⟩,_⟩
          exact⟨_,SqT.of (q _ _ hpm),by rw[e2.1];exact Nat.le_refl _⟩
        · rintro ys H5 lq ⟨⟨rfl,q⟩,_⟩ nl
          rw[List.take_length]
          have t5:=q.trans (a0e (o:=.lst ((m.map rowT).map vT)) nl)
          refine tn1 ?_
          refine r_join (k:=1280) p2_is (fun x hx=>?_) ?_ (SqL.of a0c) ?_
          · obtain⟨d,hd,rfl⟩:=List.mem_map.mp hx
            exact(row_gd (tg.rg d hd).2).1.1
          · rw[List.length_map]
            show m.length * 1282≤_
            omega
          · rw[← tab_ne hne]
            refine⟨lp,_,_,rfl,rfl,t5 _ _ k4,(by omega),?_⟩
            exact fin _ (q4.trans t5) (t5 _ _ k4)
    · rintro σ H3 ⟨v3,rfl,q3,k3⟩
      refine⟨⟨_,SqT.of (q3 _ _ hp),by rw[e.1];exact Nat.le_refl _⟩,?_⟩
      rw[List.take_length]at k3
      refine⟨rfl,_,rfl,_,rfl,_,rfl,_,_,_,_,rfl,rfl,SqT.of (q3 _ _ hm),rfl,R,nm,p,_,_,en,hS,rfl,⟨hso.same q3.t,re.same q3.t,hg.eg⟩,fun H4 s4=>?_⟩
      refine⟨(by show 1≤sizeLine;decide),fun a5 n5=>?_⟩
      have t5:=s4.trans (a0e (o:=.lst [vT (rowT en)]) n5)
      have k5:=a0c (H:=H4) (a:=a5) (o:=.lst [vT (rowT en)])
      have k5b:=t5 _ _ k3
      have q5:=q3.trans t5
      revert q5 k5 k5b
      generalize upd H4 a5 (.lst [vT (rowT en)])=H5
      intro k5 k5b q5
      refine⟨_,_,_,_,rfl,rfl,k5b,k5,(by rw[List.length_append,List.length_map,List.length_map];show 2+_+1≤_;omega),fun a6 n6=>?_⟩
      rw[← pcs_map]
      obtain⟨g1,g2,g3⟩:=pcs_gd hg
      refine r_join (k:=25640) p3_is (fun x hx=>(g1 x hx).1.1) ?_ (SqL.of a0c) (k _ (q5.trans (a0e n6)))
      rw[g2]
      show(l.length+3) * 25643≤_
      omega
def sp_lrooms:Sp:=fun vs H Q _=>∃(a:Addr),vs=[.ref a,.int 4,.int 8]∧Dr H a∧∀(r:Int) H',SameX a H H'→Dr H' a→0≤r→r < 8→Q (.int r) H'
theorem ok_law_rooms(T:Txt K mg t):FnOk Pr w K mg base CX0 2 t.r0y t.p0i ["_law_state_here","_law_few","_law_most"] sp_lrooms:=by
  refine T.o0s.ok sc_law_rooms (fun vs H Q E h=>?_) (fun cdv A outer s H vs Q E hr h=>?_)
  · obtain⟨a,rfl,_⟩:=h
    rfl
  · obtain⟨a,rfl,hD,k⟩:=h
    refine⟨_,(a0d (a0y (a0j b0j (a0p (a0r T) hr.m rfl T.p0r T.q0h.kp T.p0n .nil b0b (a0a (pv 0) (a0a a0f a0b))) a0f (a0l _)) (a0g (a0o (a0p (a0r T) hr.m rfl T.p0r T.q0h.kp T.p0n .nil b0b (a0a (pv 0) (a0a (pv 2) a0b))))) a0n) (a0g (a0o (a0p (a0r T) hr.m rfl T.p0r T.q0h.kp T.p0n .nil b0b (a0a (pv 0) (a0a (pv 1) a0b)))))),?_⟩
    refine⟨_,rfl,a,8,rfl,⟨hD,by decide,by decide⟩,fun r1 H1 s1 d1 a1 b1=>⟨rfl,_,rfl,?_⟩⟩
    refine iteI (fun _=>?_) (fun _=>?_)
    · exact⟨_,rfl,_,rfl,a,8,rfl,⟨d1,by decide,by decide⟩,fun r2 H2 s2 d2 a2 b2=>k r2 H2 (s1.trans s2) d2 a2 b2⟩
    · exact⟨_,rfl,_,rfl,a,4,rfl,⟨d1,by decide,by decide⟩,fun r2 H2 s2 d2 a2 b2=>k r2 H2 (s1.trans s2) d2 a2 (by omega)⟩
theorem indices_to{n:Nat}{i:Int}(h:(n:Int)≤i):Builtin.Str.strSliceIndices none (some i) 1 n=Builtin.Str.strSliceIndices none (some (n:Int)) 1 n:=by
  have h0:¬i < 0:=by omega
  have h1:¬((n:Int) < 0):=by omega
  have h2:(1:Int) > 0:=by decide
  simp only[Builtin.Str.strSliceIndices,h0,h1,h2,if_false,if_true,Int.min_eq_right h,Int.min_self]
theorem sl_toG{p:List Nat}{q:Int}(h0:0≤q):Txt.slice (tx p) none (some q)=tx (p.take q.toNat):=by
  by_cases h1:q≤p.length
  · exact sl_to h0 h1
  · have e2:Txt.slice (tx p) none (some q)=Txt.slice (tx p) none (some ((p.length:Nat):Int)):=by
      unfold Txt.slice
      rw[a0s,indices_to (by omega)]
    rw[e2,sl_to (by omega) (Int.le_refl _),List.take_of_length_le (by omega),List.take_of_length_le (by omega)]
theorem tx_get{l:List Nat}{i c:Nat}(h:(tx l).cps[i]? = some c):l[i]? = some c:=by simpa [tx] using h
def sp_lwhole:Sp:=fun vs H Q _=>∃x,vs=[vT x]∧Gd 16777216 x∧∀H',Same H H'→Q (if wr x=true then .int (nm x)else .non) H'
theorem e0h(T:Txt K mg t):FnOk Pr w K mg base CX0 1 t.r0q t.o0e ["_law_text_here"] sp_lwhole:=by
  refine T.o0x.ok sc_law_whole (fun vs H Q E h=>?_) (fun cdv A outer s H vs Q E hr h=>?_)
  · obtain⟨x,rfl,_⟩:=h
    rfl
  · obtain⟨x,rfl,g,k⟩:=h
    have z40:16777216≤sizeLine:=by decide
    have gl:=g.1
    refine⟨_,(a0d (a0q (i:=1) sc_law_whole.nd rfl (Or.inl rfl) (pv 0)) (a0d (a0y (a0j b0j (b0n f0l (pv 0) c0c (b0s a0f)) a0m (a0l _)) (a0g (a0q (i:=1) sc_law_whole.nd rfl (Or.inl rfl) (b0n f0l (pv 0) (b0s a0f) c0c))) a0n) (a0d (a0y (PW.pt (d0x (a0j b0j (pv 1) a0m (a0l _)) (d0x (a0j j0p (a0k a0v (by rfl) T.z_len PySem.boot_len (a0a (pv 1) a0b)) a0f (a0l _)) (d0v (d0w (e0d (a0k (h0g rfl) (by rfl) T.z_all boot_all (a0a (d0q (xs:=["_law_sign"]) rfl (show c0f ["_law_text_here","_law_figures"] (a0i d0k) _ from⟨rfl,by decide +kernel,by decide +kernel,by decide +kernel,by decide +kernel,by decide +kernel⟩) (pi_str (pv 1)) (fun _ _ _ _ _=>(b0i (i:=2) (by show List.Nodup (["_law_text_here","_law_figures","_law_sign"]:List Str);decide +kernel) rfl (Or.inl rfl))) (fun _ _ _ _ _=>(c0p f0s (pv 2) a0m (by with_unfolding_all rfl)))) a0b)))))))) (a0g (a0o e0e)) a0n) (a0d (a0y (PW.pt (g0v (a0j b0j (b0d ix_str (pv 1) a0f (fun _ _=>rfl)) a0m (a0l _)) (f0e (a0j e0f (pv 0) a0m (a0l _))))) (a0g (a0o e0e)) a0n) (a0g (a0o (a0z g0e (by rfl) T.z_int boot_int (a0a (pv 0) a0b)))))))),?_⟩
    refine⟨_,rfl,?_⟩
    show b0l 1 (vT x) [some (vT x),none] H _
    refine⟨_,rfl,_,rfl,_,rfl,by rw[a0s];omega,rfl,_,rfl,?_⟩
    dsimp only
    rw[sl_toG (by decide)]
    refine(fun(key:∀f,f=figs x→(?F:L2.St→Hp→Prop) [some (vT x),some (vT f)] H)=>?main) ?rest
    case main=>
      refine iteS (fun h=>?_) (fun h=>?_)
      · have h1:x.head? = some 45:=by
          have:=d0u (h.trans f0y)
          cases x with
          | nil=>cases this
          | cons c r=>simpa using this
        refine⟨_,rfl,_,rfl,_,rfl,by rw[a0s];omega,?_⟩
        rw[h0i (by decide)]
        exact key (x.drop 1) (by rw[figs,if_pos h1])
      · have h1:¬x.head? = some 45:=fun e=>h (by
          rw[f0y]
          cases x with
          | nil=>cases e
          | cons c r=>cases e;rfl)
        exact key x (by rw[figs,if_neg h1])
    case rest=>
      intro f ef
      have gf:Gd 16777216 f:=by
        rw[ef,figs]
        split
        · exact g.drop 1
        · exact g
      have fl:=gf.1
      have lf:LenV K (vT f) H f.length:=⟨by rw[a0s];omega,(a0s f).symm⟩
      have no:wr x=false→∀H',Same H H'→Q .non H':=fun e H' s'=>by
        have:=k H' s'
        rw[if_neg (by rw[e];decide)]at this
        exact this
      refine⟨_,rfl,rfl,_,rfl,?_⟩
      dsimp only
      cases f with
      | nil=>
        refine iteY (decide_eq_true (by rw[nil_is];rfl)) ?_
        (try refine iteT ?_)
        exact no (by rw[wr,← ef];rfl) _ (Same.refl _)
      | cons c r=>
      refine iteN (decide_eq_false fun e=>by have:=d0u ((V.str.inj e).trans nil_is);cases this) ?_
      refine⟨_,rfl,_,_,rfl,lf,_,_,rfl,rfl,_,rfl,?_⟩
      dsimp only
      by_cases h30:(c::r).length≤30
      rotate_left
      · refine iteY (decide_eq_true (by omega)) ?_
        (try refine iteT ?_)
        exact no (by rw[wr,← ef,decide_eq_false h30,Bool.and_false];rfl) _ (Same.refl _)
      refine iteN (decide_eq_false (by omega)) ?_
      have ewr:wr x=(if c=48 then decide (x=[48])else(c::r).all dg):=by
        rw[wr,← ef,decide_eq_true (by simp),decide_eq_true h30]
        simp only[List.head?_cons,Option.some.injEq,Bool.and_self,Bool.true_and]
      have ewr2:(c::r).all dg=false→wr x=false:=fun e=>by
        rw[ewr]
        split
        · rename_i hc
          refine decide_eq_false fun hx=>?_
          have ef':c::r=[48]:=by rw[ef,hx];rfl
          rw[ef']at e;cases e
        · exact e
      refine⟨_,rfl,_,rfl,gf.asc,d0t (n:=(c::r).length) (fun j ys H2=>ys=(((c::r).take j).map dg).map V.bl∧H2=H∧j≤(c::r).length) (by omega) ⟨rfl,rfl,Nat.zero_le _⟩ (fun j ys H2 q=>by rw[q.1,List.length_map,List.length_map,List.length_take];exact Nat.min_eq_left q.2.2) ?_ ?_ ?_⟩
      · rintro j ys H2 hj ⟨rfl,rfl,_⟩
        refine⟨(by show j < (c::r).toArray.size;simpa using hj),fun y H' hy=>?_⟩
        obtain⟨rfl,c',hc,rfl⟩:=hy
        have hc:(c::r)[j]? = some c':=tx_get hc
        refine⟨⟨[some _],rfl,rfl⟩,_,rfl,_,_,rfl,rfl,?_,rfl,hj⟩
        show _++[V.bl (!(Builtin.Str.occurrences (Str.ofString "0123456789") ⟨#[c']⟩ 0 (Str.ofString "0123456789").length 1).isEmpty)]=_
        rw[in_fig,List.take_add_one,hc,List.map_append,List.map_append];rfl
      · rintro ys H2 ⟨rfl,rfl,_⟩
        show(c::r).toArray.size≤_
        simp
      · rintro ys H2 p ⟨rfl,rfl,_⟩ np
        have t1:=a0e (o:=.lst ((((c::r).take (c::r).length).map dg).map V.bl)) np
        refine⟨p,((c::r).take (c::r).length).map dg,rfl,SqL.of a0c,?_⟩
        have e:(((c::r).take (c::r).length).map dg).all id=(c::r).all dg:=by
          rw[List.take_length,List.all_map];rfl
        dsimp only
        rw[e]
        revert t1
        generalize upd H2 p _=H3
        intro t1
        cases hd:(c::r).all dg with
        | false=>
          refine⟨_,rfl,?_⟩
          (try refine iteT ?_)
          (try refine iteT ?_)
          exact no (ewr2 hd) _ t1
        | true=>
          refine⟨_,rfl,?_⟩
          (try refine iteF ?_)
          (try refine iteF ?_)
          refine⟨_,rfl,_,_,_,rfl,rfl,by rw[a0s];omega,hd_at rfl,rfl,_,rfl,?_⟩
          dsimp only
          rw[o_is]
          have fin:wr x=true→Q (.int (nm x)) H3:=fun hw=>by
            have:=k H3 t1
            rw[if_pos hw]at this
            exact this
          refine iteS (fun h2=>?_) (fun h2=>?_)
          · have hc:c=48:=by
              have:=d0u (a:=[c]) (b:=[48]) h2
              simpa using this
            refine⟨_,rfl,rfl,_,rfl,?_⟩
            dsimp only
            by_cases hx:x=[48]
            · refine iteN (by rw[decide_eq_true (show vT x=V.str (tx [48]) by rw[hx];rfl)];rfl) ?_
              (try refine iteF ?_)
              have hw:wr x=true:=by rw[ewr,if_pos hc,decide_eq_true hx]
              obtain⟨e1,e2⟩:=wr_int hw
              exact⟨_,rfl,_,_,rfl,e1,e2,fin hw⟩
            · refine iteY (by rw[decide_eq_false (show ¬vT x=V.str (tx [48])from fun z=>hx (d0u (V.str.inj z)))];rfl) ?_
              (try refine iteT ?_)
              exact no (by rw[ewr,if_pos hc,decide_eq_false hx]) _ t1
          · (try refine iteF ?_)
            have hc:c≠48:=fun hc=>h2 (by subst hc;rfl)
            have hw:wr x=true:=by rw[ewr,if_neg hc,hd]
            obtain⟨e1,e2⟩:=wr_int hw
            exact⟨_,rfl,_,_,rfl,e1,e2,fin hw⟩
def OW(r:Option PyData)(us:List V)(H:Hp):Prop:=match r with
  | none=>us=[]
  | some d=>∃u,us=[u]∧WV H u d
def sp_lrdw(T:Txt K mg t):Sp:=fun vs H Q _=>∃(R:RX w K mg base t),∃nam p so x,So T R nam p∧vs=[so,vT x]∧(SortAt H so nam p∧Gd 16777215 x)∧∀q us H',H q=none→Same H H'→H' q=some (.lst us)→OW (R.rd x) us H'→Q (.ref q) H'
theorem yn_in(x:List Nat):inV (vT x) [V.str (Str.ofString "yes"),V.str (Str.ofString "no")]=(decide (tx x=Str.ofString "yes") || decide (tx x=Str.ofString "no")):=by
  have e:∀z:Str,eqV (V.str z) (vT x)=decide (tx x=z):=fun z=>by
    show decide (z=tx x)=_
    exact decide_eq_decide.mpr ⟨Eq.symm,Eq.symm⟩
  simp only[inV,List.any_cons,List.any_nil,e,Bool.or_false]
theorem h0d{H H':Hp}{q:Addr}(s:Same H H')(n:H' q=none):H q=none:=by
  cases e:H q with
  | none=>rfl
  | some o=>rw[s _ _ e]at n;cases n
theorem f0v(T:Txt K mg t):FnOk Pr w K mg base CX0 2 t.l0m t.k0y ["_law_sort_here","_law_text_here"] (sp_lrdw (w:=w) (base:=base) T):=by
  refine T.k0x.ok sc_law_read_weight (fun vs H Q E h=>?_) (fun cdv A outer s H vs Q E hr h=>?_)
  · obtain⟨R,nam,p,so,x,_,rfl,_⟩:=h
    rfl
  · obtain⟨R,nam,p,so,x,hS,rfl,⟨⟨q,rfl,hq⟩,g⟩,k⟩:=h
    have zl:16777216≤sizeLine:=by decide
    have gl:=g.1
    have g':Gd 16777216 x:=g.mono (by decide)
    refine⟨_,(a0d (a0y (a0j b0j (b0d b0m (pv 0) a0f (fun _ _=>rfl)) a0m (a0l _)) (a0g (a0o (b0c op_rep (b0e (a0a (c0p b0j (pv 1) a0m (a0l _)) a0b)) (a0z g0f (by rfl) T.z_int boot_int (a0a (c0p op_in_seq (pv 1) (b0u (a0a a0m (a0a a0m a0b))) (by with_unfolding_all rfl)) a0b))))) a0n) (a0d (a0y (PW.pt (g0v (a0j b0j (b0d b0m (pv 0) a0f (fun _ _=>rfl)) a0m (a0l _)) (f0e (a0j b0j (pv 1) a0m (a0l _))))) (a0g (a0o (b0e (a0a e0e a0b)))) a0n) (a0d (ps_asg (c0s PySem.F.plainAttrs_str PySem.F.slot_str_partition PySem.F.type_str_partition g0y (pv 1) (a0a a0m a0b)) (pg_tup rfl (f0q (b0i (i:=2) sc_law_read_weight.nd rfl (Or.inl rfl)) (f0q (b0i (i:=3) sc_law_read_weight.nd rfl (Or.inl rfl)) (f0q (b0i (i:=4) sc_law_read_weight.nd rfl (Or.inl rfl)) pgs_nil))))) (a0d (a0y (PW.pt (g0v (a0j b0j (b0d b0m (pv 0) a0f (fun _ _=>rfl)) a0m (a0l _)) (f0e (a0j e0f (pv 3) a0m (a0l _))))) (a0d (a0q (i:=5) sc_law_read_weight.nd rfl (Or.inl rfl) (a0p (e0h T) hr.m rfl T.o0y T.o0x.kp T.p0g .nil b0b (a0a (pv 2) a0b))) (a0d (a0q (i:=6) sc_law_read_weight.nd rfl (Or.inl rfl) (a0p (e0h T) hr.m rfl T.o0y T.o0x.kp T.p0g .nil b0b (a0a (pv 4) a0b))) (a0d (a0y (PW.pt (d0x (a0j op_isN (pv 5) e0e (a0l _)) (d0x (a0j op_isN (pv 6) e0e (a0l _)) (d0x (a0j op_lt (pv 6) a0f (a0l _)) (d0v (a0j e0f (a0p (e0w T) hr.m rfl T.m0p T.m0i.kp T.m0k .nil b0b (a0a (pv 5) (a0a (pv 6) a0b))) a0f (a0l _))))))) (a0g (a0o (b0e a0b))) a0n) (a0g (a0o (b0e (a0a (b0u (a0a (pv 5) (a0a (pv 6) a0b))) a0b))))))) a0n) (a0d (a0q (i:=7) sc_law_read_weight.nd rfl (Or.inl rfl) (a0p (e0h T) hr.m rfl T.o0y T.o0x.kp T.p0g .nil b0b (a0a (pv 1) a0b))) (a0d (a0y (PW.pt (d0x (a0j op_isN (pv 7) e0e (a0l _)) (d0v (PW.pt (g0v (a0j b0j (b0d b0m (pv 0) a0f (fun _ _=>rfl)) a0m (a0l _)) (f0e (d0w (pt_chain op_le op_lt a0f (pv 7) (b0d b0m (pv 0) a0f (fun _ _=>rfl)))))))))) (a0g (a0o (b0e a0b))) a0n) (a0d (a0y (a0j b0j (b0d b0m (pv 0) a0f (fun _ _=>rfl)) a0m (a0l _)) (a0g (a0o (b0e (a0a (b0u (a0a (pv 7) (a0a a0f a0b))) a0b)))) a0n) (a0g (a0o (b0e (a0a (pv 7) a0b))))))))))),?_⟩
    refine⟨_,rfl,_,_,_,_,rfl,rfl,SqT.of hq,rfl,rfl,_,rfl,?_⟩
    have fin:∀{H1:Hp} {q1:Addr} {us:List V},Same H H1→H1 q1=none→OW (R.rd x) us (upd H1 q1 (.lst us))→Q (.ref q1) (upd H1 q1 (.lst us)):=fun s1 n1 o=>k _ _ _ (h0d s1 n1) (s1.trans (a0e n1)) a0c o
    cases hS with
    | tr=>
      have fin:∀{H1:Hp} {q1:Addr} {us:List V},Same H H1→H1 q1=none→OW (rdT x) us (upd H1 q1 (.lst us))→Q (.ref q1) (upd H1 q1 (.lst us)):=fin
      rw[show decide (V.str ("truths":Str)=V.str ("truths":Str))=true by decide +kernel]
      refine iteT ?_
      refine⟨_,rfl,rfl,(by show 1≤sizeLine;omega),fun l1 n1=>?_⟩
      have t1:=a0e (o:=.lst [V.bl (decide (vT x=V.str (Str.ofString "yes")))]) n1
      refine⟨_,rfl,(by show 2≤sizeLine;omega),fun p2 n2=>⟨p2,_,rfl,.inr (SqT.of a0c),rfl,rfl,?_⟩⟩
      have t2:=a0e (o:=.tup [V.str (Str.ofString "yes"),V.str (Str.ofString "no")]) n2
      refine .inr ⟨_,rfl,?_⟩
      rw[show(if false=true then !inV (vT x) [V.str (Str.ofString "yes"),V.str (Str.ofString "no")]else inV (vT x) [V.str (Str.ofString "yes"),V.str (Str.ofString "no")])=(decide (tx x=Str.ofString "yes") || decide (tx x=Str.ofString "no"))from yn_in x]
      refine⟨l1,_,_,rfl,rfl,t2 _ _ a0c,(by split <;>decide),(by split <;>decide),(by split <;>(show 1 * _≤_;omega)),fun q3 n3=>?_⟩
      have rep:∀b c:Bool,(List.replicate (if b=true then(1:Int)else 0).toNat [V.bl c]).flatten=if b=true then [V.bl c]else []:=fun b c=>by cases b <;>rfl
      rw[rep]
      have t12:=t1.trans t2
      refine fin t12 n3 ?_
      unfold rdT
      by_cases hy:tx x=Str.ofString "yes"
      · rw[if_pos hy,decide_eq_true hy,Bool.true_or,if_pos rfl]
        exact⟨_,rfl,(by show V.bl _=V.bl true;rw[decide_eq_true (show vT x=V.str (Str.ofString "yes") by rw[vT,hy])])⟩
      · rw[if_neg hy,decide_eq_false hy,Bool.false_or]
        by_cases hn:tx x=Str.ofString "no"
        · rw[if_pos hn,decide_eq_true hn,if_pos rfl]
          exact⟨_,rfl,(by show V.bl _=V.bl false;rw[decide_eq_false (show ¬vT x=V.str (Str.ofString "yes")from fun e=>hy (V.str.inj e))])⟩
        · rw[if_neg hn,decide_eq_false hn,if_neg (by decide)]
          rfl
    | fr=>
      have fin:∀{H1:Hp} {q1:Addr} {us:List V},Same H H1→H1 q1=none→OW (rdF x) us (upd H1 q1 (.lst us))→Q (.ref q1) (upd H1 q1 (.lst us)):=fin
      rw[show decide (V.str ("fractions":Str)=V.str ("truths":Str))=false by decide +kernel]
      refine iteF ?_
      refine⟨_,rfl,_,_,_,_,rfl,rfl,SqT.of hq,rfl,rfl,_,rfl,?_⟩
      rw[show decide (V.str ("fractions":Str)=V.str ("costs":Str))=false by decide +kernel]
      (try refine iteF ?_)
      (try refine iteF ?_)
      refine⟨_,rfl,rfl,_,_,rfl,rfl,rfl,by rw[a0s];omega,fun pp np=>?_⟩
      cases hc:i0s x with
      | none=>
        rw[part_none hc]
        have t1:=a0e (o:=.tup [.str (tx x),.str Str.empty,.str Str.empty]) np
        have h1:=a0c (H:=H) (a:=pp) (o:=.tup [.str (tx x),.str Str.empty,.str Str.empty])
        dsimp only
        revert t1 h1
        generalize upd H pp (.tup [.str (tx x),.str Str.empty,.str Str.empty])=H1
        intro t1 h1
        refine⟨pp,_,rfl,SqT.of h1,rfl,_,_,rfl,_,_,rfl,_,_,rfl,rfl,?_⟩
        refine⟨_,rfl,_,_,_,_,rfl,rfl,SqT.of (t1 _ _ hq),rfl,rfl,_,rfl,?_⟩
        rw[show decide (V.str ("fractions":Str)=V.str ("fractions":Str))=true by decide +kernel]
        (try refine iteT ?_)
        refine⟨_,rfl,rfl,_,rfl,?_⟩
        refine iteN (by decide +kernel) ?_
        (try refine iteF ?_)
        refine⟨_,rfl,x,rfl,g',fun H2 s2=>?_⟩
        have s12:=t1.trans s2
        refine⟨_,rfl,rfl,_,rfl,?_⟩
        dsimp only
        by_cases hw:wr x=true
        · simp only[if_pos hw]
          (try refine iteF ?_)
          refine⟨_,rfl,_,_,_,_,rfl,rfl,SqT.of (s12 _ _ hq),rfl,rfl,_,rfl,?_⟩
          rw[show decide (V.str ("fractions":Str)=V.str ("residues":Str))=false by decide +kernel]
          (try refine iteF ?_)
          (try refine iteF ?_)
          refine⟨_,rfl,_,_,_,_,rfl,rfl,SqT.of (s12 _ _ hq),rfl,rfl,_,rfl,?_⟩
          rw[show decide (V.str ("fractions":Str)=V.str ("fractions":Str))=true by decide +kernel]
          (try refine iteT ?_)
          refine⟨_,rfl,(by show 2≤sizeLine;omega),fun p1 n1=>⟨(by show 1≤sizeLine;omega),fun q1 m1=>?_⟩⟩
          have u1:=a0e (o:=.tup [V.int (nm x),.int 1]) n1
          have u2:=a0e (o:=.lst [V.ref p1]) m1
          exact fin (s12.trans u1) m1 (by rw[rdF,hc];dsimp only;rw[if_pos hw];exact⟨_,rfl,p1,rfl,u2 _ _ a0c⟩)
        · simp only[if_neg hw]
          (try refine iteT ?_)
          (try refine iteT ?_)
          exact⟨(by show 0≤sizeLine;omega),fun q1 m1=>fin s12 m1 (by rw[rdF,hc];dsimp only;rw[if_neg hw];rfl)⟩
      | some i=>
        have hle:=cut_le hc
        rw[part_some hc]
        have t1:=a0e (o:=.tup [.str (tx (x.take i)),.str (Str.ofString "/"),.str (tx (x.drop (i+1)))]) np
        have h1:=a0c (H:=H) (a:=pp) (o:=.tup [.str (tx (x.take i)),.str (Str.ofString "/"),.str (tx (x.drop (i+1)))])
        dsimp only
        revert t1 h1
        generalize upd H pp (.tup [.str (tx (x.take i)),.str (Str.ofString "/"),.str (tx (x.drop (i+1)))])=H1
        intro t1 h1
        refine⟨pp,_,rfl,SqT.of h1,rfl,_,_,rfl,_,_,rfl,_,_,rfl,rfl,?_⟩
        refine⟨_,rfl,_,_,_,_,rfl,rfl,SqT.of (t1 _ _ hq),rfl,rfl,_,rfl,?_⟩
        rw[show decide (V.str ("fractions":Str)=V.str ("fractions":Str))=true by decide +kernel]
        (try refine iteT ?_)
        refine⟨_,rfl,rfl,_,rfl,?_⟩
        refine iteY (by decide +kernel) ?_
        (try refine iteT ?_)
        refine⟨_,rfl,x.take i,rfl,g'.take i,fun H2 s2=>?_⟩
        show b0l 5 (if wr (x.take i)=true then V.int (nm (x.take i))else .non) [some (.ref q),some (vT x),some (vT (x.take i)),some (.str (Str.ofString "/")),some (vT (x.drop (i+1))),none,none,none] H2 _
        refine⟨_,rfl,x.drop (i+1),rfl,g'.drop (i+1),fun H3 s3=>?_⟩
        show b0l 6 (if wr (x.drop (i+1))=true then V.int (nm (x.drop (i+1)))else .non) [some (.ref q),some (vT x),some (vT (x.take i)),some (.str (Str.ofString "/")),some (vT (x.drop (i+1))),some (if wr (x.take i)=true then V.int (nm (x.take i))else .non),none,none] H3 _
        have s13:=(t1.trans s2).trans s3
        have er:rdF x=if wr (x.take i)=true∧wr (x.drop (i+1))=true∧2≤nm (x.drop (i+1))∧dv (nm (x.take i)) (nm (x.drop (i+1)))=1 then some (.tuple [.int (nm (x.take i)),.int (nm (x.drop (i+1)))])else none:=by rw[rdF,hc]
        rw[er]at fin
        revert fin
        generalize x.take i=u
        generalize x.drop (i+1)=v
        intro fin
        have no:¬(wr u=true∧wr v=true∧2≤nm v∧dv (nm u) (nm v)=1)→∀q1,H3 q1=none→Q (.ref q1) (upd H3 q1 (.lst [])):=fun z q1 m1=>fin s13 m1 (by rw[if_neg z];rfl)
        by_cases hu:wr u=true
        rotate_left
        · simp only[if_neg hu]
          refine⟨_,rfl,rfl,_,rfl,?_⟩
          (try refine iteT ?_)
          (try refine iteT ?_)
          exact⟨(by show 0≤sizeLine;omega),fun q1 m1=>no (fun z=>hu z.1) q1 m1⟩
        simp only[if_pos hu]
        refine⟨_,rfl,rfl,_,rfl,?_⟩
        (try refine iteF ?_)
        by_cases hv:wr v=true
        rotate_left
        · simp only[if_neg hv]
          refine⟨_,rfl,rfl,_,rfl,?_⟩
          (try refine iteT ?_)
          (try refine iteT ?_)
          exact⟨(by show 0≤sizeLine;omega),fun q1 m1=>no (fun z=>hv z.2.1) q1 m1⟩
        simp only[if_pos hv]
        refine⟨_,rfl,rfl,_,rfl,?_⟩
        (try refine iteF ?_)
        refine⟨_,rfl,_,_,rfl,rfl,_,rfl,?_⟩
        dsimp only
        by_cases h2:nm v < 2
        · refine iteY (decide_eq_true h2) ?_
          (try refine iteT ?_)
          exact⟨(by show 0≤sizeLine;omega),fun q1 m1=>no (fun z=>by have:=z.2.2.1;omega) q1 m1⟩
        refine iteN (decide_eq_false h2) ?_
        refine⟨_,rfl,_,rfl,_,_,rfl,?_⟩
        refine⟨rfl,_,rfl,?_⟩
        dsimp only
        by_cases hd:dv (nm u) (nm v)=1
        · refine iteN (by rw[hd];rfl) ?_
          (try refine iteF ?_)
          refine⟨_,rfl,_,rfl,(by show 2≤sizeLine;omega),fun p1 n1=>⟨(by show 1≤sizeLine;omega),fun q1 m1=>?_⟩⟩
          have u1:=a0e (o:=.tup [V.int (nm u),.int (nm v)]) n1
          have u2:=a0e (o:=.lst [V.ref p1]) m1
          exact fin (s13.trans u1) m1 (by rw[if_pos ⟨hu,hv,by omega,hd⟩];exact⟨_,rfl,p1,rfl,u2 _ _ a0c⟩)
        · refine iteY (by rw[decide_eq_false fun e=>hd (V.int.inj e)];rfl) ?_
          (try refine iteT ?_)
          exact⟨(by show 0≤sizeLine;omega),fun q1 m1=>no (fun z=>hd z.2.2.2) q1 m1⟩
    | re p hp hq' hi=>
      have fin:∀{H1:Hp} {q1:Addr} {us:List V},Same H H1→H1 q1=none→OW (rdR p x) us (upd H1 q1 (.lst us))→Q (.ref q1) (upd H1 q1 (.lst us)):=fin
      rw[rdR]at fin
      rw[show decide (V.str ("residues":Str)=V.str ("truths":Str))=false by decide +kernel]
      refine iteF ?_
      refine⟨_,rfl,_,_,_,_,rfl,rfl,SqT.of hq,rfl,rfl,_,rfl,?_⟩
      rw[show decide (V.str ("residues":Str)=V.str ("costs":Str))=false by decide +kernel]
      (try refine iteF ?_)
      (try refine iteF ?_)
      refine⟨_,rfl,rfl,_,_,rfl,rfl,rfl,by rw[a0s];omega,fun pp np=>?_⟩
      have t1:=a0e (o:=.tup [.str (Txt.partition (tx x) (Str.ofString "/")).1,.str (Txt.partition (tx x) (Str.ofString "/")).2.1,.str (Txt.partition (tx x) (Str.ofString "/")).2.2]) np
      have h1:=a0c (H:=H) (a:=pp) (o:=.tup [.str (Txt.partition (tx x) (Str.ofString "/")).1,.str (Txt.partition (tx x) (Str.ofString "/")).2.1,.str (Txt.partition (tx x) (Str.ofString "/")).2.2])
      revert t1 h1
      generalize upd H pp _=H1
      intro t1 h1
      refine⟨pp,_,rfl,SqT.of h1,rfl,_,_,rfl,_,_,rfl,_,_,rfl,rfl,?_⟩
      refine⟨_,rfl,_,_,_,_,rfl,rfl,SqT.of (t1 _ _ hq),rfl,rfl,_,rfl,?_⟩
      rw[show decide (V.str ("residues":Str)=V.str ("fractions":Str))=false by decide +kernel]
      (try refine iteF ?_)
      (try refine iteF ?_)
      refine⟨_,rfl,x,rfl,g',fun H2 s2=>?_⟩
      have s1:=t1.trans s2
      refine⟨_,rfl,rfl,_,rfl,?_⟩
      dsimp only
      by_cases hw:wr x=true
      · simp only[if_pos hw]at ⊢
        (try refine iteF ?_)
        refine⟨_,rfl,_,_,_,_,rfl,rfl,SqT.of (s1 _ _ hq),rfl,rfl,_,rfl,?_⟩
        rw[show decide (V.str ("residues":Str)=V.str ("residues":Str))=true by decide +kernel]
        (try refine iteT ?_)
        refine⟨_,rfl,_,_,rfl,rfl,_,rfl,?_⟩
        dsimp only
        by_cases h0:0≤nm x
        · refine iteY (decide_eq_true h0) ?_
          refine⟨_,rfl,_,_,_,_,rfl,rfl,SqT.of (s1 _ _ hq),rfl,_,_,rfl,rfl,_,rfl,?_⟩
          (try dsimp only)
          by_cases h1:nm x < p
          · refine iteN (by rw[decide_eq_true h1];rfl) ?_
            (try refine iteF ?_)
            refine⟨_,rfl,_,_,_,_,rfl,rfl,SqT.of (s1 _ _ hq),rfl,rfl,_,rfl,?_⟩
            rw[show decide (V.str ("residues":Str)=V.str ("fractions":Str))=false by decide +kernel]
            (try refine iteF ?_)
            exact⟨_,rfl,(by show 1≤sizeLine;omega),fun q1 m1=>fin s1 m1 (by rw[if_pos ⟨hw,h0,h1⟩];exact⟨_,rfl,rfl⟩)⟩
          · refine iteY (by rw[decide_eq_false h1];rfl) ?_
            (try refine iteT ?_)
            exact⟨(by show 0≤sizeLine;omega),fun q1 m1=>fin s1 m1 (by rw[if_neg (fun z=>h1 z.2.2)];rfl)⟩
        · refine iteN (decide_eq_false h0) ?_
          refine⟨_,rfl,?_⟩
          (try refine iteT ?_)
          (try refine iteT ?_)
          exact⟨(by show 0≤sizeLine;omega),fun q1 m1=>fin s1 m1 (by rw[if_neg (fun z=>h0 z.2.1)];rfl)⟩
      · simp only[if_neg hw]at ⊢
        (try refine iteT ?_)
        (try refine iteT ?_)
        exact⟨(by show 0≤sizeLine;omega),fun q1 m1=>fin s1 m1 (by rw[if_neg (fun z=>hw z.1)];rfl)⟩
    | co=>
      have fin:∀{H1:Hp} {q1:Addr} {us:List V},Same H H1→H1 q1=none→OW (rdC x) us (upd H1 q1 (.lst us))→Q (.ref q1) (upd H1 q1 (.lst us)):=fin
      rw[rdC]at fin
      rw[show decide (V.str ("costs":Str)=V.str ("truths":Str))=false by decide +kernel]
      refine iteF ?_
      refine⟨_,rfl,_,_,_,_,rfl,rfl,SqT.of hq,rfl,rfl,_,rfl,?_⟩
      rw[show decide (V.str ("costs":Str)=V.str ("costs":Str))=true by decide +kernel]
      (try refine iteT ?_)
      refine⟨_,rfl,rfl,_,rfl,?_⟩
      dsimp only
      refine iteS (fun h=>?_) (fun h=>?_)
      · (try refine iteT ?_)
        exact⟨(by show 1≤sizeLine;omega),fun q1 m1=>fin (Same.refl _) m1 (by rw[if_pos h];exact⟨_,rfl,rfl⟩)⟩
      · rw[if_neg h]at fin
        (try refine iteF ?_)
        refine⟨_,rfl,rfl,_,_,rfl,rfl,rfl,by rw[a0s];omega,fun pp np=>?_⟩
        have t1:=a0e (o:=.tup [.str (Txt.partition (tx x) (Str.ofString "/")).1,.str (Txt.partition (tx x) (Str.ofString "/")).2.1,.str (Txt.partition (tx x) (Str.ofString "/")).2.2]) np
        have h1:=a0c (H:=H) (a:=pp) (o:=.tup [.str (Txt.partition (tx x) (Str.ofString "/")).1,.str (Txt.partition (tx x) (Str.ofString "/")).2.1,.str (Txt.partition (tx x) (Str.ofString "/")).2.2])
        revert t1 h1
        generalize upd H pp _=H1
        intro t1 h1
        refine⟨pp,_,rfl,SqT.of h1,rfl,_,_,rfl,_,_,rfl,_,_,rfl,rfl,?_⟩
        refine⟨_,rfl,_,_,_,_,rfl,rfl,SqT.of (t1 _ _ hq),rfl,rfl,_,rfl,?_⟩
        rw[show decide (V.str ("costs":Str)=V.str ("fractions":Str))=false by decide +kernel]
        (try refine iteF ?_)
        (try refine iteF ?_)
        refine⟨_,rfl,x,rfl,g',fun H2 s2=>?_⟩
        have s1:=t1.trans s2
        refine⟨_,rfl,rfl,_,rfl,?_⟩
        dsimp only
        by_cases hw:wr x=true
        · simp only[if_pos hw]at ⊢
          (try refine iteF ?_)
          refine⟨_,rfl,_,_,_,_,rfl,rfl,SqT.of (s1 _ _ hq),rfl,rfl,_,rfl,?_⟩
          rw[show decide (V.str ("costs":Str)=V.str ("residues":Str))=false by decide +kernel]
          (try refine iteF ?_)
          (try refine iteF ?_)
          refine⟨_,rfl,_,_,_,_,rfl,rfl,SqT.of (s1 _ _ hq),rfl,rfl,_,rfl,?_⟩
          rw[show decide (V.str ("costs":Str)=V.str ("fractions":Str))=false by decide +kernel]
          (try refine iteF ?_)
          exact⟨_,rfl,(by show 1≤sizeLine;omega),fun q1 m1=>fin s1 m1 (by rw[if_pos hw];exact⟨_,rfl,rfl⟩)⟩
        · simp only[if_neg hw]at ⊢
          (try refine iteT ?_)
          (try refine iteT ?_)
          exact⟨(by show 0≤sizeLine;omega),fun q1 m1=>fin s1 m1 (by rw[if_neg hw];rfl)⟩
theorem so45(T:Txt K mg t){R:RX w K mg base t}{nam:Str}{p:Int}(h:So T R nam p):R.rd [45]=none:=by
  have hw:wr [45]=false:=by decide
  have hc:i0s [45]=none:=by decide +kernel
  cases h with
  | fr=>show rdF [45]=none;rw[rdF,hc];dsimp only;rw[hw];rfl
  | re p hp hq hi=>show rdR p [45]=none;rw[rdR,if_neg (fun z=>by rw[hw]at z;cases z.1)]
  | co=>show rdC [45]=none;rw[rdC,if_neg (by decide +kernel),hw];rfl
  | tr=>show rdT [45]=none;rw[rdT,if_neg (by decide +kernel),if_neg (by decide +kernel)]
theorem fm_mp{α β:Type}{f:α→Option β}:∀(l:List α),mp f l=if(l.filterMap f).length=l.length then some (l.filterMap f)else none
  | []=>rfl
  | x::r=>by
    simp only[mp,fm_mp r]
    have hl:=List.length_filterMap_le f r
    cases hx:f x with
    | none=>
      have h1:¬(r.filterMap f).length=(x::r).length:=by rw[List.length_cons];omega
      rw[List.filterMap_cons_none hx,if_neg h1];rfl
    | some y=>
      rw[List.filterMap_cons_some hx]
      simp only[Option.bind_some,List.length_cons,Nat.add_right_cancel_iff]
      split <;>rfl
theorem spG45:spG [32] [45]=[[45]]:=by decide +kernel
theorem row_0{rd:List Nat→Option PyData}{x:List Nat}(g:Gd 16777215 x):a0x rd 0 x=if x=[45]then some []else none:=by
  unfold a0x f0p
  by_cases h:x=[45]
  · rw[if_pos h,if_pos h];rfl
  · rw[if_neg h,if_neg h]
    cases hm:mp rd (spG [32] x)with
    | none=>rfl
    | some m=>
      have:=mp_len hm
      have:=List.length_pos_iff.mpr (d0a (sep:=[32]) (by decide) (show Gd 1 [32] by decide) g).1
      exact if_neg (by omega)
theorem row_n{rd:List Nat→Option PyData}{x:List Nat}{n:Nat}(h45:rd [45]=none)(hn:n≠0):a0x rd n x=if(spG [32] x).length=n∧((spG [32] x).filterMap rd).length=n then some ((spG [32] x).filterMap rd)else none:=by
  unfold a0x f0p
  by_cases h:x=[45]
  · subst h
    rw[if_pos rfl,spG45]
    have e:[[45]].filterMap rd=[]:=by simp[h45]
    rw[e,if_neg (fun z=>hn (by rw[← z.2];rfl))]
    show(if 0=n then _ else none)=none
    rw[if_neg (fun z=>hn z.symm)]
  · rw[if_neg h,fm_mp]
    by_cases h1:((spG [32] x).filterMap rd).length=(spG [32] x).length
    · rw[if_pos h1]
      show(if _=n then _ else none)=_
      by_cases h2:((spG [32] x).filterMap rd).length=n
      · rw[if_pos h2,if_pos ⟨by omega,h2⟩]
      · rw[if_neg h2,if_neg (fun z=>h2 z.2)]
    · rw[if_neg h1,if_neg (fun z=>h1 (by omega))];rfl
theorem tab_0{rd:List Nat→Option PyData}{x:List Nat}(g:Gd 16777215 x):c0v rd 0 x=if x=[45]then some []else none:=by
  unfold c0v
  by_cases h:x=[45]
  · rw[if_pos ⟨rfl,h⟩,if_pos h]
  · rw[if_neg (fun z=>h z.2),if_neg h]
    have:=List.length_pos_iff.mpr (d0a (sep:=[44,32]) (by decide) (show Gd 2 [44,32] by decide) g).1
    exact if_neg (by omega)
theorem tab_n{rd:List Nat→Option PyData}{x:List Nat}{n:Nat}(hn:n≠0):c0v rd n x=if(spG [44,32] x).length=n∧((spG [44,32] x).filterMap (a0x rd n)).length=n then some ((spG [44,32] x).filterMap (a0x rd n))else none:=by
  unfold c0v
  rw[if_neg (fun z=>hn z.1),fm_mp]
  by_cases h1:(spG [44,32] x).length=n
  · rw[if_pos h1,h1]
    by_cases h2:((spG [44,32] x).filterMap (a0x rd n)).length=n
    · rw[if_pos h2,if_pos ⟨rfl,h2⟩]
    · rw[if_neg h2,if_neg (fun z=>h2 z.2)]
  · rw[if_neg h1,if_neg (fun z=>h1 z.1)]
def OL{α:Type}(Pd:α→V→Hp→Prop)(r:Option α)(us:List V)(H:Hp):Prop:=match r with
  | none=>us=[]
  | some d=>∃u,us=[u]∧Pd d u H
theorem rep_if(b:Bool)(v:V):(List.replicate (if b=true then(1:Int)else 0).toNat [v]).flatten=if b=true then [v]else []:=by cases b <;>rfl
theorem k0h{α:Type}{Pd:α→V→Hp→Prop}{m:List α}{ys:List V}{H H':Hp}(e:Ents (fun i u H=>∃r,m[i]? = some r∧Pd r u H) ys m.length H)(hp:∀r u,Pd r u H→Pd r u H'){r:Option α}{us:List V}(h:OL Pd r us H') :
    Ents (fun i u H=>∃q,(m++r.toList)[i]? = some q∧Pd q u H) (ys++us) (m++r.toList).length H':=by
  cases r with
  | none=>
    obtain rfl:us=[]:=h
    simp only[Option.toList_none,List.append_nil]
    exact e.mono fun _ _ _ ⟨r,e1,e2⟩=>⟨r,e1,hp _ _ e2⟩
  | some d=>
    obtain⟨u,rfl,hd⟩:=h
    exact c0e e hp hd
theorem fm_take{α β:Type}{f:α→Option β}{l:List α}{j:Nat}{x:α}(h:l[j]? = some x):(l.take (j+1)).filterMap f=(l.take j).filterMap f++(f x).toList:=by
  rw[take1 h,List.filterMap_append]
  congr 1
theorem j0g{H H':Hp}{q:Addr}{o:HO}(s:Same H H')(n:H q=none):Same H (upd H' q o):=fun b u e=>by
  rw[a0w (a0t e n)]
  exact s _ _ e
theorem tl_of{H:Hp}{q:Addr}{xs:List V}{o:HO}(h:H q=some (.lst xs)):SameT H (upd H q o):=fun b u e=>by
  rw[a0w (fun z=>by rw[z,h]at e;cases e)]
  exact e
def sp_lrrow(T:Txt K mg t):Sp:=fun vs H Q _=>∃(R:RX w K mg base t),∃nam p so x,∃n:Nat,So T R nam p∧vs=[so,vT x,.int (n:Int)]∧(SortAt H so nam p∧Gd 16777215 x∧n≤16777216)∧∀q us H',Same H H'→H' q=some (.lst us)→OL RowV (a0x R.rd n x) us H'→Q (.ref q) H'
theorem c0x(T:Txt K mg t):FnOk Pr w K mg base CX0 3 t.n0w t.l0y ["_law_sort_here","_law_text_here","_law_many"] (sp_lrrow (w:=w) (base:=base) T):=by
  refine T.l0p.ok sc_law_read_row (fun vs H Q E h=>?_) (fun cdv A outer s H vs Q E hr h=>?_)
  · obtain⟨R,nam,p,so,x,n,_,rfl,_⟩:=h
    rfl
  · obtain⟨R,nam,p,so,x,n,hS,rfl,⟨hso,g,hn⟩,k⟩:=h
    have zl:16777216≤sizeLine:=by decide
    have gl:=g.1
    refine⟨_,(a0d (a0y (a0j b0j (pv 2) a0f (a0l _)) (a0g (a0o (b0c op_rep (b0e (a0a (b0u a0b) a0b)) (a0z g0f (by rfl) T.z_int boot_int (a0a (c0p b0j (pv 1) a0m (a0l _)) a0b))))) a0n) (a0d (a0q (i:=3) sc_law_read_row.nd rfl (Or.inl rfl) (b0e a0b)) (a0d (g0w PassesOwn.never rfl (f0f (c0s PySem.F.plainAttrs_str PySem.F.slot_str_split PySem.F.type_str_split c0d (pv 1) (a0a a0m a0b))) (b0i (i:=4) sc_law_read_row.nd rfl (Or.inl rfl)) (a0g (ps_aug (i:=3) sc_law_read_row.nd rfl (Or.inl rfl) (a0p (f0v T) hr.m rfl T.l0b T.k0x.kp T.l0a .nil b0b (a0a (pv 0) (a0a (pv 4) a0b))) ip_lst))) (a0d (a0y (PW.pt (d0x (a0j e0f (a0k a0v (by rfl) T.z_len PySem.boot_len (a0a (c0s PySem.F.plainAttrs_str PySem.F.slot_str_split PySem.F.type_str_split c0d (pv 1) (a0a a0m a0b)) a0b)) (pv 2) (a0l _)) (d0v (a0j e0f (a0k a0v (by rfl) T.z_len PySem.boot_len (a0a (pv 3) a0b)) (pv 2) (a0l _))))) (a0g (a0o (b0e a0b))) a0n) (a0g (a0o (b0e (a0a (a0z b0g (by rfl) T.z_tuple boot_tuple (a0a (pv 3) a0b)) a0b)))))))),?_⟩
    refine⟨_,rfl,rfl,_,rfl,?_⟩
    dsimp only
    refine iteI (fun h=>?_) (fun h=>?_)
    · obtain rfl:n=0:=by omega
      rw[row_0 g]at k
      refine⟨(by show 0≤sizeLine;omega),fun p0 n0=>⟨(by show 1≤sizeLine;omega),fun l1 n1=>?_⟩⟩
      have t0:=a0e (o:=.tup ([]:List V)) n0
      have t1:=a0e (o:=.lst [V.ref p0]) n1
      refine⟨_,rfl,rfl,.inr ⟨_,rfl,l1,_,_,rfl,rfl,a0c,(by split <;>decide),(by split <;>decide),(by split <;>(show 1 * _≤_;omega)),fun q3 n3=>?_⟩⟩
      rw[rep_if]
      by_cases hx:x=[45]
      · rw[if_pos hx]at k
        rw[if_pos (decide_eq_true (by rw[hx,f0y];rfl))]at *
        have t3:=a0e (o:=.lst [V.ref p0]) n3
        exact k q3 _ _ (t0.trans (t1.trans t3)) a0c ⟨_,rfl,p0,[],rfl,(t1.trans t3) _ _ a0c,Ents.nil⟩
      · rw[if_neg hx]at k
        rw[if_neg (by rw[decide_eq_false (show ¬vT x=V.str (Str.ofString "-")from fun e=>hx (d0u ((V.str.inj e).trans f0y)))];decide)]
        have t3:=a0e (o:=.lst ([]:List V)) n3
        exact k q3 _ _ (t0.trans (t1.trans t3)) a0c rfl
    have hn0:n≠0:=fun z=>h (by rw[z];rfl)
    rw[row_n (so45 T hS) hn0]at k
    obtain⟨pne,pl,_,pg⟩:=d0a (sep:=[32]) (by decide) (show Gd 1 [32] by decide) g
    refine⟨(by show 0≤sizeLine;omega),fun qr nr=>?_⟩
    have tr:=a0e (o:=.lst ([]:List V)) nr
    have kr:=a0c (H:=H) (a:=qr) (o:=.lst [])
    revert tr kr
    generalize upd H qr (.lst [])=H1
    intro tr kr
    show b0l 3 (.ref qr) [some so,some (vT x),some (.int n),none,none] H1 _
    refine⟨_,rfl,rfl,tc1 (c0a p1_is (by decide) (show Gd 1 [32] by decide) g fun a1 n1=>?_)⟩
    have spl2:∀{H':Hp} {Q':VK},(∀p,H' p=none→Q' (.ref p) (upd H' p (.lst ((spG [32] x).map vT))))→rSplit (vT x) [.str (Str.ofString " ")] H' Q':=fun q=>c0a p1_is (by decide) (show Gd 1 [32] by decide) g q
    revert k pne pl pg spl2
    generalize spG [32] x=ps
    intro k pne pl pg spl2
    have q1:=a0e (o:=.lst (ps.map vT)) n1
    have k1:=a0c (H:=H1) (a:=a1) (o:=.lst (ps.map vT))
    have qra:qr≠a1:=fun z=>by rw[← z,kr]at n1;cases n1
    have krb:=q1 _ _ kr
    revert q1 k1 krb
    generalize upd H1 a1 (.lst (ps.map vT))=H2
    intro q1 k1 krb
    have nr1:∀{b},b≠qr→H1 b=none→H b=none:=fun _ n=>h0d tr n
    refine⟨a1,rfl,⟨_,SqL.of k1⟩,h0e (a:=a1) (xs:=ps.map vT) (fun j σ G=>∃(us:List V) (v4:Option V),σ=[some so,some (vT x),some (.int n),some (.ref qr),v4]∧Same H G∧G qr=some (.lst us)∧G a1=some (.lst (ps.map vT))∧Ents (fun i u H=>∃r,((ps.take j).filterMap R.rd)[i]? = some r∧WV H u r) us ((ps.take j).filterMap R.rd).length G) ⟨[],none,rfl,tr.trans q1,krb,k1,Ents.nil⟩ (fun j σ G _ ⟨us,v4,_,_,_,kG,_⟩=>SqL.of kG) ?_ ?_⟩
    · rintro j v σ G hv ⟨us,v4,rfl,sG,kG,kA,en⟩
      rw[List.getElem?_map]at hv
      obtain⟨d,ed,rfl⟩:=Option.map_eq_some_iff.mp hv
      have ul:=en.1
      have flen:=List.length_filterMap_le R.rd (ps.take j)
      rw[List.length_take]at flen
      have jl:=(List.getElem?_eq_some_iff.mp ed).1
      show b0l 4 (vT d) [some so,some (vT x),some (.int n),some (.ref qr),v4] G _
      refine⟨_,rfl,_,rfl,_,rfl,R,nam,p,so,d,hS,rfl,⟨hso.same sG.t,(pg d (List.mem_of_getElem? ed)).1⟩,fun q2 us2 G2 nq2 s2 k2 ow=>?_⟩
      have us2l:us2.length≤1:=by
        cases hr:R.rd d with
        | none=>rw[hr]at ow;rw[show us2=[]from ow];exact Nat.zero_le _
        | some dd=>rw[hr]at ow;obtain⟨u,rfl,_⟩:=ow;exact Nat.le_refl _
      have kG2:=s2 _ _ kG
      refine⟨qr,q2,_,_,rfl,rfl,kG2,k2,(by omega),?_⟩
      have st:SameT G2 (upd G2 qr (.lst (us++us2))):=tl_of kG2
      refine⟨us++us2,_,rfl,j0g (sG.trans s2) nr,a0c,by rw[a0w (Ne.symm qra)];exact s2 _ _ kA,?_⟩
      rw[fm_take ed]
      refine k0h (Pd:=fun d u H=>WV H u d) en (fun _ _ z=>(z.st s2.t).st st) ?_
      cases hr:R.rd d with
      | none=>rw[hr]at ow;exact ow
      | some dd=>rw[hr]at ow;obtain⟨u,e1,e2⟩:=ow;exact⟨u,e1,e2.st st⟩
    · rintro σ G ⟨us,v4,rfl,sG,kG,kA,en⟩
      rw[List.length_map,List.take_length]at en
      have ul:=en.1
      have lr:∀{G'},Same G G'→LenV K (.ref qr) G' (ps.filterMap R.rd).length:=fun s'=>.inl ⟨_,SqL.of (s' _ _ kG),ul.symm⟩
      refine⟨_,rfl,rfl,tc1 (spl2 fun a2 n2=>?_)⟩
      have t2:=a0e (o:=.lst (ps.map vT)) n2
      have l2:LenV K (.ref a2) (upd G a2 (.lst (ps.map vT))) ps.length:=.inl ⟨_,SqL.of a0c,by simp⟩
      revert t2 l2
      generalize upd G a2 (.lst (ps.map vT))=G2
      intro t2 l2
      refine⟨_,_,rfl,l2,_,rfl,rfl,_,rfl,?_⟩
      dsimp only
      have sH2:=sG.trans t2
      have no:¬(ps.length=n∧(ps.filterMap R.rd).length=n)→∀q4,G2 q4=none→Q (.ref q4) (upd G2 q4 (.lst [])):=fun z q4 n4=>k q4 _ _ (sH2.trans (a0e n4)) a0c (by rw[if_neg z];rfl)
      by_cases e1:ps.length=n
      rotate_left
      · refine iteY (by rw[decide_eq_false (fun z=>e1 (by have:=V.int.inj z;omega))];rfl) ?_
        (try refine iteT ?_)
        exact⟨(by show 0≤sizeLine;omega),fun q4 n4=>no (fun z=>e1 z.1) q4 n4⟩
      refine iteN (by rw[e1];simp) ?_
      refine⟨_,rfl,_,_,rfl,lr t2,_,rfl,rfl,_,rfl,?_⟩
      dsimp only
      by_cases e2:(ps.filterMap R.rd).length=n
      rotate_left
      · refine iteY (by rw[decide_eq_false (fun z=>e2 (by have:=V.int.inj z;omega))];rfl) ?_
        (try refine iteT ?_)
        exact⟨(by show 0≤sizeLine;omega),fun q4 n4=>no (fun z=>e2 z.2) q4 n4⟩
      refine iteN (by rw[e2];simp) ?_
      (try refine iteF ?_)
      refine⟨_,rfl,qr,us,rfl,.inl ⟨SqL.of (t2 _ _ kG),fun p3 n3=>⟨(by show 1≤sizeLine;omega),fun q4 n4=>?_⟩⟩⟩
      have t3:=a0e (o:=.tup us) n3
      have t4:=a0e (o:=.lst [V.ref p3]) n4
      have t234:=t2.trans (t3.trans t4)
      exact k q4 _ _ (sG.trans t234) a0c (by rw[if_pos ⟨e1,e2⟩];exact⟨_,rfl,p3,us,rfl,t4 _ _ a0c,en.mono fun _ _ _ ⟨r,z1,z2⟩=>⟨r,z1,z2.st t234.t⟩⟩)
def sp_lrtab(T:Txt K mg t):Sp:=fun vs H Q _=>∃(R:RX w K mg base t),∃nam p so x,∃n:Nat,So T R nam p∧vs=[so,vT x,.int (n:Int)]∧(SortAt H so nam p∧Gd 16777215 x∧n≤16777216)∧∀q us H',Same H H'→H' q=some (.lst us)→OL TabV (c0v R.rd n x) us H'→Q (.ref q) H'
theorem g0q(T:Txt K mg t):FnOk Pr w K mg base CX0 4 t.l0s t.l0d ["_law_sort_here","_law_text_here","_law_many"] (sp_lrtab (w:=w) (base:=base) T):=by
  refine T.l0j.ok sc_law_read_table (fun vs H Q E h=>?_) (fun cdv A outer s H vs Q E hr h=>?_)
  · obtain⟨R,nam,p,so,x,n,_,rfl,_⟩:=h
    rfl
  · obtain⟨R,nam,p,so,x,n,hS,rfl,⟨hso,g,hn⟩,k⟩:=h
    have zl:16777216≤sizeLine:=by decide
    have gl:=g.1
    refine⟨_,(a0d (a0y (a0j b0j (pv 2) a0f (a0l _)) (a0g (a0o (b0c op_rep (b0e (a0a (b0u a0b) a0b)) (a0z g0f (by rfl) T.z_int boot_int (a0a (c0p b0j (pv 1) a0m (a0l _)) a0b))))) a0n) (a0d (a0q (i:=3) sc_law_read_table.nd rfl (Or.inl rfl) (b0e a0b)) (a0d (g0w PassesOwn.never rfl (f0f (c0s PySem.F.plainAttrs_str PySem.F.slot_str_split PySem.F.type_str_split c0d (pv 1) (a0a a0m a0b))) (b0i (i:=4) sc_law_read_table.nd rfl (Or.inl rfl)) (a0g (ps_aug (i:=3) sc_law_read_table.nd rfl (Or.inl rfl) (a0p (c0x T) hr.m rfl T.l0v T.l0p.kp T.l0q .nil b0b (a0a (pv 0) (a0a (pv 4) (a0a (pv 2) a0b)))) ip_lst))) (a0d (a0y (PW.pt (d0x (a0j e0f (a0k a0v (by rfl) T.z_len PySem.boot_len (a0a (c0s PySem.F.plainAttrs_str PySem.F.slot_str_split PySem.F.type_str_split c0d (pv 1) (a0a a0m a0b)) a0b)) (pv 2) (a0l _)) (d0v (a0j e0f (a0k a0v (by rfl) T.z_len PySem.boot_len (a0a (pv 3) a0b)) (pv 2) (a0l _))))) (a0g (a0o (b0e a0b))) a0n) (a0g (a0o (b0e (a0a (a0z b0g (by rfl) T.z_tuple boot_tuple (a0a (pv 3) a0b)) a0b)))))))),?_⟩
    refine⟨_,rfl,rfl,_,rfl,?_⟩
    dsimp only
    refine iteI (fun h=>?_) (fun h=>?_)
    · obtain rfl:n=0:=by omega
      rw[tab_0 g]at k
      refine⟨(by show 0≤sizeLine;omega),fun p0 n0=>⟨(by show 1≤sizeLine;omega),fun l1 n1=>?_⟩⟩
      have t0:=a0e (o:=.tup ([]:List V)) n0
      have t1:=a0e (o:=.lst [V.ref p0]) n1
      refine⟨_,rfl,rfl,.inr ⟨_,rfl,l1,_,_,rfl,rfl,a0c,(by split <;>decide),(by split <;>decide),(by split <;>(show 1 * _≤_;omega)),fun q3 n3=>?_⟩⟩
      rw[rep_if]
      by_cases hx:x=[45]
      · rw[if_pos hx]at k
        rw[if_pos (decide_eq_true (by rw[hx,f0y];rfl))]at *
        have t3:=a0e (o:=.lst [V.ref p0]) n3
        exact k q3 _ _ (t0.trans (t1.trans t3)) a0c ⟨_,rfl,p0,[],rfl,(t1.trans t3) _ _ a0c,Ents.nil⟩
      · rw[if_neg hx]at k
        rw[if_neg (by rw[decide_eq_false (show ¬vT x=V.str (Str.ofString "-")from fun e=>hx (d0u ((V.str.inj e).trans f0y)))];decide)]
        have t3:=a0e (o:=.lst ([]:List V)) n3
        exact k q3 _ _ (t0.trans (t1.trans t3)) a0c rfl
    have hn0:n≠0:=fun z=>h (by rw[z];rfl)
    rw[tab_n hn0]at k
    obtain⟨pne,pl,_,pg⟩:=d0a (sep:=[44,32]) (by decide) (show Gd 2 [44,32] by decide) g
    refine⟨(by show 0≤sizeLine;omega),fun qr nr=>?_⟩
    have tr:=a0e (o:=.lst ([]:List V)) nr
    have kr:=a0c (H:=H) (a:=qr) (o:=.lst [])
    revert tr kr
    generalize upd H qr (.lst [])=H1
    intro tr kr
    show b0l 3 (.ref qr) [some so,some (vT x),some (.int n),none,none] H1 _
    refine⟨_,rfl,rfl,tc1 (c0a p2_is (by decide) (show Gd 2 [44,32] by decide) g fun a1 n1=>?_)⟩
    have spl2:∀{H':Hp} {Q':VK},(∀p,H' p=none→Q' (.ref p) (upd H' p (.lst ((spG [44,32] x).map vT))))→rSplit (vT x) [.str (Str.ofString ", ")] H' Q':=fun q=>c0a p2_is (by decide) (show Gd 2 [44,32] by decide) g q
    revert k pne pl pg spl2
    generalize spG [44,32] x=ps
    intro k pne pl pg spl2
    have q1:=a0e (o:=.lst (ps.map vT)) n1
    have k1:=a0c (H:=H1) (a:=a1) (o:=.lst (ps.map vT))
    have qra:qr≠a1:=fun z=>by rw[← z,kr]at n1;cases n1
    have krb:=q1 _ _ kr
    revert q1 k1 krb
    generalize upd H1 a1 (.lst (ps.map vT))=H2
    intro q1 k1 krb
    have nr1:∀{b},b≠qr→H1 b=none→H b=none:=fun _ n=>h0d tr n
    refine⟨a1,rfl,⟨_,SqL.of k1⟩,h0e (a:=a1) (xs:=ps.map vT) (fun j σ G=>∃(us:List V) (v4:Option V),σ=[some so,some (vT x),some (.int n),some (.ref qr),v4]∧Same H G∧G qr=some (.lst us)∧G a1=some (.lst (ps.map vT))∧Ents (fun i u H=>∃r,((ps.take j).filterMap (a0x R.rd n))[i]? = some r∧RowV r u H) us ((ps.take j).filterMap (a0x R.rd n)).length G) ⟨[],none,rfl,tr.trans q1,krb,k1,Ents.nil⟩ (fun j σ G _ ⟨us,v4,_,_,_,kG,_⟩=>SqL.of kG) ?_ ?_⟩
    · rintro j v σ G hv ⟨us,v4,rfl,sG,kG,kA,en⟩
      rw[List.getElem?_map]at hv
      obtain⟨d,ed,rfl⟩:=Option.map_eq_some_iff.mp hv
      have ul:=en.1
      have flen:=List.length_filterMap_le (a0x R.rd n) (ps.take j)
      rw[List.length_take]at flen
      have jl:=(List.getElem?_eq_some_iff.mp ed).1
      show b0l 4 (vT d) [some so,some (vT x),some (.int n),some (.ref qr),v4] G _
      refine⟨_,rfl,_,rfl,_,rfl,_,rfl,R,nam,p,so,d,n,hS,rfl,⟨hso.same sG.t,(pg d (List.mem_of_getElem? ed)).1,hn⟩,fun q2 us2 G2 s2 k2 ow=>?_⟩
      have us2l:us2.length≤1:=by
        cases hr:a0x R.rd n d with
        | none=>rw[hr]at ow;rw[show us2=[]from ow];exact Nat.zero_le _
        | some dd=>rw[hr]at ow;obtain⟨u,rfl,_⟩:=ow;exact Nat.le_refl _
      have kG2:=s2 _ _ kG
      refine⟨qr,q2,_,_,rfl,rfl,kG2,k2,(by omega),?_⟩
      have st:SameT G2 (upd G2 qr (.lst (us++us2))):=tl_of kG2
      refine⟨us++us2,_,rfl,j0g (sG.trans s2) nr,a0c,by rw[a0w (Ne.symm qra)];exact s2 _ _ kA,?_⟩
      rw[fm_take ed]
      refine k0h (Pd:=RowV) en (fun _ _ z=>(z.same s2.t).same st) ?_
      cases hr:a0x R.rd n d with
      | none=>rw[hr]at ow;exact ow
      | some dd=>rw[hr]at ow;obtain⟨u,e1,e2⟩:=ow;exact⟨u,e1,e2.same st⟩
    · rintro σ G ⟨us,v4,rfl,sG,kG,kA,en⟩
      rw[List.length_map,List.take_length]at en
      have ul:=en.1
      have lr:∀{G'},Same G G'→LenV K (.ref qr) G' (ps.filterMap (a0x R.rd n)).length:=fun s'=>.inl ⟨_,SqL.of (s' _ _ kG),ul.symm⟩
      refine⟨_,rfl,rfl,tc1 (spl2 fun a2 n2=>?_)⟩
      have t2:=a0e (o:=.lst (ps.map vT)) n2
      have l2:LenV K (.ref a2) (upd G a2 (.lst (ps.map vT))) ps.length:=.inl ⟨_,SqL.of a0c,by simp⟩
      revert t2 l2
      generalize upd G a2 (.lst (ps.map vT))=G2
      intro t2 l2
      refine⟨_,_,rfl,l2,_,rfl,rfl,_,rfl,?_⟩
      dsimp only
      have sH2:=sG.trans t2
      have no:¬(ps.length=n∧(ps.filterMap (a0x R.rd n)).length=n)→∀q4,G2 q4=none→Q (.ref q4) (upd G2 q4 (.lst [])):=fun z q4 n4=>k q4 _ _ (sH2.trans (a0e n4)) a0c (by rw[if_neg z];rfl)
      by_cases e1:ps.length=n
      rotate_left
      · refine iteY (by rw[decide_eq_false (fun z=>e1 (by have:=V.int.inj z;omega))];rfl) ?_
        (try refine iteT ?_)
        exact⟨(by show 0≤sizeLine;omega),fun q4 n4=>no (fun z=>e1 z.1) q4 n4⟩
      refine iteN (by rw[e1];simp) ?_
      refine⟨_,rfl,_,_,rfl,lr t2,_,rfl,rfl,_,rfl,?_⟩
      dsimp only
      by_cases e2:(ps.filterMap (a0x R.rd n)).length=n
      rotate_left
      · refine iteY (by rw[decide_eq_false (fun z=>e2 (by have:=V.int.inj z;omega))];rfl) ?_
        (try refine iteT ?_)
        exact⟨(by show 0≤sizeLine;omega),fun q4 n4=>no (fun z=>e2 z.2) q4 n4⟩
      refine iteN (by rw[e2];simp) ?_
      (try refine iteF ?_)
      refine⟨_,rfl,qr,us,rfl,.inl ⟨SqL.of (t2 _ _ kG),fun p3 n3=>⟨(by show 1≤sizeLine;omega),fun q4 n4=>?_⟩⟩⟩
      have t3:=a0e (o:=.tup us) n3
      have t4:=a0e (o:=.lst [V.ref p3]) n4
      have t234:=t2.trans (t3.trans t4)
      exact k q4 _ _ (sG.trans t234) a0c (by rw[if_pos ⟨e1,e2⟩];exact⟨_,rfl,p3,us,rfl,t4 _ _ a0c,en.mono fun _ _ _ ⟨r,z1,z2⟩=>⟨r,z1,z2.same t234.t⟩⟩)
def mny(s:List Nat):Nat:=if s=[45]then 0 else(spG [32] s).length
theorem row_m{rd:List Nat→Option PyData}{s:List Nat}:a0x rd (mny s) s=f0p rd s∧∀st,f0p rd s=some st→st.length=mny s:=by
  have h2:∀st,f0p rd s=some st→st.length=mny s:=fun st h=>by
    unfold f0p at h
    unfold mny
    by_cases z:s=[45]
    · rw[if_pos z]at h ⊢;cases h;rfl
    · rw[if_neg z]at h ⊢;exact mp_len h
  refine⟨?_,h2⟩
  unfold a0x
  cases h:f0p rd s with
  | none=>rfl
  | some st=>exact if_pos (h2 st h)
theorem mac_ok{rd:List Nat→Option PyData}{l s e:List Nat}{T:List (List Nat)}{st en:List PyData}(h1:a0x rd (mny s) s=some st)(h2:a0x rd (mny s) e=some en)(h3:(T.filterMap (c0v rd (mny s))).length=T.length)(h4:¬20 < mny s):rdM2 rd l s T e=some (l,st,T.filterMap (c0v rd (mny s)),en):=by
  obtain⟨a,b⟩:=row_m (rd:=rd) (s:=s)
  rw[a]at h1
  have hl:=b st h1
  unfold rdM2
  rw[h1]
  simp only[Option.bind_some]
  rw[hl,if_neg h4,fm_mp,if_pos h3,h2];rfl
theorem mac_no{rd:List Nat→Option PyData}{l s e:List Nat}{T:List (List Nat)}(h:20 < mny s∨(T.filterMap (c0v rd (mny s))).length≠T.length∨a0x rd (mny s) s=none∨a0x rd (mny s) e=none):rdM2 rd l s T e=none:=by
  obtain⟨a,b⟩:=row_m (rd:=rd) (s:=s)
  rw[a]at h
  unfold rdM2
  cases h1:f0p rd s with
  | none=>rfl
  | some st=>
    have hl:=b st h1
    rw[h1]at h
    simp only[Option.bind_some]
    rw[hl]
    by_cases h4:20 < mny s
    · rw[if_pos h4]
    · rw[if_neg h4,fm_mp]
      rcases h with h | h | h | h
      · exact absurd h h4
      · rw[if_neg h];rfl
      · cases h
      · rw[h];split <;>rfl
theorem lets_len{l:List Nat}(h:lets l=true):1≤l.length∧l.length≤3:=by
  unfold lets at h
  simp only[Bool.and_eq_true,decide_eq_true_eq]at h
  exact h.1.1
def sp_lrmac(T:Txt K mg t):Sp:=fun vs H Q _=>∃(R:RX w K mg base t),∃nam p so x,So T R nam p∧vs=[so,vT x]∧(SortAt H so nam p∧Gd 16777215 x)∧∀q us H',Same H H'→H' q=some (.lst us)→OL MVm (f0d R.rd x) us H'→Q (.ref q) H'
theorem ok_law_read(T:Txt K mg t):FnOk Pr w K mg base CX0 5 t.s0m t.r0e ["_law_sort_here","_law_text_here"] (sp_lrmac (w:=w) (base:=base) T):=by
  refine T.r0l.ok sc_law_read (fun vs H Q E h=>?_) (fun cdv A outer s H vs Q E hr h=>?_)
  · obtain⟨R,nam,p,so,x,_,rfl,_⟩:=h
    rfl
  · obtain⟨R,nam,p,so,x,hS,rfl,⟨hso,g⟩,k⟩:=h
    have zl:16777216≤sizeLine:=by decide
    have gl:=g.1
    refine⟨_,(a0d (a0q (i:=2) sc_law_read.nd rfl (Or.inl rfl) (c0s PySem.F.plainAttrs_str PySem.F.slot_str_split PySem.F.type_str_split c0d (pv 1) (a0a a0m a0b))) (a0d (a0q (i:=3) sc_law_read.nd rfl (Or.inl rfl) (b0d b0a (pv 2) a0f (fun _ _=>rfl))) (a0d (a0y (PW.pt (d0x (a0j op_lt (a0k a0v (by rfl) T.z_len PySem.boot_len (a0a (pv 3) a0b)) a0f (a0l _)) (d0x (a0j j0p (a0k a0v (by rfl) T.z_len PySem.boot_len (a0a (pv 3) a0b)) a0f (a0l _)) (d0v (a0j e0f (a0k a0v (by rfl) T.z_len PySem.boot_len (a0a (pv 2) a0b)) (b0c c0w (a0k a0v (by rfl) T.z_len PySem.boot_len (a0a (pv 3) a0b)) a0f) (a0l _)))))) (a0g (a0o (b0e a0b))) a0n) (a0d (a0y (a0j e0f (pe_lenset rfl rfl T.z_len rfl T.z_set (a0a (pv 3) a0b)) (a0k a0v (by rfl) T.z_len PySem.boot_len (a0a (pv 3) a0b)) (a0l _)) (a0g (a0o (b0e a0b))) a0n) (a0d (a0y (d0w (e0d (a0k (h0g rfl) (by rfl) T.z_all boot_all (a0a (d0q (xs:=["_law_sign"]) rfl (show c0f ["_law_sort_here","_law_text_here","_law_pieces_here","_law_letters_here","_law_many","_law_tables","_law_piece","_law_lines"] (a0i e0n) _ from⟨rfl,by decide +kernel,by decide +kernel,by decide +kernel,by decide +kernel,by decide +kernel⟩) (pi_str (pv 3)) (fun _ _ _ _ _=>(b0i (i:=8) (by show List.Nodup (["_law_sort_here","_law_text_here","_law_pieces_here","_law_letters_here","_law_many","_law_tables","_law_piece","_law_lines","_law_sign"]:List Str);decide +kernel) rfl (Or.inl rfl))) (fun _ _ _ _ _=>(c0p f0s (pv 8) a0m (by with_unfolding_all rfl)))) a0b)))) (a0g (a0o (b0e a0b))) a0n) (a0d (a0q (i:=4) sc_law_read.nd rfl (Or.inl rfl) (a0k a0v (by rfl) T.z_len PySem.boot_len (a0a (c0s PySem.F.plainAttrs_str PySem.F.slot_str_split PySem.F.type_str_split c0d (b0d b0a (pv 2) a0f (fun _ _=>rfl)) (a0a a0m a0b)) a0b))) (a0d (a0y (a0j b0j (b0d b0a (pv 2) a0f (fun _ _=>rfl)) a0m (a0l _)) (a0g (a0q (i:=4) sc_law_read.nd rfl (Or.inl rfl) a0f)) a0n) (a0d (a0q (i:=5) sc_law_read.nd rfl (Or.inl rfl) (b0e a0b)) (a0d (g0w PassesOwn.never rfl (f0f (b0n e0y (pv 2) (b0s a0f) (b0s (pe_un un_neg a0f)))) (b0i (i:=6) sc_law_read.nd rfl (Or.inl rfl)) (a0g (ps_aug (i:=5) sc_law_read.nd rfl (Or.inl rfl) (a0p (g0q T) hr.m rfl T.l0c T.l0j.kp T.l0f .nil b0b (a0a (pv 0) (a0a (pv 6) (a0a (pv 4) a0b)))) ip_lst))) (a0d (a0q (i:=7) sc_law_read.nd rfl (Or.inl rfl) (a0p (c0x T) hr.m rfl T.l0v T.l0p.kp T.l0q .nil b0b (a0a (pv 0) (a0a (b0d b0a (pv 2) a0f (fun _ _=>rfl)) (a0a (pv 4) a0b))))) (a0d (a0q (i:=7) sc_law_read.nd rfl (Or.inl rfl) (b0c op_cat (pv 7) (a0p (c0x T) hr.m rfl T.l0v T.l0p.kp T.l0q .nil b0b (a0a (pv 0) (a0a (b0d b0a (pv 2) (pe_un un_neg a0f) (fun _ _=>rfl)) (a0a (pv 4) a0b)))))) (a0d (a0y (PW.pt (d0x (a0j j0p (pv 4) a0f (a0l _)) (d0x (a0j e0f (a0k a0v (by rfl) T.z_len PySem.boot_len (a0a (pv 5) a0b)) (a0k a0v (by rfl) T.z_len PySem.boot_len (a0a (pv 3) a0b)) (a0l _)) (d0v (a0j e0f (a0k a0v (by rfl) T.z_len PySem.boot_len (a0a (pv 7) a0b)) a0f (a0l _)))))) (a0g (a0o (b0e a0b))) a0n) (a0g (a0o (b0e (a0a (b0u (a0a (pv 3) (a0a (b0d b0a (pv 7) a0f (fun _ _=>rfl)) (a0a (a0z b0g (by rfl) T.z_tuple boot_tuple (a0a (pv 5) a0b)) (a0a (b0d b0a (pv 7) a0f (fun _ _=>rfl)) a0b))))) a0b)))))))))))))))),?_⟩
    obtain⟨pne,pl,_,pg⟩:=d0a (sep:=[32,124,32]) (by decide) (show Gd 3 [32,124,32] by decide) g
    refine⟨_,rfl,rfl,tc1 (c0a p3_is (by decide) (show Gd 3 [32,124,32] by decide) g fun a1 n1=>?_)⟩
    have mo:=@rdMac_of R.rd x
    have mn:∀l,(spG [32,124,32] x)[0]? = some l→¬(lets l=true∧(spG [32,124,32] x).length=l.length+3)→f0d R.rd x=none:=fun l h0 h1=>by
      unfold f0d
      rw[List.getD_eq_getElem?_getD,h0]
      exact if_neg h1
    revert pne pl pg mo mn
    generalize spG [32,124,32] x=ps
    intro pne pl pg mo mn
    have q1:=a0e (o:=.lst (ps.map vT)) n1
    have k1:=a0c (H:=H) (a:=a1) (o:=.lst (ps.map vT))
    revert q1 k1
    generalize upd H a1 (.lst (ps.map vT))=H1
    intro q1 k1
    obtain⟨l,el⟩:∃l,ps[0]? = some l:=⟨_,List.getElem?_eq_getElem (List.length_pos_iff.mpr pne)⟩
    have at0:atI (ps.map vT) 0=some (vT l):=c0k (j:=0) (by rw[List.getElem?_map,el];rfl)
    obtain⟨gll,_⟩:=pg l (List.mem_of_getElem? el)
    have glen:=gll.1
    show b0l 2 (.ref a1) [some so,some (vT x),none,none,none,none,none,none] H1 _
    refine⟨_,rfl,_,_,_,_,rfl,rfl,SqL.of k1,at0,?_⟩
    show b0l 3 (vT l) [some so,some (vT x),some (.ref a1),none,none,none,none,none] H1 _
    have ll:∀{H'},LenV K (vT l) H' l.length:=⟨by rw[a0s];omega,(a0s l).symm⟩
    have lc:LenV K (.ref a1) H1 ps.length:=.inl ⟨_,SqL.of k1,by simp⟩
    have no:f0d R.rd x=none→∀{G:Hp} q4,Same H1 G→G q4=none→Q (.ref q4) (upd G q4 (.lst [])):=fun z G q4 sG n4=>k q4 _ _ (q1.trans (sG.trans (a0e n4))) a0c (by rw[z];rfl)
    refine⟨_,rfl,_,_,rfl,ll,_,_,rfl,rfl,_,rfl,?_⟩
    dsimp only
    by_cases c1:1≤l.length
    rotate_left
    · refine iteY (decide_eq_true (by omega)) ?_
      (try refine iteT ?_)
      exact⟨(by show 0≤sizeLine;omega),fun q4 n4=>no (mn l el (fun z=>c1 (lets_len z.1).1)) q4 (Same.refl _) n4⟩
    refine iteN (decide_eq_false (by omega)) ?_
    refine⟨_,rfl,_,_,rfl,ll,_,_,rfl,rfl,_,rfl,?_⟩
    dsimp only
    by_cases c3:l.length≤3
    rotate_left
    · refine iteY (decide_eq_true (by omega)) ?_
      (try refine iteT ?_)
      exact⟨(by show 0≤sizeLine;omega),fun q4 n4=>no (mn l el (fun z=>c3 (lets_len z.1).2)) q4 (Same.refl _) n4⟩
    refine iteN (decide_eq_false (by omega)) ?_
    refine⟨_,rfl,_,_,rfl,lc,_,rfl,_,_,rfl,ll,_,_,rfl,rfl,rfl,_,rfl,?_⟩
    dsimp only
    refine iteNI (fun ne=>?_) (fun e3=>?_)
    · (try refine iteT ?_)
      exact⟨(by show 0≤sizeLine;omega),fun q4 n4=>no (mn l el (fun z=>ne (by omega))) q4 (Same.refl _) n4⟩
    (try refine iteF ?_)
    have e3:ps.length=l.length+3:=by omega
    refine⟨_,rfl,_,rfl,(by rw[a0s];omega),_,rfl,_,_,rfl,ll,rfl,_,rfl,?_⟩
    rw[a0s]
    dsimp only
    by_cases nd:l.Nodup
    rotate_left
    · refine iteY (by rw[decide_eq_false (fun e=>nd (cnt_ndT.mp (by have:=V.int.inj e;exact Int.ofNat.inj this)))];rfl) ?_
      (try refine iteT ?_)
      exact⟨(by show 0≤sizeLine;omega),fun q4 n4=>no (mn l el (fun z=>nd (by have:=z.1;unfold lets at this;simp only[Bool.and_eq_true,decide_eq_true_eq]at this;exact this.1.2))) q4 (Same.refl _) n4⟩
    refine iteN (by rw[cnt_ndT.mpr nd];simp) ?_
    refine⟨_,rfl,_,rfl,gll.asc,d0t (n:=l.length) (fun j ys H2=>ys=((l.take j).map small).map V.bl∧H2=H1∧j≤l.length) (by omega) ⟨rfl,rfl,Nat.zero_le _⟩ (fun j ys H2 q=>by rw[q.1,List.length_map,List.length_map,List.length_take];exact Nat.min_eq_left q.2.2) ?_ ?_ ?_⟩
    · rintro j ys H2 hj ⟨rfl,rfl,_⟩
      refine⟨(by show j < l.toArray.size;simpa using hj),fun y H' hy=>?_⟩
      obtain⟨rfl,c,hc,rfl⟩:=hy
      have hc:l[j]? = some c:=tx_get hc
      refine⟨⟨[some _],rfl,rfl⟩,_,rfl,_,_,rfl,rfl,?_,rfl,hj⟩
      show _++[V.bl (!(Builtin.Str.occurrences (Str.ofString "abcdefghijklmnopqrstuvwxyz") ⟨#[c]⟩ 0 (Str.ofString "abcdefghijklmnopqrstuvwxyz").length 1).isEmpty)]=_
      rw[small_is (gll.2 c (List.mem_of_getElem? hc)),List.take_add_one,hc,List.map_append,List.map_append];rfl
    · rintro ys H2 ⟨rfl,rfl,_⟩
      show l.toArray.size≤_
      simp
    rintro ys H2 pz ⟨rfl,rfl,_⟩ npz
    have t2:=a0e (o:=.lst (((l.take l.length).map small).map V.bl)) npz
    refine⟨pz,(l.take l.length).map small,rfl,SqL.of a0c,?_⟩
    have eall:((l.take l.length).map small).all id=l.all small:=by
      rw[List.take_length,List.all_map];rfl
    dsimp only
    rw[eall]
    have k2:=t2 _ _ k1
    revert t2 k2
    generalize upd H2 pz _=H3
    intro t2 k2
    have hl:lets l=l.all small:=by
      unfold lets
      rw[decide_eq_true c1,decide_eq_true c3,decide_eq_true nd];simp
    cases hsm:l.all small with
    | false=>
      refine⟨_,rfl,?_⟩
      (try refine iteT ?_)
      (try refine iteT ?_)
      exact⟨(by show 0≤sizeLine;omega),fun q4 n4=>no (mn l el (fun z=>by rw[hl,hsm]at z;cases z.1)) q4 t2 n4⟩
    | true=>
    refine⟨_,rfl,?_⟩
    (try refine iteF ?_)
    (try refine iteF ?_)
    rw[hsm]at hl
    obtain⟨l',s',Tb,e',rfl⟩:=four (ps:=ps) (by omega)
    obtain rfl:l'=l:=Option.some.inj el
    have htl:Tb.length=l'.length:=by simp at e3;omega
    rw[mo rfl hl htl]at k no
    have pmap:(([l',s']++Tb)++[e']).map vT=([vT l',vT s']++Tb.map vT)++[vT e']:=by simp
    rw[pmap]at k2
    have gs:=(pg s' (by simp)).1
    have ge:=(pg e' (by simp)).1
    have gT:∀d∈Tb,Gd 16777215 d:=fun d hd=>(pg d (by simp[hd])).1
    have at1:atI (([vT l',vT s']++Tb.map vT)++[vT e']) 1=some (vT s'):=c0k (j:=1) rfl
    have atm:atI (([vT l',vT s']++Tb.map vT)++[vT e']) (-1)=some (vT e'):=atI_last _ _
    obtain⟨_,sl1,_,_⟩:=d0a (sep:=[32]) (by decide) (show Gd 1 [32] by decide) gs
    have sgl:=gs.1
    refine⟨_,rfl,_,_,_,_,rfl,rfl,SqL.of k2,at1,rfl,tc1 (c0a p1_is (by decide) (show Gd 1 [32] by decide) gs fun a2 n2=>?_)⟩
    have t3:=a0e (o:=.lst ((spG [32] s').map vT)) n2
    have l3:LenV K (.ref a2) (upd H3 a2 (.lst ((spG [32] s').map vT))) (spG [32] s').length:=.inl ⟨_,SqL.of a0c,by simp⟩
    have k3:=t3 _ _ k2
    have t23:=t2.trans t3
    revert l3 k3 t23
    generalize upd H3 a2 (.lst ((spG [32] s').map vT))=H4
    intro l3 k3 t23
    refine⟨_,_,rfl,l3,?_⟩
    show b0l 4 (.int ((spG [32] s').length:Nat)) [some so,some (vT x),some (.ref a1),some (vT l'),none,none,none,none] H4 _
    refine(fun(key:(?F:L2.St→Hp→Prop) [some so,some (vT x),some (.ref a1),some (vT l'),some (.int (mny s':Nat)),none,none,none] H4)=>?main) ?rest
    case main=>
      refine⟨_,rfl,_,_,_,_,rfl,rfl,SqL.of k3,at1,rfl,_,rfl,?_⟩
      dsimp only
      refine iteS (fun h=>?_) (fun h=>?_)
      rotate_left
      · have e:mny s'=(spG [32] s').length:=by rw[mny,if_neg (fun z=>h (by rw[z,f0y]))]
        rw[e]at key
        exact key
      · have e:mny s'=0:=by rw[mny,if_pos (d0u (h.trans f0y))]
        rw[e]at key
        exact key
    case rest=>
    have mb:mny s'≤16777216:=by unfold mny;split <;>omega
    refine⟨(by show 0≤sizeLine;omega),fun qt nt=>?_⟩
    have tt:=a0e (o:=.lst ([]:List V)) nt
    have kt:=a0c (H:=H4) (a:=qt) (o:=.lst [])
    have k4:=tt _ _ k3
    revert tt kt k4
    generalize upd H4 qt (.lst [])=H5
    intro tt kt k4
    show b0l 5 (.ref qt) [some so,some (vT x),some (.ref a1),some (vT l'),some (.int (mny s':Nat)),none,none,none] H5 _
    have t45:=t23.trans tt
    refine⟨_,rfl,_,rfl,_,rfl,_,rfl,_,_,rfl,SqL.of k4,fun a4 n4=>?_⟩
    rw[cut_mid]
    have t6:=a0e (o:=.lst (Tb.map vT)) n4
    have k6:=a0c (H:=H5) (a:=a4) (o:=.lst (Tb.map vT))
    have k6t:=t6 _ _ kt
    have qta:qt≠a4:=fun z=>by rw[← z,kt]at n4;cases n4
    revert t6 k6 k6t
    generalize upd H5 a4 (.lst (Tb.map vT))=H6
    intro t6 k6 k6t
    have ntH:H4 qt=none:=nt
    have s46:Same H4 H6:=tt.trans t6
    refine⟨a4,rfl,⟨_,SqL.of k6⟩,h0e (a:=a4) (xs:=Tb.map vT) (fun j σ G=>∃(us:List V) (v6:Option V),σ=[some so,some (vT x),some (.ref a1),some (vT l'),some (.int (mny s':Nat)),some (.ref qt),v6,none]∧Same H4 G∧G qt=some (.lst us)∧G a4=some (.lst (Tb.map vT))∧Ents (fun i u H=>∃r,((Tb.take j).filterMap (c0v R.rd (mny s')))[i]? = some r∧TabV r u H) us ((Tb.take j).filterMap (c0v R.rd (mny s'))).length G) ⟨[],none,rfl,s46,k6t,k6,Ents.nil⟩ (fun j σ G _ ⟨us,v4,_,_,_,kG,_⟩=>SqL.of kG) ?_ ?_⟩
    · rintro j v σ G hv ⟨us,v6,rfl,sG,kG,kA,en⟩
      rw[List.getElem?_map]at hv
      obtain⟨d,ed,rfl⟩:=Option.map_eq_some_iff.mp hv
      have ul:=en.1
      have flen:=List.length_filterMap_le (c0v R.rd (mny s')) (Tb.take j)
      rw[List.length_take]at flen
      have jl:=(List.getElem?_eq_some_iff.mp ed).1
      show b0l 6 (vT d) [some so,some (vT x),some (.ref a1),some (vT l'),some (.int (mny s':Nat)),some (.ref qt),v6,none] G _
      refine⟨_,rfl,_,rfl,_,rfl,_,rfl,R,nam,p,so,d,mny s',hS,rfl,⟨hso.same ((q1.trans t23).trans sG).t,gT d (List.mem_of_getElem? ed),mb⟩,fun q2 us2 G2 s2 k2' ow=>?_⟩
      have us2l:us2.length≤1:=by
        cases hr:c0v R.rd (mny s') d with
        | none=>rw[hr]at ow;rw[show us2=[]from ow];exact Nat.zero_le _
        | some dd=>rw[hr]at ow;obtain⟨u,rfl,_⟩:=ow;exact Nat.le_refl _
      have kG2:=s2 _ _ kG
      refine⟨qt,q2,_,_,rfl,rfl,kG2,k2',(by omega),?_⟩
      have st:SameT G2 (upd G2 qt (.lst (us++us2))):=tl_of kG2
      refine⟨us++us2,_,rfl,j0g (sG.trans s2) ntH,a0c,by rw[a0w (Ne.symm qta)];exact s2 _ _ kA,?_⟩
      rw[fm_take ed]
      refine k0h (Pd:=TabV) en (fun _ _ z=>(z.same s2.t).same st) ?_
      cases hr:c0v R.rd (mny s') d with
      | none=>rw[hr]at ow;exact ow
      | some dd=>rw[hr]at ow;obtain⟨u,e1,e2⟩:=ow;exact⟨u,e1,e2.same st⟩
    · rintro σ G ⟨us,v6,rfl,sG,kG,kA,en⟩
      rw[List.length_map,List.take_length]at en
      have ul:=en.1
      have kGp:=sG _ _ k3
      have hsoG:=hso.same ((q1.trans t23).trans sG).t
      refine⟨_,rfl,_,rfl,_,_,_,_,rfl,rfl,SqL.of kGp,at1,_,rfl,R,nam,p,so,s',mny s',hS,rfl,⟨hsoG,gs,mb⟩,fun q7 u7 G7 s7 k7 ow7=>?_⟩
      show b0l 7 (.ref q7) [some so,some (vT x),some (.ref a1),some (vT l'),some (.int (mny s':Nat)),some (.ref qt),v6,none] G7 _
      refine⟨_,rfl,_,rfl,_,rfl,_,rfl,_,_,_,_,rfl,rfl,SqL.of (s7 _ _ kGp),atm,_,rfl,R,nam,p,so,e',mny s',hS,rfl,⟨hsoG.same s7.t,ge,mb⟩,fun q8 u8 G8 s8 k8 ow8=>?_⟩
      have u7l:u7.length≤1:=by
        cases hr:a0x R.rd (mny s') s' with
        | none=>rw[hr]at ow7;rw[show u7=[]from ow7];exact Nat.zero_le _
        | some dd=>rw[hr]at ow7;obtain⟨u,rfl,_⟩:=ow7;exact Nat.le_refl _
      have u8l:u8.length≤1:=by
        cases hr:a0x R.rd (mny s') e' with
        | none=>rw[hr]at ow8;rw[show u8=[]from ow8];exact Nat.zero_le _
        | some dd=>rw[hr]at ow8;obtain⟨u,rfl,_⟩:=ow8;exact Nat.le_refl _
      refine⟨q7,q8,_,_,rfl,rfl,s8 _ _ k7,k8,(by omega),fun q9 n9=>?_⟩
      have t9:=a0e (o:=.lst (u7++u8)) n9
      have k9:=a0c (H:=G8) (a:=q9) (o:=.lst (u7++u8))
      have kt9:=(s7.trans (s8.trans t9)) _ _ kG
      have s49:=sG.trans (s7.trans (s8.trans t9))
      have en9:Ents (fun i u H=>∃r,(Tb.filterMap (c0v R.rd (mny s')))[i]? = some r∧TabV r u H) us (Tb.filterMap (c0v R.rd (mny s'))).length (upd G8 q9 (.lst (u7++u8))):=en.mono fun _ _ _ ⟨r,z1,z2⟩=>⟨r,z1,z2.same (s7.trans (s8.trans t9)).t⟩
      have tA:=(s8.trans t9).t
      have tB:=t9.t
      revert t9 k9 kt9 s49 en9 tA tB
      generalize upd G8 q9 (.lst (u7++u8))=G9
      intro t9 k9 kt9 s49 en9 tA tB
      have s19:=t23.trans s49
      show b0l 7 (.ref q9) [some so,some (vT x),some (.ref a1),some (vT l'),some (.int (mny s':Nat)),some (.ref qt),v6,some (.ref q7)] G9 _
      refine⟨_,rfl,_,_,rfl,rfl,_,rfl,?_⟩
      dsimp only
      by_cases h20:20 < mny s'
      · refine iteY (decide_eq_true (by omega)) ?_
        (try refine iteT ?_)
        exact⟨(by show 0≤sizeLine;omega),fun q4 n4=>no (mac_no (.inl h20)) q4 s19 n4⟩
      refine iteN (decide_eq_false (by omega)) ?_
      have ltb:LenV K (.ref qt) G9 (Tb.filterMap (c0v R.rd (mny s'))).length:=.inl ⟨_,SqL.of kt9,ul.symm⟩
      refine⟨_,rfl,_,_,rfl,ltb,_,rfl,_,_,rfl,ll,rfl,_,rfl,?_⟩
      dsimp only
      by_cases hc:(Tb.filterMap (c0v R.rd (mny s'))).length=Tb.length
      rotate_left
      · refine iteY (by rw[decide_eq_false (fun z=>hc (by have:=V.int.inj z;omega))];rfl) ?_
        (try refine iteT ?_)
        exact⟨(by show 0≤sizeLine;omega),fun q4 n4=>no (mac_no (.inr (.inl hc))) q4 s19 n4⟩
      refine iteN (by rw[hc,htl];simp) ?_
      have lln:LenV K (.ref q9) G9 (u7++u8).length:=.inl ⟨_,SqL.of k9,rfl⟩
      refine⟨_,rfl,_,_,rfl,lln,rfl,_,rfl,?_⟩
      dsimp only
      cases hr7:a0x R.rd (mny s') s' with
      | none=>
        rw[hr7]at ow7
        obtain rfl:u7=[]:=ow7
        refine iteY (by rw[decide_eq_false (fun z=>by have:=V.int.inj z;rw[List.nil_append]at this;omega)];rfl) ?_
        (try refine iteT ?_)
        exact⟨(by show 0≤sizeLine;omega),fun q4 n4=>no (mac_no (.inr (.inr (.inl hr7)))) q4 s19 n4⟩
      | some st=>
      rw[hr7]at ow7
      obtain⟨v7,rfl,rv7⟩:=ow7
      cases hr8:a0x R.rd (mny s') e' with
      | none=>
        rw[hr8]at ow8
        obtain rfl:u8=[]:=ow8
        refine iteY (by rfl) ?_
        (try refine iteT ?_)
        exact⟨(by show 0≤sizeLine;omega),fun q4 n4=>no (mac_no (.inr (.inr (.inr hr8)))) q4 s19 n4⟩
      | some en'=>
      rw[hr8]at ow8
      obtain⟨v8,rfl,rv8⟩:=ow8
      refine iteN (by rfl) ?_
      (try refine iteF ?_)
      refine⟨_,rfl,_,rfl,_,_,_,_,rfl,rfl,SqL.of k9,rfl,_,rfl,qt,us,rfl,.inl ⟨SqL.of kt9,fun p3 n3=>?_⟩⟩
      have t3':=a0e (o:=.tup us) n3
      refine⟨_,rfl,_,_,_,_,rfl,rfl,SqL.of (t3' _ _ k9),rfl,(by show 4≤sizeLine;omega),fun p4 n4'=>⟨(by show 1≤sizeLine;omega),fun q5 n5=>?_⟩⟩
      have t4':=a0e (o:=.tup [vT l',v7,.ref p3,v8]) n4'
      have t5':=a0e (o:=.lst [V.ref p4]) n5
      have t345:=t3'.trans (t4'.trans t5')
      refine k q5 _ _ (q1.trans (s19.trans t345)) a0c ?_
      rw[mac_ok hr7 hr8 hc h20]
      exact⟨_,rfl,p4,v7,.ref p3,v8,rfl,t5' _ _ a0c,(rv7.same tA).same t345.t,⟨p3,us,rfl,(t4'.trans t5') _ _ a0c,en9.mono fun _ _ _ ⟨r,z1,z2⟩=>⟨r,z1,z2.same t345.t⟩⟩,(rv8.same tB).same t345.t⟩
def RfV(u:V)(H:Hp):Prop:=∃p,u=.ref p∧H p=some (.tup [V.str (Str.ofString "refused"),.bl true,.bl false])
def sp_ltold(w:World)(K:PySem.W.Frag)(mg:Str→Option Value)(base:Heap)(t:Adr):Sp:=fun vs H Q _=>∃(R:RX w K mg base t),∃kv v,vs=[kv,v]∧KAt R.C R.fs H kv∧
  ((∃x,v=vT x∧Gd 16777215 x∧(∀m,f0d R.rd x=some m→∀u H',Same H H'→MVm m u H'→Q u H')∧(f0d R.rd x=none→∀u H',Same H H'→RfV u H'→Q u H'))∨(NoStr K v H∧∀u H',Same H H'→RfV u H'→Q u H'))
theorem h0m(T:Txt K mg t):FnOk Pr w K mg base CX0 10 t.s0i t.q0r ["_law_kind_here","_law_thing"] (sp_ltold w K mg base t):=by
  refine T.q0k.ok sc_law_told (fun vs H Q E h=>?_) (fun cdv A outer s H vs Q E hr h=>?_)
  · obtain⟨R,kv,v,rfl,_⟩:=h
    rfl
  · obtain⟨R,kv,v,rfl,hk,h⟩:=h
    refine⟨_,(a0d (a0q (i:=2) sc_law_told.nd rfl (Or.inl rfl) e0e) (a0d (ps_try (i:=3) (psx_one (psx_set (i:=2) sc_law_told.nd rfl (Or.inl rfl) (c0b (g0z T) hr.m rfl T.l0u T.l0t.kp T.l0r .nil (a0a (pv 0) (a0a (pv 1) a0b))))) rfl rfl sc_law_told.nd rfl rfl rfl T.n0b (fun _=>(a0d (a0q (i:=4) sc_law_told.nd rfl (Or.inl rfl) (j0m (a0k (b0v K rfl) (by rfl) T.z_isinstance boot_isinstance (a0a (pv 3) (a0a (b0t (v:=.ref t.t0m) rfl T.s0r rfl) a0b))) (j0m (a0k (b0v K rfl) (by rfl) T.z_isinstance boot_isinstance (a0a (pv 3) (a0a (b0t (v:=.ref t.r0t) rfl T.o0h rfl) a0b))) (j0m (a0k (b0v K rfl) (by rfl) T.z_isinstance boot_isinstance (a0a (pv 3) (a0a (b0t (v:=.ref t.s0o) rfl T.q0g rfl) a0b))) (i0t (a0k (b0v K rfl) (by rfl) T.z_isinstance boot_isinstance (a0a (pv 3) (a0a (b0t (v:=.ref t.t0l) rfl T.s0u rfl) a0b)))))))) (a0d (a0q (i:=4) sc_law_told.nd rfl (Or.inl rfl) (j0m (pv 4) (j0m (a0k (b0v K rfl) (by rfl) T.z_isinstance boot_isinstance (a0a (pv 3) (a0a (b0t (v:=.ref t.t0o) rfl T.s0j rfl) a0b))) (j0m (a0k (b0v K rfl) (by rfl) T.z_isinstance boot_isinstance (a0a (pv 3) (a0a (b0t (v:=.ref t.r0p) rfl T.p0b rfl) a0b))) (i0t (a0k (b0v K rfl) (by rfl) T.z_isinstance boot_isinstance (a0a (pv 3) (a0a (b0t (v:=.ref t.s0w) rfl T.r0j rfl) a0b)))))))) (a0d (a0q (i:=4) sc_law_told.nd rfl (Or.inl rfl) (j0m (pv 4) (j0m (a0k (b0v K rfl) (by rfl) T.z_isinstance boot_isinstance (a0a (pv 3) (a0a (b0t (v:=.ref t.t0p) rfl T.s0g rfl) a0b))) (j0m (a0k (b0v K rfl) (by rfl) T.z_isinstance boot_isinstance (a0a (pv 3) (a0a (b0t (v:=.ref t.t0v) rfl T.t0e rfl) a0b))) (i0t (pe_not (a0k (b0v K rfl) (by rfl) T.z_isinstance boot_isinstance (a0a (pv 3) (a0a (g0n (v:=.ty "ValueError") rfl T.z_ValueError boot_VE rfl) a0b))))))))) (a0g (a0q (i:=2) sc_law_told.nd rfl (Or.inl rfl) (b0u (a0a a0m (a0a (a0k (b0v K rfl) (by rfl) T.z_isinstance boot_isinstance (a0a (pv 3) (a0a (b0t (v:=.ref t.t0n) rfl T.t0d rfl) a0b))) (a0a (pv 4) a0b))))))))))) (a0g (a0o (pv 2))))),?_⟩
    have zl:10000 < sizeLine:=by decide
    show b0l 2 .non [some kv,some v,none,none,none] H _
    refine⟨_,rfl,_,rfl,R,kv,v,rfl,hk,?_⟩
    rcases h with ⟨x,hv,g,k,kn⟩ | ⟨hn,ke⟩
    · refine .inl ⟨x,hv,g,fun m hm u H1 s1 mv=>?_,fun hn H1 s1=>⟨_,rfl,T.eT,fun xa nxa=>?_⟩⟩
      · exact⟨_,rfl,k m hm _ _ s1 mv⟩
      have kb:=kn hn
      have t1:=a0e (o:=ExcO xa t.t0n) nxa
      have hx:upd H1 xa (ExcO xa t.t0n) xa=some (ExcO xa t.t0n):=a0c
      revert t1 hx
      generalize upd H1 xa (ExcO xa t.t0n)=H2
      intro t1 hx
      refine⟨_,rfl,xa,t.t0n,_,_,false,rfl,hx,T.s0v,rfl,T.xNoKind,?_⟩
      refine⟨_,rfl,?_⟩
      (try refine iteF ?_)
      refine⟨_,rfl,xa,t.t0n,_,_,false,rfl,hx,T.s0v,rfl,T.xWrongKind,?_⟩
      refine⟨_,rfl,?_⟩
      (try refine iteF ?_)
      refine⟨_,rfl,xa,t.t0n,_,_,false,rfl,hx,T.s0v,rfl,T.xNoWeight,?_⟩
      refine⟨_,rfl,?_⟩
      (try refine iteF ?_)
      refine⟨_,rfl,xa,t.t0n,_,_,false,rfl,hx,T.s0v,rfl,T.xNoWord,?_⟩
      show b0l 4 (.bl false) [some kv,some v,some .non,some (.ref xa),none] H2 _
      refine⟨_,rfl,_,rfl,?_⟩
      (try refine iteF ?_)
      refine⟨_,rfl,xa,t.t0n,_,_,false,rfl,hx,T.s0v,rfl,T.xUnlike,?_⟩
      refine⟨_,rfl,?_⟩
      (try refine iteF ?_)
      refine⟨_,rfl,xa,t.t0n,_,_,false,rfl,hx,T.s0v,rfl,T.xNoClosure,?_⟩
      refine⟨_,rfl,?_⟩
      (try refine iteF ?_)
      refine⟨_,rfl,xa,t.t0n,_,_,false,rfl,hx,T.s0v,rfl,T.xTooGreat,?_⟩
      show b0l 4 (.bl false) [some kv,some v,some .non,some (.ref xa),some (.bl false)] H2 _
      refine⟨_,rfl,_,rfl,?_⟩
      (try refine iteF ?_)
      refine⟨_,rfl,xa,t.t0n,_,_,false,rfl,hx,T.s0v,rfl,T.xNoName,?_⟩
      refine⟨_,rfl,?_⟩
      (try refine iteF ?_)
      refine⟨_,rfl,xa,t.t0n,_,_,false,rfl,hx,T.s0v,rfl,T.xNoRow,?_⟩
      refine⟨_,rfl,?_⟩
      (try refine iteF ?_)
      refine⟨_,rfl,xa,t.t0n,_,_,true,rfl,hx,T.s0v,rfl,T.vT1,?_⟩
      refine⟨_,rfl,?_⟩
      show b0l 4 (.bl false) [some kv,some v,some .non,some (.ref xa),some (.bl false)] H2 _
      refine⟨_,rfl,xa,t.t0n,_,_,true,rfl,hx,T.s0v,rfl,T.kTT,?_⟩
      refine⟨_,rfl,(by show 3≤sizeLine;omega),fun q1 nq1=>?_⟩
      have e1:=a0e (o:=.tup [V.str (Str.ofString "refused"),.bl true,.bl false]) nq1
      exact⟨_,rfl,kb _ _ ((s1.trans t1).trans e1) ⟨q1,rfl,a0c⟩⟩
    · refine .inr ⟨hn,⟨_,rfl,T.eT,fun xa nxa=>?_⟩⟩
      have kb:=ke
      have s1:Same H H:=Same.refl _
      have t1:=a0e (o:=ExcO xa t.t0n) nxa
      have hx:upd H xa (ExcO xa t.t0n) xa=some (ExcO xa t.t0n):=a0c
      revert t1 hx
      generalize upd H xa (ExcO xa t.t0n)=H2
      intro t1 hx
      refine⟨_,rfl,xa,t.t0n,_,_,false,rfl,hx,T.s0v,rfl,T.xNoKind,?_⟩
      refine⟨_,rfl,?_⟩
      (try refine iteF ?_)
      refine⟨_,rfl,xa,t.t0n,_,_,false,rfl,hx,T.s0v,rfl,T.xWrongKind,?_⟩
      refine⟨_,rfl,?_⟩
      (try refine iteF ?_)
      refine⟨_,rfl,xa,t.t0n,_,_,false,rfl,hx,T.s0v,rfl,T.xNoWeight,?_⟩
      refine⟨_,rfl,?_⟩
      (try refine iteF ?_)
      refine⟨_,rfl,xa,t.t0n,_,_,false,rfl,hx,T.s0v,rfl,T.xNoWord,?_⟩
      show b0l 4 (.bl false) [some kv,some v,some .non,some (.ref xa),none] H2 _
      refine⟨_,rfl,_,rfl,?_⟩
      (try refine iteF ?_)
      refine⟨_,rfl,xa,t.t0n,_,_,false,rfl,hx,T.s0v,rfl,T.xUnlike,?_⟩
      refine⟨_,rfl,?_⟩
      (try refine iteF ?_)
      refine⟨_,rfl,xa,t.t0n,_,_,false,rfl,hx,T.s0v,rfl,T.xNoClosure,?_⟩
      refine⟨_,rfl,?_⟩
      (try refine iteF ?_)
      refine⟨_,rfl,xa,t.t0n,_,_,false,rfl,hx,T.s0v,rfl,T.xTooGreat,?_⟩
      show b0l 4 (.bl false) [some kv,some v,some .non,some (.ref xa),some (.bl false)] H2 _
      refine⟨_,rfl,_,rfl,?_⟩
      (try refine iteF ?_)
      refine⟨_,rfl,xa,t.t0n,_,_,false,rfl,hx,T.s0v,rfl,T.xNoName,?_⟩
      refine⟨_,rfl,?_⟩
      (try refine iteF ?_)
      refine⟨_,rfl,xa,t.t0n,_,_,false,rfl,hx,T.s0v,rfl,T.xNoRow,?_⟩
      refine⟨_,rfl,?_⟩
      (try refine iteF ?_)
      refine⟨_,rfl,xa,t.t0n,_,_,true,rfl,hx,T.s0v,rfl,T.vT1,?_⟩
      refine⟨_,rfl,?_⟩
      show b0l 4 (.bl false) [some kv,some v,some .non,some (.ref xa),some (.bl false)] H2 _
      refine⟨_,rfl,xa,t.t0n,_,_,true,rfl,hx,T.s0v,rfl,T.kTT,?_⟩
      refine⟨_,rfl,(by show 3≤sizeLine;omega),fun q1 nq1=>?_⟩
      have e1:=a0e (o:=.tup [V.str (Str.ofString "refused"),.bl true,.bl false]) nq1
      exact⟨_,rfl,kb _ _ ((s1.trans t1).trans e1) ⟨q1,rfl,a0c⟩⟩
def IsIn(y x:List Nat):Prop:=∃u v,x=u++y++v
theorem IsIn.refl(x:List Nat):IsIn x x:=⟨[],[],by simp⟩
theorem IsIn.trans{a b c:List Nat}(h:IsIn a b)(g:IsIn b c):IsIn a c:=by
  obtain⟨u,v,rfl⟩:=h
  obtain⟨u',v',rfl⟩:=g
  exact⟨u'++u,v++v',by simp⟩
theorem IsIn.len{a b:List Nat}(h:IsIn a b):a.length≤b.length:=by
  obtain⟨u,v,rfl⟩:=h
  simp;omega
theorem Free.sub{sep a b:List Nat}(h:Free sep b)(g:IsIn a b):Free sep a:=by
  obtain⟨u,v,rfl⟩:=g
  intro k e
  have hl:=congrArg List.length e
  rw[List.length_take,List.length_drop]at hl
  apply h (u.length+k)
  rw[← List.drop_drop,List.append_assoc,List.drop_left,List.drop_append]
  rw[List.take_append_of_le_length (by rw[List.length_drop];omega)]
  exact e
def Fr(sep:List Nat)(m:Nat)(x:List Nat):Prop:=∀y,IsIn y x→Free sep y→y.length≤m
theorem Fr.mono{sep x:List Nat}{m n:Nat}(h:Fr sep m x)(e:m≤n):Fr sep n x:=fun y a b=>Nat.le_trans (h y a b) e
theorem Fr.short{sep x:List Nat}{m:Nat}(h:x.length≤m):Fr sep m x:=fun y a _=>Nat.le_trans a.len h
theorem Fr.sub{sep x y:List Nat}{m:Nat}(h:Fr sep m x)(g:IsIn y x):Fr sep m y:=fun z a b=>h z (a.trans g) b
theorem Fr.app{sep x z:List Nat}{m n:Nat}(h:Fr sep m x)(g:Fr sep n z):Fr sep (m+n) (x++z):=by
  rintro y ⟨u,v,e⟩ hf
  rw[List.append_assoc]at e
  rcases List.append_eq_append_iff.mp e with ⟨a,e1,e2⟩ | ⟨a,e1,e2⟩
  · have:=g y ⟨a,v,by rw[e2];simp⟩ hf
    omega
  · rcases List.append_eq_append_iff.mp e2 with ⟨b,e3,e4⟩ | ⟨b,e3,e4⟩
    · have:=h y ⟨u,b,by rw[e1,e3];simp⟩ hf
      omega
    · have h1:=h a ⟨u,[],by rw[e1];simp⟩ (hf.sub ⟨[],b,by rw[e3];simp⟩)
      have h2:=g b ⟨[],v,by rw[e4];simp⟩ (hf.sub ⟨a,[],by rw[e3];simp⟩)
      rw[e3,List.length_append]
      omega
theorem e0p{sep:List Nat}(u v:List Nat):¬Free sep (u++sep++v):=fun h=>h u.length (by rw[List.append_assoc,List.drop_left,List.take_left])
theorem Fr_jn{sep:List Nat}{m:Nat}(hs:1≤sep.length):∀(ps:List (List Nat)) (tl:List Nat),(∀p∈ps,p.length≤m)→tl.length+1≤sep.length→Fr sep (m+2 * (sep.length - 1)) (tl++jn sep ps)
  | [],tl,_,ht=>Fr.short (by simp[jn];omega)
  | [p],tl,hp,ht=>Fr.short (by have:=hp p (by simp);simp[jn];omega)
  | p::q::r,tl,hp,ht=>by
    have ih:=Fr_jn (m:=m) hs (q::r) (sep.drop 1) (fun x hx=>hp x (List.mem_cons_of_mem _ hx)) (by rw[List.length_drop];omega)
    have hp0:=hp p (by simp)
    rintro y ⟨u,v,e⟩ hf
    have e':tl++jn sep (p::q::r)=(tl++p)++(sep++jn sep (q::r)):=by simp[jn]
    rw[e',List.append_assoc u y v]at e
    rcases List.append_eq_append_iff.mp e with ⟨a,e1,e2⟩ | ⟨a,e1,e2⟩
    ·
      cases a with
      | nil=>
        rw[List.nil_append]at e2
        rcases List.append_eq_append_iff.mp e2 with ⟨b,e3,e4⟩ | ⟨b,e3,e4⟩
        · exact absurd hf (by rw[e3];have:=e0p (sep:=sep) [] b;simpa using this)
        · cases b with
          | nil=>
            rw[List.append_nil]at e3
            exact absurd hf (by rw[← e3];have:=e0p (sep:=sep) [] [];simpa using this)
          | cons d b=>
            have:=congrArg List.length e3
            rw[List.length_append,List.length_cons]at this
            omega
      | cons c a=>
        refine ih y ?_ hf
        cases sep with
        | nil=>simp at hs
        | cons d s'=>
          have e6:s'++jn (d::s') (q::r)=a++(y++v):=(List.cons.inj e2).2
          exact⟨a,v,by show s'++jn (d::s') (q::r)=_;rw[e6];simp⟩
    ·
      rcases List.append_eq_append_iff.mp e2 with ⟨b,e3,e4⟩ | ⟨b,e3,e4⟩
      · have h1:=congrArg List.length e1
        have h3:=congrArg List.length e3
        simp only[List.length_append]at h1 h3
        omega
      · rcases List.append_eq_append_iff.mp e4 with ⟨d,e5,e6⟩ | ⟨d,e5,e6⟩
        · exact absurd hf (by rw[e3,e5,← List.append_assoc];exact e0p a d)
        · have h1:=congrArg List.length e1
          have h3:=congrArg List.length e3
          have h5:=congrArg List.length e5
          simp only[List.length_append]at h1 h3 h5
          cases d with
          | nil=>
            simp at e5
            exact absurd hf (by rw[e3,← e5];have:=e0p (sep:=sep) a [];simpa using this)
          | cons c d=>
            rw[List.length_cons]at h5
            omega
theorem jn_sum{sep:List Nat}:∀{ls:List (List Nat)},ls≠[]→(jn sep ls).length+sep.length=(ls.map fun p=>p.length+sep.length).sum
  | [p],_=>by simp[jn]
  | p::q::r,_=>by
    have:=jn_sum (sep:=sep) (ls:=q::r) (by simp)
    simp only[jn,List.length_append,List.map_cons,List.sum_cons]at this ⊢
    omega
theorem f0k{sep p:List Nat}{ls:List (List Nat)}(h:ls≠[]):jn sep (p::ls)=p++sep++jn sep ls:=by
  cases ls with
  | nil=>exact absurd rfl h
  | cons q ls=>simp[jn]
theorem jn_app{sep:List Nat}:∀{a b:List (List Nat)},a≠[]→b≠[]→jn sep (a++b)=jn sep a++sep++jn sep b
  | [p],b,_,h=>by rw[List.singleton_append,f0k h];simp[jn]
  | p::q::a,b,_,h=>by
    rw[List.cons_append,f0k (by simp),jn_app (a:=q::a) (by simp) h,f0k (ls:=q::a) (by simp)]
    simp[List.append_assoc]
def pre(sep:List Nat)(P:List (List Nat)):List Nat:=if P=[]then []else jn sep P++sep
theorem jn_two{sep:List Nat}(P R:List (List Nat))(h:R≠[]):jn sep (P++R)=pre sep P++jn sep R:=by
  unfold pre
  by_cases hp:P=[]
  · rw[if_pos hp,hp];rfl
  · rw[if_neg hp,jn_app hp h]
theorem h0z{sep:List Nat}(P R:List (List Nat))(p:List Nat):∃z,(∀q,jn sep (P++[q]++R)=pre sep P++q++z)∧(R≠[]→z=sep++jn sep R)∧(R=[]→z=[]):=by
  by_cases h:R=[]
  · subst h
    exact⟨[],fun q=>by rw[List.append_nil,jn_two _ _ (by simp)];simp[jn],fun z=>absurd rfl z,fun _=>rfl⟩
  · refine⟨sep++jn sep R,fun q=>?_,fun _=>rfl,fun z=>absurd z h⟩
    rw[List.append_assoc,jn_two _ _ (by simp),List.singleton_append,f0k h]
    simp
def PcC(ps ps':List (List Nat)):Prop:=(∃P p R,ps=P++[p]++R∧ps'=P++R)∨(∃P R p,ps=P++R∧R≠[]∧p∈ps∧ps'=P++[p]++R)∨ps'=ps∨∃P p Q q S,ps=P++[p]++Q++[q]++S∧ps'=P++[q]++Q++[p]++S
theorem in_jn{sep:List Nat}{ps:List (List Nat)}{p:List Nat}(h:p∈ps):IsIn p (jn sep ps):=by
  obtain⟨P,R,rfl⟩:=List.append_of_mem h
  obtain⟨z,e,_⟩:=h0z (sep:=sep) P R p
  exact⟨pre sep P,z,by rw[← e p];simp⟩
theorem f0r{sep τ:List Nat}{ps ps':List (List Nat)}{m:Nat}(h:PcC ps ps')(hm:Fr τ m (jn sep ps)) :
    ((jn sep ps').length≤(jn sep ps).length∧Fr τ (5 * m) (jn sep ps'))∨∃p∈ps,(jn sep ps').length=(jn sep ps).length+p.length+sep.length∧Fr τ (2 * m+p.length+sep.length) (jn sep ps'):=by
  rcases h with ⟨P,p,R,rfl,rfl⟩ | ⟨P,R,p,rfl,hR,hp,rfl⟩ | rfl | ⟨P,p,Q,q,S,rfl,rfl⟩
  · obtain⟨z,e,e1,e2⟩:=h0z (sep:=sep) P R p
    rw[e p]at hm ⊢
    left
    by_cases hR:R=[]
    · rw[hR,List.append_nil]
      have:pre sep P=jn sep P++sep∨jn sep P=[]:=by
        unfold pre
        by_cases hP:P=[]
        · right;rw[hP];rfl
        · left;rw[if_neg hP]
      rcases this with h | h
      · have i:IsIn (jn sep P) (pre sep P++p++z):=⟨[],sep++(p++z),by rw[h];simp⟩
        exact⟨i.len,(hm.sub i).mono (by omega)⟩
      · rw[h];exact⟨Nat.zero_le _,Fr.short (Nat.zero_le _)⟩
    · have ez:=e1 hR
      subst ez
      rw[jn_two P R hR]
      have i1:IsIn (pre sep P) (pre sep P++p++(sep++jn sep R)):=⟨[],p++(sep++jn sep R),by simp⟩
      have i2:IsIn (jn sep R) (pre sep P++p++(sep++jn sep R)):=⟨pre sep P++p++sep,[],by simp⟩
      exact⟨by simp;omega,((hm.sub i1).app (hm.sub i2)).mono (by omega)⟩
  · right
    refine⟨p,hp,?_⟩
    obtain⟨z,e,e1,e2⟩:=h0z (sep:=sep) P R p
    have ez:=e1 hR
    subst ez
    rw[jn_two P R hR]at hm ⊢
    rw[e p]
    have i1:IsIn (pre sep P) (pre sep P++jn sep R):=⟨[],jn sep R,by simp⟩
    have i2:IsIn (jn sep R) (pre sep P++jn sep R):=⟨pre sep P,[],by simp⟩
    refine⟨by simp;omega,?_⟩
    have f1:Fr τ (p.length+sep.length) (p++sep):=Fr.short (by simp)
    have:=((hm.sub i1).app f1).app (hm.sub i2)
    rw[show pre sep P++p++(sep++jn sep R)=pre sep P++(p++sep)++jn sep R by simp]
    exact this.mono (by omega)
  · left
    exact⟨Nat.le_refl _,hm.mono (by omega)⟩
  · left
    obtain⟨z,e,e1,_⟩:=h0z (sep:=sep) P (Q++[q]++S) p
    obtain⟨y,f,_⟩:=h0z (sep:=sep) Q S q
    obtain⟨z',e',e1',_⟩:=h0z (sep:=sep) P (Q++[p]++S) q
    have a1:jn sep (P++[p]++Q++[q]++S)=pre sep P++p++(sep++(pre sep Q++q++y)):=by
      rw[show P++[p]++Q++[q]++S=P++[p]++(Q++[q]++S) by simp,e p,e1 (by simp),f q]
    have a2:jn sep (P++[q]++Q++[p]++S)=pre sep P++q++(sep++(pre sep Q++p++y)):=by
      rw[show P++[q]++Q++[p]++S=P++[q]++(Q++[p]++S) by simp,e' q,e1' (by simp),f p]
    rw[a1]at hm ⊢
    rw[a2]
    refine⟨by simp;omega,?_⟩
    have i1:IsIn (pre sep P) (pre sep P++p++(sep++(pre sep Q++q++y))):=⟨[],p++(sep++(pre sep Q++q++y)),by simp⟩
    have i2:IsIn p (pre sep P++p++(sep++(pre sep Q++q++y))):=⟨pre sep P,sep++(pre sep Q++q++y),by simp⟩
    have i3:IsIn (sep++pre sep Q) (pre sep P++p++(sep++(pre sep Q++q++y))):=⟨pre sep P++p,q++y,by simp⟩
    have i4:IsIn q (pre sep P++p++(sep++(pre sep Q++q++y))):=⟨pre sep P++p++(sep++pre sep Q),y,by simp⟩
    have i5:IsIn y (pre sep P++p++(sep++(pre sep Q++q++y))):=⟨pre sep P++p++(sep++pre sep Q)++q,[],by simp⟩
    have:=((((hm.sub i1).app (hm.sub i4)).app (hm.sub i3)).app (hm.sub i2)).app (hm.sub i5)
    rw[show pre sep P++q++(sep++(pre sep Q++p++y))=pre sep P++q++(sep++pre sep Q)++p++y by simp]
    exact this.mono (by omega)
theorem pcc_mem{ps ps':List (List Nat)}(h:PcC ps ps'):∀p∈ps',p∈ps:=by
  rcases h with ⟨P,p,R,rfl,rfl⟩ | ⟨P,R,p,rfl,hR,hp,rfl⟩ | rfl | ⟨P,p,Q,q,S,rfl,rfl⟩
  · intro x hx;simp at hx ⊢;rcases hx with h | h <;>simp[h]
  · intro x hx
    simp only[List.mem_append,List.mem_singleton]at hx hp ⊢
    rcases hx with (h | rfl) | h
    · exact .inl h
    · exact hp
    · exact .inr h
  · exact fun _ h=>h
  · intro x hx;simp at hx ⊢;rcases hx with h | h | h | h | h <;>simp[h]
def Sg(sep:List Nat):Prop:=sep=[32,124,32]∨sep=[44,32]∨sep=[32]
theorem Sg.gd{sep:List Nat}(h:Sg sep):Gd 3 sep∧1≤sep.length∧sep.length≤3:=by rcases h with rfl | rfl | rfl <;>decide
def Chg(x x':List Nat):Prop:=(∃sep ps',Sg sep∧PcC (spG sep x) ps'∧x'=jn sep ps')∨(∃u m v c,x=u++m++v∧c.length≤1∧x'=u++c++v)∨(∃P p R z,spG [32,124,32] x=P++[p]++R∧z.length≤4∧x'=jn [32,124,32] (P++[z]++R))
theorem free32{sep p:List Nat}(h:Free [32] p)(hs:32∈sep):Free sep p:=by
  intro k e
  have hm:32∈p:=by
    have:32∈(p.drop k).take sep.length:=by rw[e];exact hs
    exact List.mem_of_mem_drop (List.mem_of_mem_take this)
  obtain⟨u,v,rfl⟩:=List.append_of_mem hm
  exact e0p (sep:=[32]) u v (by simpa using h)
theorem chg_B{x x':List Nat}{n a b:Nat}(g:Gd n x)(ha:Fr [32,124,32] a x)(hb:Fr [44,32] b x)(c:Chg x x'):∃a' b',Fr [32,124,32] a' x'∧Fr [44,32] b' x'∧((x'.length≤x.length+a+3∧a'≤a+4∧b'≤2 * b+a+3)∨(x'.length≤x.length+b+2∧a'≤2 * a+b+2∧b'≤b+4)∨(∃c,c≤a∧c≤b∧x'.length≤x.length+c+1∧a'≤2 * a+c+1∧b'≤2 * b+c+1)∨(x'.length≤x.length+4∧a'≤5 * a+8∧b'≤5 * b+8)):=by
  rcases c with ⟨sep,ps',hs,hp,rfl⟩ | ⟨u,m,v,c,rfl,hc,rfl⟩ | ⟨P,p,R,z,hz,hl,rfl⟩
  · obtain⟨g1,g2,g3⟩:=hs.gd
    obtain⟨_,_,ej,pf⟩:=d0a g2 g1 g
    have inx:∀p∈spG sep x,IsIn p x∧Free sep p:=fun p hp=>⟨by have:=in_jn (sep:=sep) hp;rw[ej]at this;exact this,(pf p hp).2⟩
    have mem:=pcc_mem hp
    rcases hs with rfl | rfl | rfl
    · have pa:∀p∈spG [32,124,32] x,p.length≤a:=fun p hp=>ha p (inx p hp).1 (inx p hp).2
      have fa:=Fr_jn (m:=a) (sep:=[32,124,32]) (by decide) ps' [] (fun p hp=>pa p (mem p hp)) (by decide)
      rw[List.nil_append]at fa
      have:=f0r (τ:=[44,32]) (m:=b) hp (by rw[ej];exact hb)
      rw[ej]at this
      rcases this with ⟨l1,f1⟩ | ⟨p,hpm,l1,f1⟩
      · exact⟨_,_,fa,f1,.inr (.inr (.inr ⟨by omega,by simp;omega,by omega⟩))⟩
      · have:=pa p hpm
        exact⟨_,_,fa,f1,.inl ⟨by simp at l1;omega,by simp,by simp;omega⟩⟩
    · have pa:∀p∈spG [44,32] x,p.length≤b:=fun p hp=>hb p (inx p hp).1 (inx p hp).2
      have fa:=Fr_jn (m:=b) (sep:=[44,32]) (by decide) ps' [] (fun p hp=>pa p (mem p hp)) (by decide)
      rw[List.nil_append]at fa
      have:=f0r (τ:=[32,124,32]) (m:=a) hp (by rw[ej];exact ha)
      rw[ej]at this
      rcases this with ⟨l1,f1⟩ | ⟨p,hpm,l1,f1⟩
      · exact⟨_,_,f1,fa,.inr (.inr (.inr ⟨by omega,by omega,by simp;omega⟩))⟩
      · have:=pa p hpm
        exact⟨_,_,f1,fa,.inr (.inl ⟨by simp at l1;omega,by simp;omega,by simp⟩)⟩
    · have h1:=f0r (τ:=[32,124,32]) (m:=a) hp (by rw[ej];exact ha)
      have h2:=f0r (τ:=[44,32]) (m:=b) hp (by rw[ej];exact hb)
      rw[ej]at h1 h2
      rcases h1 with ⟨l1,f1⟩ | ⟨p,hpm,l1,f1⟩
      · rcases h2 with ⟨l2,f2⟩ | ⟨q,hqm,l2,f2⟩
        · exact⟨_,_,f1,f2,.inr (.inr (.inr ⟨by omega,by omega,by omega⟩))⟩
        · simp at l2;omega
      · rcases h2 with ⟨l2,f2⟩ | ⟨q,hqm,l2,f2⟩
        · simp at l1;omega
        · have e:q.length=p.length:=by omega
          rw[e]at f2
          have pa:=ha p (inx p hpm).1 (free32 (inx p hpm).2 (by decide))
          have pb:=hb p (inx p hpm).1 (free32 (inx p hpm).2 (by decide))
          exact⟨_,_,f1,f2,.inr (.inr (.inl ⟨p.length,pa,pb,by simp at l1;omega,by simp,by simp⟩))⟩
  · have i1:IsIn u (u++m++v):=⟨[],m++v,by simp⟩
    have i2:IsIn v (u++m++v):=⟨u++m,[],by simp⟩
    have f:∀{τ:List Nat} {k:Nat},Fr τ k (u++m++v)→Fr τ (k+1+k) (u++c++v):=fun h=>((h.sub i1).app (Fr.short hc)).app (h.sub i2)
    exact⟨_,_,f ha,f hb,.inr (.inr (.inr ⟨by simp;omega,by omega,by omega⟩))⟩
  · obtain⟨_,_,ej,pf⟩:=d0a (sep:=[32,124,32]) (by decide) (show Gd 3 [32,124,32] by decide) g
    rw[hz]at ej pf
    obtain⟨y,e,_⟩:=h0z (sep:=[32,124,32]) P R p
    have ex:x=pre [32,124,32] P++p++y:=by rw[← e p,ej]
    have i1:IsIn (pre [32,124,32] P) x:=⟨[],p++y,by rw[ex];simp⟩
    have i2:IsIn y x:=⟨pre [32,124,32] P++p,[],by rw[ex];simp⟩
    have fb:Fr [44,32] (b+4+b) (jn [32,124,32] (P++[z]++R)):=by
      rw[e z]
      exact((hb.sub i1).app (Fr.short hl)).app (hb.sub i2)
    have fa:=Fr_jn (m:=a+4) (sep:=[32,124,32]) (by decide) (P++[z]++R) [] (fun q hq=>by
      have:q=z∨q∈P++[p]++R:=by
        simp only[List.mem_append,List.mem_singleton]at hq ⊢
        rcases hq with (h | h) | h
        · exact .inr (.inl (.inl h))
        · exact .inl h
        · exact .inr (.inr h)
      rcases this with rfl | hq
      · omega
      · have:=ha q (by have:=in_jn (sep:=[32,124,32]) hq;rw[ej]at this;exact this) (pf q hq).2
        omega) (by decide)
    rw[List.nil_append]at fa
    refine⟨_,_,fa,fb,.inr (.inr (.inr ⟨?_,by simp;omega,by omega⟩))⟩
    rw[e z,ex]
    simp
    omega
theorem i0f{x x':List Nat}{n:Nat}(g:Gd n x)(c:Chg x x'):x'.length+6≤2 * (x.length+6):=by
  obtain⟨a',b',_,_,h⟩:=chg_B g (Fr.short (Nat.le_refl _)) (Fr.short (Nat.le_refl _)) c
  rcases h with h | h | ⟨c,h⟩ | h <;>omega
def J(x0:List Nat):Nat→List Nat→Prop
  | 0,x=>x=x0
  | i+1,x=>∃y,J x0 i y∧Chg y x∧(∀c∈x,c < 128)
theorem J.asc{x0:List Nat}(g:∀c∈x0,c < 128):∀{i:Nat} {x:List Nat},J x0 i x→∀c∈x,c < 128
  | 0,x,h=>by rw[show x=x0 from h];exact g
  | i+1,x,⟨_,_,_,h⟩=>h
theorem Fr.lo{sep x:List Nat}{m:Nat}(h:Fr sep m x):∃k,Fr sep k x∧k≤m∧k≤x.length:=by
  by_cases e:m≤x.length
  · exact⟨m,h,Nat.le_refl _,e⟩
  · exact⟨x.length,Fr.short (Nat.le_refl _),by omega,Nat.le_refl _⟩
theorem step_B{x x':List Nat}{a b:Nat}(g:∀c∈x,c < 128)(ha:Fr [32,124,32] a x)(hb:Fr [44,32] b x)(c:Chg x x'):∃a' b',Fr [32,124,32] a' x'∧Fr [44,32] b' x'∧a'≤x'.length∧b'≤x'.length∧((x'.length≤x.length+a+3∧a'≤a+4∧b'≤2 * b+a+3)∨(x'.length≤x.length+b+2∧a'≤2 * a+b+2∧b'≤b+4)∨(x'.length≤x.length+b+1∧x'.length≤x.length+a+1∧a'≤2 * a+b+1∧b'≤3 * b+1∧a'≤3 * a+1∧b'≤2 * b+a+1)∨(x'.length≤x.length+4∧a'≤5 * a+8∧b'≤5 * b+8)):=by
  obtain⟨a1,b1,f1,f2,h⟩:=chg_B (n:=x.length) ⟨Nat.le_refl _,g⟩ ha hb c
  obtain⟨a',fa,la,lx⟩:=f1.lo
  obtain⟨b',fb,lb,ly⟩:=f2.lo
  refine⟨a',b',fa,fb,lx,ly,?_⟩
  rcases h with h | h | ⟨c,h⟩ | h
  · exact .inl ⟨by omega,by omega,by omega⟩
  · exact .inr (.inl ⟨by omega,by omega,by omega⟩)
  · exact .inr (.inr (.inl ⟨by omega,by omega,by omega,by omega,by omega,by omega⟩))
  · exact .inr (.inr (.inr ⟨by omega,by omega,by omega⟩))
theorem J_three{x0 x:List Nat}(g:∀c∈x0,c < 128)(hl:x0.length≤8242)(ha:Fr [32,124,32] 2508 x0)(hb:Fr [44,32] 728 x0)(h:J x0 3 x):x.length+6≤32768:=by
  obtain⟨y2,⟨y1,⟨y0,e0,c1,g1⟩,c2,g2⟩,c3,g3⟩:=h
  obtain rfl:y0=x0:=e0
  obtain⟨a1,b1,fa1,fb1,la1,lb1,h1⟩:=step_B g ha hb c1
  obtain⟨a2,b2,fa2,fb2,la2,lb2,h2⟩:=step_B g1 fa1 fb1 c2
  obtain⟨a3,b3,fa3,fb3,la3,lb3,h3⟩:=step_B g2 fa2 fb2 c3
  rcases h1 with h1 | h1 | h1 | h1 <;>rcases h2 with h2 | h2 | h2 | h2 <;>rcases h3 with h3 | h3 | h3 | h3 <;>omega
theorem J_len{x0:List Nat}(g:∀c∈x0,c < 128)(hl:x0.length≤8242)(ha:Fr [32,124,32] 2508 x0)(hb:Fr [44,32] 728 x0):∀{i:Nat} {x:List Nat},J x0 (i+3) x→x.length+6≤2 ^ (15+i)
  | 0,x,h=>by
    rw[show 2 ^ (15+0)=32768 by decide]
    exact J_three g hl ha hb h
  | i+1,x,⟨y,hy,c,_⟩=>by
    have ih:=J_len g hl ha hb hy
    have:=i0f (n:=y.length) ⟨Nat.le_refl _,hy.asc g⟩ c
    rw[show 15+(i+1)=(15+i)+1 from rfl,Nat.pow_succ]
    omega
theorem J_small{x0:List Nat}(g:∀c∈x0,c < 128)(hl:x0.length≤8242){i:Nat}{x:List Nat}(hi:i≤2)(h:J x0 i x):x.length+6≤40000:=by
  have h0:∀{y},J x0 0 y→y.length+6≤8248:=fun{y} h=>by
    have e:y=x0:=h
    rw[e];omega
  have h1:∀{y},J x0 (0+1) y→y.length+6≤16496:=fun{y} ⟨z,hz,c,_⟩=>by
    have:=i0f (n:=z.length) ⟨Nat.le_refl _,J.asc g hz⟩ c
    have:=h0 hz
    omega
  have h2:∀{y},J x0 (0+1+1) y→y.length+6≤32992:=fun{y} ⟨z,hz,c,_⟩=>by
    have:=i0f (n:=z.length) ⟨Nat.le_refl _,J.asc g hz⟩ c
    have:=h1 hz
    omega
  cases i with
  | zero=>have:=h0 h;omega
  | succ i=>
    cases i with
    | zero=>have:=h1 h;omega
    | succ i=>
      cases i with
      | zero=>have:=h2 h;omega
      | succ i=>omega
theorem J_all{x0:List Nat}(g:∀c∈x0,c < 128)(hl:x0.length≤8242)(ha:Fr [32,124,32] 2508 x0)(hb:Fr [44,32] 728 x0){i:Nat}{x:List Nat}(h:J x0 i x)(hi:i≤12):x.length+6≤16777216∧(i≤11→x.length+6≤8388608):=by
  by_cases h2:i≤2
  · have:=J_small g hl h2 h
    exact⟨by omega,fun _=>by omega⟩
  · obtain⟨j,rfl⟩:∃j,i=j+3:=⟨i - 3,by omega⟩
    have h3:=J_len g hl ha hb h
    refine⟨Nat.le_trans h3 (Nat.le_trans (Nat.pow_le_pow_right (by decide) (show 15+j≤24 by omega)) (by decide)),fun h11=>Nat.le_trans h3 (Nat.le_trans (Nat.pow_le_pow_right (by decide) (show 15+j≤23 by omega)) (by decide))⟩
theorem fold_is{sep:Str}:∀(ls:List Str) (a:Nat),ls.foldl (fun x y=>x+y.length+sep.length) a=a+(ls.map fun p=>p.length+sep.length).sum
  | [],a=>by simp
  | p::ls,a=>by
    rw[List.foldl_cons,fold_is ls,List.map_cons,List.sum_cons]
    omega
theorem r_joinG{sep:List Nat}{sz:Str}(hz:sz=tx sep){a:Addr}{ls:List (List Nat)}{H:Hp}{Q:VK}(hl:(jn sep ls).length+sep.length≤16777216)(hq:SqL K H a (ls.map vT))(q:Q (vT (jn sep ls)) H):rJoin K (.str sz) [.ref a] H Q:=by
  subst hz
  refine⟨tx sep,a,ls.map tx,rfl,rfl,by rw[List.map_map];exact hq,?_,by rw[join_is];exact q⟩
  unfold PySem.JoinOk Builtin.Str.tooLong
  have z:sizeLine=16777216:=by decide
  rw[List.foldl_toArray]
  simp only[Bool.not_eq_true',decide_eq_false_iff_not]
  rw[fold_is,List.map_map]
  have e:(ls.map ((fun p:Str=>p.length+(tx sep).length) ∘ tx))=ls.map fun p=>p.length+sep.length:=List.map_congr_left fun p _=>by simp[a0s]
  rw[e]
  by_cases h:ls=[]
  · rw[h];simp
  · rw[← jn_sum h];omega
theorem Dr.neT{H:Hp}{a b:Addr}{ps:List (List Nat)}(d:Dr H a)(h:H b=some (.lst (ps.map vT))):b≠a:=fun e=>by
  rw[e]at h
  obtain⟨x,h1 | ⟨y,h1⟩⟩:=d
  · rw[h]at h1
    cases ps with
    | nil=>cases h1
    | cons p ps=>cases h1
  · rw[h]at h1
    cases ps with
    | nil=>cases h1
    | cons p ps=>cases h1
theorem cut_from(xs:List V)(k:Nat):cutV xs (some (k:Int)) none=xs.drop k:=by
  unfold cutV
  rw[HT.j0h,HT.j0i]
  by_cases h:k≤xs.length
  · rw[Nat.min_eq_left h]
    exact List.take_of_length_le (by rw[List.length_drop];exact Nat.le_refl _)
  · rw[Nat.min_eq_right (by omega),Nat.sub_self,List.take_zero,List.drop_of_length_le (by omega)]
theorem tcv{x v:V}{H:Hp}{i:Nat}{σ:L2.St}{Q:VK}(e:σ[i]? = some (some v))(h:rSplit x [v] H Q):tCons (tVar i) tNil σ H (fun xs H2=>rSplit x xs H2 Q):=⟨v,e,h⟩
theorem g0g{α:Type}{ps:List α}{i:Nat}{p:α}(h:ps[i]? = some p):ps=ps.take i++[p]++ps.drop (i+1):=by
  obtain⟨hi,e⟩:=List.getElem?_eq_some_iff.mp h
  rw[List.append_assoc,List.singleton_append,← e,← List.drop_eq_getElem_cons hi,List.take_append_drop]
theorem swap_lt{ps:List (List Nat)}{i j:Nat}{p q:List Nat}(h:i < j)(hi:ps[i]? = some p)(hj:ps[j]? = some q):PcC ps ((ps.set i q).set j p):=by
  have e:=g0g hi
  have jl:=(List.getElem?_eq_some_iff.mp hj).1
  have hR:(ps.drop (i+1))[j - i - 1]? = some q:=by rw[List.getElem?_drop,show i+1+(j - i - 1)=j by omega];exact hj
  have e2:=g0g hR
  have lP:(ps.take i).length=i:=by rw[List.length_take];omega
  have lQ:((ps.drop (i+1)).take (j - i - 1)).length=j - i - 1:=by rw[List.length_take,List.length_drop];omega
  revert e e2 lP lQ
  generalize ps.take i=P
  generalize (ps.drop (i+1)).take (j - i - 1)=Q
  generalize (ps.drop (i+1)).drop (j - i - 1+1)=S
  generalize ps.drop (i+1)=R
  intro e e2 lP lQ
  subst e2
  refine .inr (.inr (.inr ⟨P,p,Q,q,S,by rw[e];simp,?_⟩))
  rw[e]
  have s1:(P++[p]++(Q++[q]++S)).set i q=P++[q]++(Q++[q]++S):=by
    rw[List.append_assoc,List.append_assoc,List.set_append_right _ _ (by omega),lP,Nat.sub_self];simp
  rw[s1]
  have s2:(P++[q]++(Q++[q]++S)).set j p=P++[q]++(Q++[p]++S):=by
    rw[List.set_append_right _ _ (by simp;omega),List.append_assoc Q,List.set_append_right _ _ (by simp;omega),show j - (P++[q]).length - Q.length=0 by simp;omega]
    simp
  rw[s2];simp
theorem swap_ok{ps:List (List Nat)}{i j:Nat}{p q:List Nat}(hi:ps[i]? = some p)(hj:ps[j]? = some q):PcC ps ((ps.set i q).set j p):=by
  rcases Nat.lt_trichotomy i j with h | h | h
  · exact swap_lt h hi hj
  · subst h
    rw[hi]at hj
    cases hj
    refine .inr (.inr (.inl ?_))
    rw[List.set_set]
    obtain⟨hl,e⟩:=List.getElem?_eq_some_iff.mp hi
    rw[← e];exact List.set_getElem_self ..
  · rw[List.set_comm _ _ (by omega)]
    exact swap_lt h hj hi
theorem chp_len{sep x:List Nat}{n:Nat}{ps':List (List Nat)}(g:Gd n x)(hs:Sg sep)(h:PcC (spG sep x) ps'):(jn sep ps').length+6≤2 * (x.length+6):=i0f g (.inl ⟨sep,ps',hs,h,rfl⟩)
theorem jn_asc{sep:List Nat}{ls:List (List Nat)}(hs:∀c∈sep,c < 128)(h:∀p∈ls,∀c∈p,c < 128):∀c∈jn sep ls,c < 128:=fun c hc=>(jn_in hc).elim (hs c) fun⟨p,h1,h2⟩=>h p h1 c h2
def sp_lpieces:Sp:=fun vs H Q _=>∃a x sep,vs=[.ref a,vT x,vT sep]∧(Dr H a∧Sg sep∧(∀c∈x,c < 128)∧x.length+6≤8388608)∧∀x' H',SameX a H H'→Dr H' a→Chg x x'→(∀c∈x',c < 128)→Q (vT x') H'
theorem j0q(T:Txt K mg t):FnOk Pr w K mg base CX0 2 t.p0v t.n0x ["_law_state_here","_law_text_here","_law_between"] sp_lpieces:=by
  refine T.n0j.ok sc_law_pieces (fun vs H Q E h=>?_) (fun cdv A outer s H vs Q E hr h=>?_)
  · obtain⟨a,x,sep,rfl,_⟩:=h
    rfl
  · obtain⟨a,x,sep,rfl,⟨hD,hs,asc,hl⟩,k⟩:=h
    have zl:16777216≤sizeLine:=by decide
    obtain⟨g1,g2,g3⟩:=hs.gd
    have g:Gd 16777215 x:=⟨by omega,asc⟩
    obtain⟨pne,pl,ej,pf⟩:=d0a g2 g1 g
    refine⟨_,(a0d (a0q (i:=3) sc_law_pieces.nd rfl (Or.inl rfl) (c0s PySem.F.plainAttrs_str PySem.F.slot_str_split PySem.F.type_str_split c0d (pv 1) (a0a (pv 2) a0b))) (a0d (a0q (i:=4) sc_law_pieces.nd rfl (Or.inl rfl) (a0p (a0r T) hr.m rfl T.p0r T.q0h.kp T.p0n .nil b0b (a0a (pv 0) (a0a (a0k a0v (by rfl) T.z_len PySem.boot_len (a0a (pv 3) a0b)) a0b)))) (a0d (a0q (i:=5) sc_law_pieces.nd rfl (Or.inl rfl) (a0p (a0r T) hr.m rfl T.p0r T.q0h.kp T.p0n .nil b0b (a0a (pv 0) (a0a (a0k a0v (by rfl) T.z_len PySem.boot_len (a0a (pv 3) a0b)) a0b)))) (a0d (a0q (i:=6) sc_law_pieces.nd rfl (Or.inl rfl) (a0p (a0r T) hr.m rfl T.p0r T.q0h.kp T.p0n .nil b0b (a0a (pv 0) (a0a a0f a0b)))) (a0d (a0y (a0j b0j (pv 6) a0f (a0l _)) (a0g (a0q (i:=3) sc_law_pieces.nd rfl (Or.inl rfl) (b0c op_cat (b0n e0y (pv 3) c0c (b0s (pv 4))) (b0n e0y (pv 3) (b0s (b0c c0w (pv 4) a0f)) c0c)))) (a0g (a0y (a0j b0j (pv 6) a0f (a0l _)) (a0g (a0q (i:=3) sc_law_pieces.nd rfl (Or.inl rfl) (b0c op_cat (b0c op_cat (b0n e0y (pv 3) c0c (b0s (pv 4))) (b0e (a0a (b0d b0a (pv 3) (pv 5) (fun _ _=>rfl)) a0b))) (b0n e0y (pv 3) (b0s (pv 4)) c0c)))) (a0g (ps_asg (b0u (a0a (b0d b0a (pv 3) (pv 5) (fun _ _=>rfl)) (a0a (b0d b0a (pv 3) (pv 4) (fun _ _=>rfl)) a0b))) (pg_tup rfl (f0q (pg_sub (pv 3) (pv 4) f0m) (f0q (pg_sub (pv 3) (pv 5) f0m) pgs_nil)))))))) (a0g (a0o (c0s PySem.F.plainAttrs_str PySem.F.slot_str_join PySem.F.type_str_join h0r (pv 2) (a0a (pv 3) a0b))))))))),?_⟩
    refine⟨_,rfl,rfl,tcv (i:=2) rfl (c0a rfl g2 g1 g fun a1 n1=>?_)⟩
    have fin:∀ps',PcC (spG sep x) ps'→(jn sep ps').length+sep.length≤16777216∧Chg x (jn sep ps')∧∀c∈jn sep ps',c < 128:=fun ps' h=>by
      have:=chp_len g hs h
      exact⟨by omega,.inl ⟨sep,ps',hs,h,rfl⟩,jn_asc g1.2 fun p hp=>(pf p (pcc_mem h p hp)).1.2⟩
    revert pne pl pf fin
    generalize spG sep x=ps
    intro pne pl pf fin
    have q1:=a0e (o:=.lst (ps.map vT)) n1
    have k1:=a0c (H:=H) (a:=a1) (o:=.lst (ps.map vT))
    revert q1 k1
    generalize upd H a1 (.lst (ps.map vT))=H1
    intro q1 k1
    have d1:=hD.same q1
    have ne1:=d1.neT k1
    have p1:=List.length_pos_iff.mpr pne
    have lc:∀{G},G a1=some (.lst (ps.map vT))→LenV K (.ref a1) G ps.length:=fun h=>.inl ⟨_,SqL.of h,by simp⟩
    show b0l 3 (.ref a1) [some (.ref a),some (vT x),some (vT sep),none,none,none,none] H1 _
    refine⟨_,rfl,_,rfl,_,_,rfl,lc k1,a,_,rfl,⟨d1,by omega,by omega⟩,fun r2 H2 s2 d2 a2 b2=>?_⟩
    obtain⟨i,rfl⟩:∃i:Nat,r2=(i:Int):=⟨r2.toNat,by omega⟩
    have k2:=s2 _ _ ne1 k1
    show b0l 4 (.int (i:Int)) [some (.ref a),some (vT x),some (vT sep),some (.ref a1),none,none,none] H2 _
    refine⟨_,rfl,_,rfl,_,_,rfl,lc k2,a,_,rfl,⟨d2,by omega,by omega⟩,fun r3 H3 s3 d3 a3 b3=>?_⟩
    obtain⟨j,rfl⟩:∃j:Nat,r3=(j:Int):=⟨r3.toNat,by omega⟩
    have k3:=s3 _ _ ne1 k2
    show b0l 5 (.int (j:Int)) [some (.ref a),some (vT x),some (vT sep),some (.ref a1),some (.int (i:Int)),none,none] H3 _
    refine⟨_,rfl,a,3,rfl,⟨d3,by decide,by decide⟩,fun way H4 s4 d4 a4 b4=>?_⟩
    have k4:=s4 _ _ ne1 k3
    show b0l 6 (.int way) [some (.ref a),some (vT x),some (vT sep),some (.ref a1),some (.int (i:Int)),some (.int (j:Int)),none] H4 _
    have sx:=((SameX.of q1).trans s2).trans (s3.trans s4)
    obtain⟨p,ep⟩:∃p,ps[i]? = some p:=⟨_,List.getElem?_eq_getElem (by omega)⟩
    obtain⟨q,eq⟩:∃q,ps[j]? = some q:=⟨_,List.getElem?_eq_getElem (by omega)⟩
    have epv:(ps.map vT)[i]? = some (vT p):=by rw[List.getElem?_map,ep];rfl
    have eqv:(ps.map vT)[j]? = some (vT q):=by rw[List.getElem?_map,eq];rfl
    refine(fun(key:∀(q5:Addr) (ps':List (List Nat)) (G:Hp),PcC ps ps'→SameX a H G→Dr G a→G q5=some (.lst (ps'.map vT))→(?F:L2.St→Hp→Prop) [some (.ref a),some (vT x),some (vT sep),some (.ref q5),some (.int (i:Int)),some (.int (j:Int)),some (.int way)] G)=>?main) ?rest
    case main=>
      have ec1:((i:Int)+1)=((i+1:Nat):Int):=by omega
      refine⟨_,rfl,rfl,_,rfl,?_⟩
      dsimp only
      refine iteI (fun _=>?_) (fun _=>?_)
      · refine⟨_,rfl,_,rfl,_,rfl,a1,_,rfl,SqL.of k4,fun p5 n5=>?_⟩
        rw[h0f,← List.map_take]
        have u1:=a0e (o:=.lst ((ps.take i).map vT)) n5
        refine⟨_,rfl,_,rfl,_,_,rfl,rfl,_,rfl,a1,_,rfl,SqL.of (u1 _ _ k4),fun p6 n6=>?_⟩
        rw[ec1,cut_from,← List.map_drop]
        have u2:=a0e (o:=.lst ((ps.drop (i+1)).map vT)) n6
        refine⟨_,_,_,_,rfl,rfl,u2 _ _ a0c,a0c,(by simp;omega),fun p7 n7=>?_⟩
        rw[← List.map_append]
        have u3:=a0e (o:=.lst ((ps.take i++ps.drop (i+1)).map vT)) n7
        have u:=u1.trans (u2.trans u3)
        dsimp only[b0l]
        exact key p7 (ps.take i++ps.drop (i+1)) _ (.inl ⟨_,p,_,g0g ep,rfl⟩) (sx.trans (.of u)) (d4.same u) a0c
      refine⟨_,rfl,rfl,_,rfl,?_⟩
      dsimp only
      refine iteI (fun _=>?_) (fun _=>?_)
      · refine⟨_,rfl,_,rfl,_,rfl,a1,_,rfl,SqL.of k4,fun p5 n5=>?_⟩
        rw[h0f,← List.map_take]
        have u1:=a0e (o:=.lst ((ps.take i).map vT)) n5
        refine⟨_,rfl,_,rfl,_,_,_,_,rfl,rfl,SqL.of (u1 _ _ k4),c0k eqv,(by show 1≤sizeLine;omega),fun p6 n6=>?_⟩
        have u2:=a0e (o:=.lst [vT q]) n6
        refine⟨_,_,_,_,rfl,rfl,u2 _ _ a0c,a0c,(by simp;omega),fun p7 n7=>?_⟩
        have u3:=a0e (o:=.lst ((ps.take i).map vT++[vT q])) n7
        refine⟨_,rfl,_,rfl,_,rfl,a1,_,rfl,SqL.of ((u1.trans (u2.trans u3)) _ _ k4),fun p8 n8=>?_⟩
        rw[cut_from,← List.map_drop]
        have u4:=a0e (o:=.lst ((ps.drop i).map vT)) n8
        refine⟨_,_,_,_,rfl,rfl,u4 _ _ a0c,a0c,(by simp;omega),fun p9 n9=>?_⟩
        have e9:((ps.take i).map vT++[vT q])++(ps.drop i).map vT=(ps.take i++[q]++ps.drop i).map vT:=by simp
        rw[e9]
        have u5:=a0e (o:=.lst ((ps.take i++[q]++ps.drop i).map vT)) n9
        have u:=(u1.trans (u2.trans u3)).trans (u4.trans u5)
        dsimp only[b0l]
        exact key p9 _ _ (.inr (.inl ⟨ps.take i,ps.drop i,q,(List.take_append_drop ..).symm,(fun z=>by have:=congrArg List.length z;rw[List.length_drop]at this;simp at this;omega),List.mem_of_getElem? eq,rfl⟩)) (sx.trans (.of u)) (d4.same u) a0c
      · refine⟨_,rfl,_,rfl,_,_,_,_,rfl,rfl,SqL.of k4,c0k eqv,_,rfl,_,rfl,_,_,_,_,rfl,rfl,SqL.of k4,c0k epv,(by show 2≤sizeLine;omega),fun p5 n5=>?_⟩
        have u1:=a0e (o:=.tup [vT q,vT p]) n5
        have k5:=u1 _ _ k4
        have ix:∀{n m:Nat},m < n→ixN n (m:Int)=some m:=fun{n m} h=>by
          unfold ixN
          rw[if_pos (by omega),if_pos (by omega),Int.toNat_natCast]
        refine⟨p5,_,rfl,SqT.of a0c,rfl,_,_,rfl,_,rfl,_,rfl,a1,_,_,i,rfl,rfl,k5,ix (by rw[List.length_map];omega),?_⟩
        refine⟨_,_,rfl,_,rfl,_,rfl,a1,_,_,j,rfl,rfl,a0c,ix (by rw[List.length_set,List.length_map];omega),rfl,?_⟩
        rw[upd_upd]
        have e5:((ps.map vT).set i (vT q)).set j (vT p)=((ps.set i q).set j p).map vT:=by rw[List.map_set,List.map_set]
        rw[e5]
        have sF:SameX a H (upd (upd H4 p5 (.tup [vT q,vT p])) a1 (.lst (((ps.set i q).set j p).map vT))):=fun b o hb e=>by
          rw[a0w (a0t e n1)]
          exact u1 _ _ (sx _ _ hb e)
        have dF:Dr (upd (upd H4 p5 (.tup [vT q,vT p])) a1 (.lst (((ps.set i q).set j p).map vT))) a:=by
          obtain⟨x,h⟩:=d4.same u1
          exact⟨x,by rw[a0w (Ne.symm ne1)];exact h⟩
        exact key a1 _ _ (swap_ok ep eq) sF dF a0c
    case rest=>
      intro q5 ps' G hc sG dG kG
      obtain⟨f1,f2,f3⟩:=fin ps' hc
      refine⟨_,rfl,rfl,_,rfl,?_⟩
      dsimp only[tNil]
      exact r_joinG rfl f1 (SqL.of kG) (k _ _ sG dG f2 f3)
theorem two_chg{x:List Nat}{m e:Nat}(c:List Nat)(hc:c.length≤1):Chg x (x.take m++c++x.drop (m+e)):=by
  refine .inr (.inl ⟨x.take m,(x.drop m).take e,x.drop (m+e),c,?_,hc,rfl⟩)
  rw[List.append_assoc,← List.drop_drop,List.take_append_drop,List.take_append_drop]
def sgn:List Nat:=[32,124,44,45,47,48,48,49,50,97,121,101,115,110,111,10]
theorem sgn_is:Str.ofString " |,-/0012ayesno\n"=tx sgn:=by decide +kernel
def menu8:List (List Nat):=[[45],[],[48],[110,111],[97,97],[65],[97,98,99,100],[110,111,110,101]]
theorem menu8_is:[V.str (Str.ofString "-"),V.str (Str.ofString ""),V.str (Str.ofString "0"),V.str (Str.ofString "no"),V.str (Str.ofString "aa"),V.str (Str.ofString "A"),V.str (Str.ofString "abcd"),V.str (Str.ofString "none")]=menu8.map vT:=by
  show [_,_,_,_,_,_,_,_]=[_,_,_,_,_,_,_,_]
  rw[f0y,nil_is,o_is,show Str.ofString "no"=tx [110,111] by decide +kernel,show Str.ofString "aa"=tx [97,97] by decide +kernel,show Str.ofString "A"=tx [65] by decide +kernel,show Str.ofString "abcd"=tx [97,98,99,100] by decide +kernel,show Str.ofString "none"=tx [110,111,110,101] by decide +kernel]
  rfl
def seps3:List (List Nat):=[[32,124,32],[44,32],[32]]
theorem seps3_is:[V.str (Str.ofString " | "),V.str (Str.ofString ", "),V.str (Str.ofString " ")]=seps3.map vT:=by
  show [_,_,_]=[_,_,_]
  rw[p3_is,p2_is,p1_is];rfl
def sp_lchanged:Sp:=fun vs H Q _=>∃a x,vs=[.ref a,vT x]∧(Dr H a∧(∀c∈x,c < 128)∧x.length+6≤8388608)∧∀x' H',SameX a H H'→Dr H' a→Chg x x'→(∀c∈x',c < 128)→Q (vT x') H'
theorem i0m(T:Txt K mg t):FnOk Pr w K mg base CX0 3 t.o0u t.m0s ["_law_state_here","_law_text_here"] sp_lchanged:=by
  refine T.m0t.ok sc_law_changed (fun vs H Q E h=>?_) (fun cdv A outer s H vs Q E hr h=>?_)
  · obtain⟨a,x,rfl,_⟩:=h
    rfl
  · obtain⟨a,x,rfl,⟨hD,asc,hl⟩,k⟩:=h
    have zl:16777216≤sizeLine:=by decide
    have g:Gd 16777215 x:=⟨by omega,asc⟩
    refine⟨_,(a0d (a0q (i:=2) sc_law_changed.nd rfl (Or.inl rfl) (a0p (a0r T) hr.m rfl T.p0r T.q0h.kp T.p0n .nil b0b (a0a (pv 0) (a0a a0f a0b)))) (a0d (a0y (a0j op_lt (pv 2) a0f (a0l _)) (a0g (a0o (a0p (j0q T) hr.m rfl T.n0l T.n0j.kp T.n0i .nil b0b (a0a (pv 0) (a0a (pv 1) (a0a (b0d b0a (b0e (a0a a0m (a0a a0m (a0a a0m a0b)))) (pv 2) (fun _ _=>rfl)) a0b)))))) a0n) (a0d (a0q (i:=3) sc_law_changed.nd rfl (Or.inl rfl) (a0p (a0r T) hr.m rfl T.p0r T.q0h.kp T.p0n .nil b0b (a0a (pv 0) (a0a (b0c c0w (a0k a0v (by rfl) T.z_len PySem.boot_len (a0a (pv 1) a0b)) a0f) a0b)))) (a0d (a0q (i:=4) sc_law_changed.nd rfl (Or.inl rfl) a0m) (a0d (a0q (i:=5) sc_law_changed.nd rfl (Or.inl rfl) (b0d ix_str (pv 4) (a0p (a0r T) hr.m rfl T.p0r T.q0h.kp T.p0n .nil b0b (a0a (pv 0) (a0a (a0k a0v (by rfl) T.z_len PySem.boot_len (a0a (pv 4) a0b)) a0b))) (fun _ _=>rfl))) (a0d (a0y (a0j b0j (pv 2) a0f (a0l _)) (a0g (a0o (b0c c0h (b0n f0l (pv 1) c0c (b0s (pv 3))) (b0n f0l (pv 1) (b0s (b0c c0w (pv 3) a0f)) c0c)))) a0n) (a0d (a0y (a0j b0j (pv 2) a0f (a0l _)) (a0g (a0o (b0c c0h (b0c c0h (b0n f0l (pv 1) c0c (b0s (pv 3))) (pv 5)) (b0n f0l (pv 1) (b0s (b0c c0w (pv 3) a0f)) c0c)))) a0n) (a0d (a0y (a0j b0j (pv 2) a0f (a0l _)) (a0g (a0o (b0c c0h (b0c c0h (b0n f0l (pv 1) c0c (b0s (pv 3))) (pv 5)) (b0n f0l (pv 1) (b0s (pv 3)) c0c)))) a0n) (a0d (a0q (i:=6) sc_law_changed.nd rfl (Or.inl rfl) (c0s PySem.F.plainAttrs_str PySem.F.slot_str_split PySem.F.type_str_split c0d (pv 1) (a0a a0m a0b))) (a0d (a0q (i:=7) sc_law_changed.nd rfl (Or.inl rfl) (a0p (a0r T) hr.m rfl T.p0r T.q0h.kp T.p0n .nil b0b (a0a (pv 0) (a0a (a0k a0v (by rfl) T.z_len PySem.boot_len (a0a (pv 6) a0b)) a0b)))) (a0d (ps_asg (b0d b0a (b0e (a0a a0m (a0a a0m (a0a a0m (a0a a0m (a0a a0m (a0a a0m (a0a a0m (a0a a0m a0b))))))))) (a0p (a0r T) hr.m rfl T.p0r T.q0h.kp T.p0n .nil b0b (a0a (pv 0) (a0a a0f a0b))) (fun _ _=>rfl)) (pg_sub (pv 6) (pv 7) f0m)) (a0g (a0o (c0s PySem.F.plainAttrs_str PySem.F.slot_str_join PySem.F.type_str_join h0r a0m (a0a (pv 6) a0b))))))))))))))),?_⟩
    refine⟨_,rfl,a,8,rfl,⟨hD,by decide,by decide⟩,fun way H1 s1 d1 a1 b1=>?_⟩
    show b0l 2 (.int way) [some (.ref a),some (vT x),none,none,none,none,none,none] H1 _
    refine⟨_,rfl,_,_,rfl,rfl,_,rfl,?_⟩
    dsimp only
    by_cases h3:way < 3
    · refine iteY (decide_eq_true h3) ?_
      obtain⟨m,rfl⟩:∃m:Nat,way=(m:Int):=⟨way.toNat,by omega⟩
      have hm:m < seps3.length:=by show m < 3;omega
      refine⟨_,rfl,_,rfl,(by show 3≤sizeLine;omega),fun l2 n2=>?_⟩
      rw[seps3_is]
      have t2:=a0e (o:=.lst (seps3.map vT)) n2
      have em:(seps3.map vT)[m]? = some (vT seps3[m]):=by rw[List.getElem?_map,List.getElem?_eq_getElem hm];rfl
      have hs:Sg seps3[m]:=by
        rcases(by omega:m=0∨m=1∨m=2)with rfl | rfl | rfl
        · exact .inl rfl
        · exact .inr (.inl rfl)
        · exact .inr (.inr rfl)
      refine⟨_,rfl,_,_,_,_,rfl,rfl,SqL.of a0c,c0k em,a,x,seps3[m],rfl,⟨d1.same t2,hs,asc,hl⟩,fun x' H' s' d' c' as'=>k x' H' ((s1.trans (.of t2)).trans s') d' c' as'⟩
    refine iteN (decide_eq_false h3) ?_
    have lx:∀{H'},LenV K (vT x) H' x.length:=⟨by rw[a0s];omega,(a0s x).symm⟩
    refine⟨_,rfl,_,rfl,_,_,rfl,lx,_,_,rfl,rfl,a,_,rfl,⟨d1,by omega,by omega⟩,fun r2 H2 s2 d2 a2 b2=>?_⟩
    obtain⟨n,rfl⟩:∃n:Nat,r2=(n:Int):=⟨r2.toNat,by omega⟩
    show b0l 3 (.int (n:Int)) [some (.ref a),some (vT x),some (.int way),none,none,none,none,none] H2 _
    rw[sgn_is]
    have lg:∀{H'},LenV K (vT sgn) H' 16:=⟨by rw[a0s];show 16≤_;omega,rfl⟩
    refine⟨_,rfl,_,rfl,_,rfl,_,_,rfl,lg,a,_,rfl,⟨d2,by decide,by decide⟩,fun r3 H3 s3 d3 a3 b3=>?_⟩
    obtain⟨m,rfl⟩:∃m:Nat,r3=(m:Int):=⟨r3.toNat,by omega⟩
    have hm:m < sgn.length:=by show m < 16;omega
    have em:atI (tx sgn).cps.toList (m:Int)=some sgn[m]:=by
      rw[show(tx sgn).cps.toList=sgn by simp[tx]]
      exact c0k (List.getElem?_eq_getElem hm)
    have gc:sgn[m] < 128:=(by decide:∀c∈sgn,c < 128) _ (List.getElem_mem hm)
    refine⟨_,_,_,rfl,rfl,(by rw[a0s];show 16≤_;omega),em,?_⟩
    generalize sgn[m]=c at gc
    show b0l 5 (vT [c]) [some (.ref a),some (vT x),some (.int way),some (.int (n:Int)),some (vT sgn),none,none,none] H3 _
    have sx:=(s1.trans s2).trans s3
    have ec1:((n:Int)+1)=((n+1:Nat):Int):=by omega
    have fin:∀(cc:List Nat) (e:Nat),cc.length≤1→(∀d∈cc,d < 128)→Q (vT (x.take n++cc++x.drop (n+e))) H3:=fun cc e h1 h2=>k _ _ sx d3 (two_chg cc h1) (fun d hd=>by
      rcases List.mem_append.mp hd with hd | hd
      · rcases List.mem_append.mp hd with hd | hd
        · exact asc d (List.mem_of_mem_take hd)
        · exact h2 d hd
      · exact asc d (List.mem_of_mem_drop hd))
    have hc1:∀d∈[c],d < 128:=fun d hd=>by rw[List.mem_singleton.mp hd];exact gc
    refine⟨_,rfl,rfl,_,rfl,?_⟩
    dsimp only
    refine iteI (fun _=>?_) (fun _=>?_)
    · refine⟨_,rfl,_,rfl,_,rfl,_,rfl,(by rw[a0s];omega),?_⟩
      rw[sl_toG (by omega),Int.toNat_natCast]
      refine⟨_,rfl,_,rfl,_,_,rfl,rfl,_,rfl,_,rfl,(by rw[a0s];omega),?_⟩
      rw[ec1,h0i (by omega),Int.toNat_natCast]
      refine⟨_,_,rfl,rfl,(by rw[a0s,a0s,List.length_take,List.length_drop];omega),?_⟩
      rw[g0t]
      have:=fin [] 1 (by decide) (fun _ h=>nomatch h)
      rw[List.append_nil]at this
      exact this
    refine⟨_,rfl,rfl,_,rfl,?_⟩
    dsimp only
    refine iteI (fun _=>?_) (fun _=>?_)
    · refine⟨_,rfl,_,rfl,_,rfl,_,rfl,(by rw[a0s];omega),?_⟩
      rw[sl_toG (by omega),Int.toNat_natCast]
      refine⟨_,rfl,_,_,rfl,rfl,(by rw[a0s,a0s,List.length_take];show _+1≤_;omega),?_⟩
      rw[g0t]
      refine⟨_,rfl,_,rfl,_,_,rfl,rfl,_,rfl,_,rfl,(by rw[a0s];omega),?_⟩
      rw[ec1,h0i (by omega),Int.toNat_natCast]
      refine⟨_,_,rfl,rfl,(by rw[a0s,a0s,List.length_append,List.length_take,List.length_drop];show _+1+_≤_;omega),?_⟩
      rw[g0t]
      exact fin [c] 1 (Nat.le_refl _) hc1
    refine⟨_,rfl,rfl,_,rfl,?_⟩
    dsimp only
    refine iteI (fun _=>?_) (fun _=>?_)
    · refine⟨_,rfl,_,rfl,_,rfl,_,rfl,(by rw[a0s];omega),?_⟩
      rw[sl_toG (by omega),Int.toNat_natCast]
      refine⟨_,rfl,_,_,rfl,rfl,(by rw[a0s,a0s,List.length_take];show _+1≤_;omega),?_⟩
      rw[g0t]
      refine⟨_,rfl,_,rfl,_,rfl,_,rfl,(by rw[a0s];omega),?_⟩
      rw[h0i (by omega),Int.toNat_natCast]
      refine⟨_,_,rfl,rfl,(by rw[a0s,a0s,List.length_append,List.length_take,List.length_drop];show _+1+_≤_;omega),?_⟩
      rw[g0t]
      exact fin [c] 0 (Nat.le_refl _) hc1
    obtain⟨pne,pl,ej,pf⟩:=d0a (sep:=[32,124,32]) (by decide) (show Gd 3 [32,124,32] by decide) g
    refine⟨_,rfl,rfl,tc1 (c0a p3_is (by decide) (show Gd 3 [32,124,32] by decide) g fun l4 n4=>?_)⟩
    have fin2:∀(P R:List (List Nat)) (p z:List Nat),spG [32,124,32] x=P++[p]++R→z.length≤4→(∀d∈z,d < 128)→(jn [32,124,32] (P++[z]++R)).length+3≤16777216∧Chg x (jn [32,124,32] (P++[z]++R))∧∀c∈jn [32,124,32] (P++[z]++R),c < 128:=fun P R p z h1 h2 h3=>by
      have hc:Chg x (jn [32,124,32] (P++[z]++R)):=.inr (.inr ⟨P,p,R,z,h1,h2,rfl⟩)
      have:=i0f g hc
      refine⟨by omega,hc,jn_asc (by decide) fun q hq=>?_⟩
      simp only[List.mem_append,List.mem_singleton]at hq
      rcases hq with (hq | rfl) | hq
      · exact(pf q (by rw[h1];simp[hq])).1.2
      · exact h3
      · exact(pf q (by rw[h1];simp[hq])).1.2
    revert pne pl fin2
    generalize spG [32,124,32] x=ps
    intro pne pl fin2
    have t4:=a0e (o:=.lst (ps.map vT)) n4
    have k4:=a0c (H:=H3) (a:=l4) (o:=.lst (ps.map vT))
    have n40:=h0d (q:=l4) (H:=H3) (H':=H3) (Same.refl _) n4
    have p1:=List.length_pos_iff.mpr pne
    revert t4 k4
    generalize upd H3 l4 (.lst (ps.map vT))=H4
    intro t4 k4
    have d4:=d3.same t4
    have ne4:=d4.neT k4
    have lc:LenV K (.ref l4) H4 ps.length:=.inl ⟨_,SqL.of k4,by simp⟩
    show b0l 6 (.ref l4) [some (.ref a),some (vT x),some (.int way),some (.int (n:Int)),some (vT sgn),some (vT [c]),none,none] H4 _
    refine⟨_,rfl,_,rfl,_,_,rfl,lc,a,_,rfl,⟨d4,by omega,by omega⟩,fun r5 H5 s5 d5 a5 b5=>?_⟩
    obtain⟨i,rfl⟩:∃i:Nat,r5=(i:Int):=⟨r5.toNat,by omega⟩
    have k5:=s5 _ _ ne4 k4
    show b0l 7 (.int (i:Int)) [some (.ref a),some (vT x),some (.int way),some (.int (n:Int)),some (vT sgn),some (vT [c]),some (.ref l4),none] H5 _
    refine⟨(by show 8≤sizeLine;omega),fun l6 n6=>?_⟩
    rw[menu8_is]
    have t6:=a0e (o:=.lst (menu8.map vT)) n6
    have ne6:=d5.ne n6
    refine⟨_,rfl,a,8,rfl,⟨d5.same t6,by decide,by decide⟩,fun r7 H7 s7 d7 a7 b7=>?_⟩
    obtain⟨m7,rfl⟩:∃m:Nat,r7=(m:Int):=⟨r7.toNat,by omega⟩
    have hm7:m7 < menu8.length:=by show m7 < 8;omega
    have em7:(menu8.map vT)[m7]? = some (vT menu8[m7]):=by rw[List.getElem?_map,List.getElem?_eq_getElem hm7];rfl
    have gm:menu8[m7].length≤4∧∀d∈menu8[m7],d < 128:=(by decide:∀z∈menu8,z.length≤4∧∀d∈z,d < 128) _ (List.getElem_mem hm7)
    have k7:=s7 _ _ ne4 (t6 _ _ k5)
    refine⟨_,_,_,_,rfl,rfl,SqL.of (s7 _ _ ne6 a0c),c0k em7,?_⟩
    generalize menu8[m7]=z at gm
    obtain⟨p,ep⟩:∃p,ps[i]? = some p:=⟨_,List.getElem?_eq_getElem (by omega)⟩
    have ix:ixN (ps.map vT).length (i:Int)=some i:=by
      unfold ixN
      rw[if_pos (by omega),if_pos (by rw[List.length_map];omega),Int.toNat_natCast]
    refine⟨_,rfl,_,rfl,l4,_,_,i,rfl,rfl,k7,ix,?_⟩
    have il:(ps.take i).length=i:=by rw[List.length_take];omega
    have e8:(ps.map vT).set i (vT z)=(ps.take i++[z]++ps.drop (i+1)).map vT:=by
      rw[← List.map_set]
      congr 1
      conv=>lhs;rw[g0g ep]
      rw[List.append_assoc,List.set_append_right _ _ (by omega),il,Nat.sub_self]
      simp
    rw[e8]
    obtain⟨f1,f2,f3⟩:=fin2 (ps.take i) (ps.drop (i+1)) p z (g0g ep) gm.1 gm.2
    have sF:SameX a H (upd H7 l4 (.lst ((ps.take i++[z]++ps.drop (i+1)).map vT))):=fun b o hb e=>by
      have h3:=sx _ _ hb e
      rw[a0w (a0t h3 n4)]
      exact s7 _ _ hb (t6 _ _ (s5 _ _ hb (t4 _ _ h3)))
    have dF:Dr (upd H7 l4 (.lst ((ps.take i++[z]++ps.drop (i+1)).map vT))) a:=by
      obtain⟨x,h⟩:=d7
      exact⟨x,by rw[a0w (Ne.symm ne4)];exact h⟩
    refine⟨rfl,_,rfl,?_⟩
    dsimp only[tNil]
    exact r_joinG p3_is f1 (SqL.of a0c) (k _ _ sF dF f2 f3)
theorem sum_le{α:Type}{f:α→Nat}{k:Nat}:∀{ls:List α},(∀x∈ls,f x≤k)→(ls.map f).sum≤ls.length * k
  | [],_=>by simp
  | x::ls,h=>by
    have h1:=h x (by simp)
    have h2:=sum_le (ls:=ls) fun y hy=>h y (List.mem_cons_of_mem _ hy)
    rw[List.map_cons,List.sum_cons,List.length_cons,Nat.succ_mul]
    omega
theorem jn_le{sep:List Nat}{k:Nat}{ls:List (List Nat)}(hne:ls≠[])(h:∀p∈ls,p.length≤k):(jn sep ls).length+sep.length≤ls.length * (k+sep.length):=by
  rw[jn_sum hne]
  exact sum_le fun x hx=>by have:=h x hx;omega
theorem j0j{ds:List PyData}{way p:Int}(h:RG ds way p):(rowT ds).length+1≤51 * ds.length∨(rowT ds).length=1∧ds.length=0:=by
  unfold rowT
  by_cases e:ds=[]
  · rw[if_pos e,e];exact .inr ⟨rfl,rfl⟩
  · rw[if_neg e]
    have:=jn_le (sep:=[32]) (k:=50) (ls:=ds.map wl) (by simpa using e) (fun q hq=>by
      obtain⟨d,hd,rfl⟩:=List.mem_map.mp hq
      exact(wl_ok (h.wq d hd)).1.1)
    rw[List.length_map]at this
    exact .inl (by simp at this ⊢;omega)
theorem row356{ds:List PyData}{way p:Int}(h:RG ds way p)(h7:ds.length≤7):(rowT ds).length≤356:=by
  rcases j0j h with h | h <;>omega
theorem tab_len{m:List (List PyData)}{n:Nat}{way p:Int}(h:TG' m n way p)(h7:n≤7):(tabT m).length≤2504∧Fr [44,32] 358 (tabT m)∧(2≤n→¬Free [44,32] (tabT m))∧(n≤1→(tabT m).length≤50):=by
  have ln:=h.ln
  have rl:∀q∈m.map rowT,q.length≤356:=fun q hq=>by
    obtain⟨r,hr,rfl⟩:=List.mem_map.mp hq
    have:=h.rg r hr
    exact row356 this.2 (by omega)
  unfold tabT
  by_cases e:m=[]
  · rw[if_pos e]
    exact⟨by decide,Fr.short (by decide),fun z=>by rw[e]at ln;simp at ln;omega,fun _=>by decide⟩
  · rw[if_neg e]
    have j:=jn_le (sep:=[44,32]) (k:=356) (ls:=m.map rowT) (by simpa using e) rl
    rw[List.length_map]at j
    have f:=Fr_jn (m:=356) (sep:=[44,32]) (by decide) (m.map rowT) [] rl (by decide)
    rw[List.nil_append]at f
    refine⟨?_,f,fun h2=>?_,fun h1=>?_⟩
    · have:m.length * (356+[44,32].length)≤7 * 358:=Nat.mul_le_mul (by omega) (by decide)
      simp at j this ⊢;omega
    · match m,e with
      | [r],_=>simp at ln;omega
      | r::r2::rs,_=>
        show ¬Free [44,32] (rowT r++[44,32]++jn [44,32] (rowT r2::rs.map rowT))
        exact e0p _ _
    · match m,e with
      | [r],_=>
        have:=h.rg r (by simp)
        show(rowT r).length≤50
        rcases j0j this.2 with z | z <;>omega
      | r::r2::rs,_=>simp at ln;omega
theorem F_mid{sep W Z y3:List Nat}{k N B:Nat}(hW:Fr sep k W)(nW:¬Free sep W)(h3:y3.length≤3)(hZ:∀X:List Nat,X.length≤N→Fr sep B (X++Z))(c1:N+k≤B)(c2:k+3≤N):∀X:List Nat,X.length≤N→Fr sep B (X++(W++(y3++Z))):=by
  rintro X hX y ⟨u,v,e⟩ hf
  rw[List.append_assoc u]at e
  rcases List.append_eq_append_iff.mp e with ⟨a,e1,e2⟩ | ⟨a,e1,e2⟩
  · rcases List.append_eq_append_iff.mp e2 with ⟨b,e3,e4⟩ | ⟨b,e3,e4⟩
    · exact hZ y3 (by omega) y ⟨b,v,by rw[e4];simp⟩ hf
    · rcases List.append_eq_append_iff.mp e4 with ⟨c,e5,e6⟩ | ⟨c,e5,e6⟩
      · have:=hW y ⟨a,c,by rw[e3,e5];simp⟩ hf
        omega
      · have hb:=hW b ⟨a,[],by rw[e3];simp⟩ (hf.sub ⟨[],c,by rw[e5];simp⟩)
        exact hZ (b++y3) (by rw[List.length_append];omega) y ⟨[],v,by rw[List.append_assoc,e6,e5];simp⟩ hf
  · rcases List.append_eq_append_iff.mp e2 with ⟨c,e3,e4⟩ | ⟨c,e3,e4⟩
    · have h1:=congrArg List.length e1
      have h2:=congrArg List.length e3
      simp only[List.length_append]at h1 h2
      omega
    · rcases List.append_eq_append_iff.mp e4 with ⟨d,e5,e6⟩ | ⟨d,e5,e6⟩
      · exact absurd (hf.sub ⟨a,d,by rw[e3,e5];simp⟩) nW
      · have hc:=hW c ⟨[],d,by rw[e5];simp⟩ (hf.sub ⟨a,[],by rw[e3];simp⟩)
        have h1:=congrArg List.length e1
        have h2:=congrArg List.length e3
        simp only[List.length_append]at h1 h2
        omega
theorem mac_F{n:Nat}{way p:Int}{en:List PyData}(h7:n≤7)(h2:2≤n)(he:(rowT en).length≤356):∀(ts:List (List (List PyData))),(∀m∈ts,TG' m n way p)→∀X:List Nat,X.length≤365→Fr [44,32] 723 (X++jn [32,124,32] (ts.map tabT++[rowT en]))
  | [],_,X,hX=>Fr.short (by simp[jn];omega)
  | m::ts,h,X,hX=>by
    obtain⟨_,t2,t3,_⟩:=tab_len (h m (by simp)) h7
    have ih:=mac_F h7 h2 he ts (fun m hm=>h m (List.mem_cons_of_mem _ hm))
    have:=F_mid (y3:=[32,124,32]) t2 (t3 h2) (by decide) ih (by decide) (by decide) X hX
    rw[List.map_cons,List.cons_append,f0k (by simp)]
    simpa using this
theorem mac_B{l:List Nat}{n:Nat}{st:List PyData}{ts:List (List (List PyData))}{en:List PyData}{way p:Int}(h:MG l n st ts en way p)(h7:n≤7):(macT l st ts en).length≤8242∧Fr [32,124,32] 2508 (macT l st ts en)∧Fr [44,32] 728 (macT l st ts en)∧∀c∈macT l st ts en,c < 128:=by
  have l3:=h.lk.lo.h3
  have tl:=h.tl
  have sl:=h.sl
  have el:=h.el
  have rs:=row356 h.sg (by omega)
  have re:=row356 h.eg (by omega)
  have tb:∀q∈ts.map tabT,q.length≤2504:=fun q hq=>by
    obtain⟨m,hm,rfl⟩:=List.mem_map.mp hq
    exact(tab_len (h.tb m hm) h7).1
  have hs:=jn_sum (sep:=[32,124,32]) (ls:=pcsT l st ts en) (by simp[pcsT])
  have sum:∀{k},(∀q∈ts.map tabT,q.length≤k)→((ts.map tabT).map fun p=>p.length+3).sum≤3 * (k+3):=fun{k} hk=>by
    have:=sum_le (f:=fun p:List Nat=>p.length+3) (k:=k+3) (ls:=ts.map tabT) (fun x hx=>by have:=hk x hx;omega)
    rw[List.length_map]at this
    exact Nat.le_trans this (Nat.mul_le_mul_right _ (by omega))
  have tot:(macT l st ts en).length+3=(l.length+3)+((rowT st).length+3)+((ts.map tabT).map fun p=>p.length+3).sum+((rowT en).length+3):=by
    have:(macT l st ts en).length+3=((pcsT l st ts en).map fun p=>p.length+3).sum:=hs
    rw[this]
    simp only[pcsT,List.map_append,List.sum_append,List.map_cons,List.map_nil,List.sum_cons,List.sum_nil]
    omega
  have s1:=sum tb
  refine⟨by omega,?_,?_,?_⟩
  · have:=Fr_jn (m:=2504) (sep:=[32,124,32]) (by decide) (pcsT l st ts en) [] (fun q hq=>by
      simp only[pcsT,List.mem_append,List.mem_cons,List.not_mem_nil,or_false]at hq
      rcases hq with ((rfl | rfl) | hq) | rfl
      · omega
      · omega
      · exact tb q hq
      · omega) (by decide)
    rw[List.nil_append]at this
    exact this
  · by_cases h2:2≤n
    · have:=mac_F (way:=way) (p:=p) h7 h2 re ts h.tb (l++[32,124,32]++rowT st++[32,124,32]) (by simp;omega)
      have e:macT l st ts en=(l++[32,124,32]++rowT st++[32,124,32])++jn [32,124,32] (ts.map tabT++[rowT en]):=by
        unfold macT pcsT
        rw[List.append_assoc,List.cons_append,List.cons_append,List.nil_append,f0k (by simp),f0k (by simp)]
        simp
      rw[e]
      exact this.mono (by decide)
    · have t1:=sum (k:=50) (fun q hq=>by
        obtain⟨m,hm,rfl⟩:=List.mem_map.mp hq
        exact(tab_len (h.tb m hm) h7).2.2.2 (by omega))
      have r1:(rowT st).length≤50:=by rcases j0j h.sg with z | z <;>omega
      have r2:(rowT en).length≤50:=by rcases j0j h.eg with z | z <;>omega
      exact Fr.short (by omega)
  · obtain⟨g1,_,_⟩:=pcs_gd h
    exact jn_asc (by decide) fun q hq=>(g1 q hq).1.2
theorem Pool.az'{p l:List Nat}{i:Nat}(G:Pool p l i)(h1:1≤i)(h3:i≤3):AZ l:=⟨G.ok h1 h3,fun c hc=>G.az c (List.mem_append_right _ hc)⟩
theorem SqL.samx{H H':Hp}{a b:Addr}{xs:List V}(h:SqL K H b xs)(n:H a=none)(s:SameX a H H'):SqL K H' b xs:=by
  rcases h with (h | ⟨o,h⟩) | h
  · exact .inl (.inl (s _ _ (a0t h n) h))
  · exact .inl (.inr ⟨o,s _ _ (a0t h n) h⟩)
  · exact .inr h
theorem GD.lst{k:Nat}{ds:List PyData}(h:∀d∈ds,GD k d):GD (k+1) (.list ds):=by
  obtain⟨a,b,c⟩:=gD_all h
  exact⟨by simp[PyData.canLay0,a],by simp only[PyData.depth];omega,by simp[noMix,c]⟩
theorem gd_str{l:List Nat}(h:∀c∈l,c < 1000):GD 1 (.str (tx l)):=by
  refine⟨?_,by simp[PyData.depth],by simp[noMix]⟩
  show PyData.strOk (tx l)=true
  show l.toArray.all (· < 0x110000)=true
  simp only[List.all_toArray,List.all_eq_true,decide_eq_true_eq]
  exact fun c hc=>by have:=h c hc;omega
theorem lt_all{α:Type}{Pd:α→V→Hp→Prop}{m:List α}{v:V}{H:Hp}(h:LT Pd m v H):∀r∈m,∃u,Pd r u H:=fun r hr=>by
  obtain⟨p,vs,_,_,e⟩:=h
  obtain⟨j,hj,e1⟩:=List.mem_iff_getElem.mp hr
  obtain⟨u,_,r',e2,e3⟩:=e.2 j hj
  rw[List.getElem?_eq_getElem hj,e1]at e2
  cases e2
  exact⟨u,e3⟩
theorem RowV.gd{ds:List PyData}{v:V}{H:Hp}(h:RowV ds v H):GD 3 (.tuple ds):=GD.tup fun d hd=>by
  obtain⟨u,hu⟩:=lt_all h d hd
  exact wd_gd hu.wd
theorem TabV.gd{m:List (List PyData)}{v:V}{H:Hp}(h:TabV m v H):GD 4 (tabD m):=GD.tup fun d hd=>by
  obtain⟨r,hr,rfl⟩:=List.mem_map.mp hd
  obtain⟨u,hu⟩:=lt_all h r hr
  exact RowV.gd hu
theorem MV.gd{l:List Nat}{st:List PyData}{ts:List (List (List PyData))}{en:List PyData}{v:V}{H:Hp}(h:MV l st ts en v H)(hl:∀c∈l,c < 1000):GD 6 (machD l st ts en):=by
  obtain⟨p,s,tv,e,_,_,h1,h2,h3⟩:=h
  refine GD.tup fun d hd=>?_
  simp only[List.mem_cons,List.not_mem_nil,or_false]at hd
  rcases hd with rfl | rfl | rfl | rfl
  · exact(gd_str hl).up (by decide)
  · exact(RowV.gd h1).up (by decide)
  · exact GD.tup fun d hd=>by
      obtain⟨m,hm,rfl⟩:=List.mem_map.mp hd
      obtain⟨u,hu⟩:=lt_all h2 m hm
      exact TabV.gd hu
  · exact(RowV.gd h3).up (by decide)
theorem mac_l{rd:List Nat→Option PyData}{x:List Nat}{m:Mc}(h:f0d rd x=some m):∀c∈m.1,c < 1000:=by
  unfold f0d at h
  split at h
  · rename_i hl
    have e:m.1=(spG [32,124,32] x).getD 0 []:=by
      unfold rdM2 at h
      obtain⟨st,_,h⟩:=Option.bind_eq_some_iff.mp h
      split at h
      · cases h
      · obtain⟨ts,_,h⟩:=Option.bind_eq_some_iff.mp h
        obtain⟨en,_,h⟩:=Option.map_eq_some_iff.mp h
        rw[← h]
    rw[e]
    have:=hl.1
    unfold lets at this
    simp only[Bool.and_eq_true,List.all_eq_true]at this
    intro c hc
    have:=this.2 c hc
    unfold small at this
    simp only[Bool.and_eq_true,decide_eq_true_eq]at this
    omega
  · cases h
def dR:PyData:=.tuple [.str (Str.ofString "refused"),.bool true,.bool false]
theorem dR_gd:GD 3 dR:=GD.tup (k:=2) fun d hd=>by
  simp only[List.mem_cons,List.not_mem_nil,or_false]at hd
  rcases hd with rfl | rfl | rfl
  · rw[show Str.ofString "refused"=tx [114,101,102,117,115,101,100] by decide +kernel]
    exact(gd_str (by decide)).up (by decide)
  · exact wd_gd (.inr (.inl ⟨_,rfl⟩))
  · exact wd_gd (.inr (.inl ⟨_,rfl⟩))
theorem tR_is{H:Hp}{p:Addr}(h:H p=some (.tup [V.str (Str.ofString "refused"),.bl true,.bl false])):Is K H (.ref p) dR:=.tup (SqT.of h) (.cons (.str _) (.cons (.bl _) (.cons (.bl _) .nil)))
theorem RfV.is{H:Hp}{u:V}(h:RfV u H):Is K H u dR:=by
  obtain⟨p,rfl,h⟩:=h
  exact tR_is h
theorem one_nil(d:PyData):noMix (.list [d]) (.list [])=true∧PySem.Spec.same (.list [d]) (.list [])=false:=⟨by simp[noMix,noMixAll],by simp[PySem.Spec.same,PySem.Spec.sameAll]⟩
theorem rng12(n:Nat):0≤(if(if(12:Int) < n then(12:Int)else n) > 3 then(if(12:Int) < n then(12:Int)else n)else 3)∧(if(if(12:Int) < n then(12:Int)else n) > 3 then(if(12:Int) < n then(12:Int)else n)else 3)≤12:=by
  split <;>split <;>omega
def sp_law(K:PySem.W.Frag):Sp:=fun vs H Q _=>∃(a:Addr) (ns:List Int),vs=[.ref a]∧SqL K H a (ns.map V.int)∧ns.length≤63∧∀H',Q (.bl true) H'
theorem ok_law(T:Txt K mg t):FnOk Pr w K mg base CX0 50 t.law t.t0u ["_law_script"] (sp_law K):=by
  refine T.t0r.ok sc_law (fun vs H Q E h=>?_) (fun cdv A outer s H vs Q E hr h=>?_)
  · obtain⟨a,ns,rfl,_⟩:=h
    rfl
  · obtain⟨a0,ns,rfl,hS0,hlen,k⟩:=h
    have zl:10000 < sizeLine:=by decide
    refine⟨_,(a0d (a0q (i:=1) sc_law.nd rfl (Or.inl rfl) (a0p (ok_law_state T) hr.m rfl T.o0w T.p0a.kp T.o0o .nil b0b (a0a (pv 0) a0b))) (a0d (a0q (i:=2) sc_law.nd rfl (Or.inl rfl) (a0p (i0l T) hr.m rfl T.l0z T.m0v.kp T.m0h .nil b0b (a0a (pv 1) a0b))) (a0d (a0q (i:=3) sc_law.nd rfl (Or.inl rfl) (a0p (ok_law_sort T) hr.m rfl T.q0f T.r0k.kp T.q0s .nil b0b (a0a (pv 1) (a0a (a0p (a0r T) hr.m rfl T.p0r T.q0h.kp T.p0n .nil b0b (a0a (pv 1) (a0a a0f a0b))) a0b)))) (a0d (a0q (i:=4) sc_law.nd rfl (Or.inl rfl) (a0p (ok_law_kind T) hr.m rfl T.q0x T.q0p.kp T.r0n .nil b0b (a0a (pv 3) a0b))) (a0d (a0q (i:=5) sc_law.nd rfl (Or.inl rfl) (a0p (ok_law_text T) hr.m rfl T.r0b T.q0o.kp T.r0h .nil b0b (a0a (pv 3) (a0a (a0p (i0k T) hr.m rfl T.m0u T.m0x.kp T.m0f .nil b0b (a0a (pv 1) (a0a (pv 3) (a0a (pv 2) (a0a (a0p (ok_law_rooms T) hr.m rfl T.o0m T.o0s.kp T.o0k .nil b0b (a0a (pv 1) (a0a a0f (a0a a0f a0b)))) a0b))))) a0b)))) (a0d (g0w PassesOwn.never rfl (d0g rfl T.z_range (a0a (a0k (call_max2 rfl) (by rfl) T.z_max boot_max (a0a a0f (a0a (a0k (call_min2 rfl) (by rfl) T.z_min boot_min (a0a (a0k a0v (by rfl) T.z_len PySem.boot_len (a0a (pv 0) a0b)) (a0a a0f a0b))) a0b))) a0b)) (b0i (i:=6) sc_law.nd rfl (Or.inl rfl)) (a0d (a0q (i:=5) sc_law.nd rfl (Or.inl rfl) (a0p (i0m T) hr.m rfl T.m0a T.m0t.kp T.m0o .nil b0b (a0a (pv 1) (a0a (pv 5) a0b)))) (a0d (a0q (i:=7) sc_law.nd rfl (Or.inl rfl) (a0p (ok_law_read T) hr.m rfl T.q0v T.r0l.kp T.p0w .nil b0b (a0a (pv 3) (a0a (pv 5) a0b)))) (a0d (a0y (a0j (op_eqD hr.units) (pv 7) (b0e a0b) (a0l _)) (a0g (a0q (i:=7) sc_law.nd rfl (Or.inl rfl) (b0e (a0a (b0u (a0a a0m (a0a g0o (a0a g0o a0b)))) a0b)))) a0n) (a0g (a0y (a0j (op_neD hr.units) (a0p (h0m T) hr.m rfl T.r0c T.q0k.kp T.r0a .nil b0b (a0a (pv 4) (a0a (pv 5) a0b))) (b0d b0a (pv 7) a0f (fun _ _=>rfl)) (a0l _)) (a0g (a0o g0o)) a0n)))))) (a0g (a0o (c0p (op_eqD hr.units) (a0p (h0m T) hr.m rfl T.r0c T.q0k.kp T.r0a .nil b0b (a0a (pv 4) (a0a (b0d b0a (b0e (a0a a0f (a0a e0e (a0a (b0e (a0a (pv 5) a0b)) (a0a (b0u (a0a (pv 5) (a0a (pv 5) a0b))) a0b))))) (a0p (a0r T) hr.m rfl T.p0r T.q0h.kp T.p0n .nil b0b (a0a (pv 1) (a0a a0f a0b))) (fun _ _=>rfl)) a0b))) (b0u (a0a a0m (a0a g0o (a0a g0o a0b)))) (a0l _)))))))))),?_⟩
    refine⟨_,rfl,a0,ns,rfl,hS0,hlen,fun a H1 na s1 d1=>?_⟩
    refine⟨_,rfl,a,rfl,d1,fun pl l il H2 s2 d2 G i1 i3=>?_⟩
    have L:=G.az' i1 i3
    refine⟨_,rfl,_,rfl,a,4,rfl,⟨d2,by decide,by decide⟩,fun r3 H3 s3 d3 a3 b3=>⟨a,r3,rfl,⟨d3,a3,b3⟩,fun R nam p so H4 hS hso s4 d4=>?_⟩⟩
    refine⟨_,rfl,R,nam,p,so,hS,rfl,hso,fun kv H5 s5 hk=>?_⟩
    have d5:=d4.same s5
    have hso5:=hso.same s5.t
    refine⟨_,rfl,_,rfl,_,rfl,_,rfl,_,rfl,a,rfl,d5,fun r6 H6 s6 d6 a6 b6=>?_⟩
    have hso6:=hso5.same (s6.tt d5)
    refine⟨R,nam,p,a,so,l,r6.toNat,r6,hS,rfl,⟨d6,hso6,L,by omega,by omega⟩,fun mv H7 st ts en s7 d7 mV mG=>?_⟩
    have hso7:=hso6.same (s7.tt d6)
    refine⟨R,nam,p,so,mv,l,_,st,ts,en,hS,rfl,⟨hso7,mV,mG⟩,fun H8 s8=>?_⟩
    obtain⟨xl,xa,xb,xc⟩:=mac_B mG (by omega)
    generalize macT l st ts en=x0 at xl xa xb xc
    have d8:=d7.same s8
    have hso8:=hso7.same s8.t
    have q18:SameX a H H8:=(SameX.of s1).trans ((s2.trans (s3.trans s4)).trans ((SameX.of s5).trans ((s6.trans s7).trans (.of s8))))
    have q58:SameX a H5 H8:=(s6.trans s7).trans (.of s8)
    have hS8:=SqL.samx hS0 na q18
    have hkF:∀{F},SameX a H5 F→KAt R.C R.fs F kv:=fun s'=>by
      obtain⟨kp,dx,rfl,hk'⟩:=hk
      refine⟨kp,dx,rfl,s' _ _ (fun e=>?_) hk'⟩
      obtain⟨xs,z⟩:=d5.lst
      rw[← e,hk']at z
      cases z
    show b0l 5 (vT x0) [some (.ref a0),some (.ref a),some (vT l),some so,some kv,none,none,none] H8 _
    have lc:LenV K (.ref a0) H8 ns.length:=.inl ⟨_,hS8,by simp⟩
    obtain⟨rl,rh⟩:=rng12 ns.length
    refine⟨_,rfl,_,_,rfl,lc,_,_,rfl,_,_,rfl,_,rfl,(by omega),(by omega),for_range (lo:=0) (fun i σ F=>∃(x:List Nat) (v6 v7:Option V),σ=[some (.ref a0),some (.ref a),some (vT l),some so,some kv,some (vT x),v6,v7]∧SameX a H5 F∧Dr F a∧J x0 i x) ⟨x0,none,none,rfl,q58,d8,rfl⟩ ?_ ?_⟩
    · rintro i σ F hi ⟨x,v6,v7,rfl,sF,dF,hJ⟩
      have hi:i≤11:=by omega
      obtain⟨_,xl2⟩:=J_all xc xl xa xb hJ (by omega)
      have xas:=J.asc xc hJ
      refine⟨_,rfl,_,rfl,a,x,rfl,⟨dF,xas,xl2 hi⟩,fun x' F1 s1' d1' c' as'=>?_⟩
      have hJ':J x0 (i+1) x':=⟨x,hJ,c',as'⟩
      obtain⟨xl3,_⟩:=J_all xc xl xa xb hJ' (by omega)
      have g:Gd 16777215 x':=⟨by omega,as'⟩
      have sF1:=sF.trans s1'
      have hso1:=hso5.same (sF1.tt d5)
      show b0l 5 (vT x') [some (.ref a0),some (.ref a),some (vT l),some so,some kv,some (vT x),some (.int (0+(i:Int))),v7] F1 _
      refine⟨_,rfl,_,rfl,R,nam,p,so,x',hS,rfl,⟨hso1,g⟩,fun q us F2 s2' k2 ol=>?_⟩
      show b0l 7 (.ref q) [some (.ref a0),some (.ref a),some (vT l),some so,some kv,some (vT x'),some (.int (0+(i:Int))),v7] F2 _
      have sF2:=sF1.trans (.of s2')
      have d2':=d1'.same s2'
      refine⟨_,rfl,(by show 0≤sizeLine;omega),fun e0 ne0=>?_⟩
      have t0:=a0e (o:=.lst ([]:List V)) ne0
      have k0:=a0c (H:=F2) (a:=e0) (o:=.lst [])
      have k3:=t0 _ _ k2
      have g0:GD 2 (.list []):=GD.lst (k:=1) fun d hd=>nomatch hd
      cases hm:f0d R.rd x' with
      | none=>
        rw[hm]at ol
        obtain rfl:us=[]:=ol
        revert t0 k0 k3
        generalize upd F2 e0 (.lst [])=F3
        intro t0 k0 k3
        refine⟨_,_,Is.lst (SqL.of k3) .nil,Is.lst (SqL.of k0) .nil,g0.sh (by decide),g0.sh (by decide),g0.mix,_,rfl,?_⟩
        rw[PySem.Spec.same_self]
        (try refine iteT ?_)
        refine⟨(by show 3≤sizeLine;omega),fun p4 n4=>⟨(by show 1≤sizeLine;omega),fun q5 n5=>?_⟩⟩
        have t4:=a0e (o:=.tup [V.str (Str.ofString "refused"),.bl true,.bl false]) n4
        have t5:=a0e (o:=.lst [V.ref p4]) n5
        have k4:=t5 _ _ (a0c (H:=F3) (a:=p4) (o:=.tup [V.str (Str.ofString "refused"),.bl true,.bl false]))
        have k5:=a0c (H:=upd F3 p4 (.tup [V.str (Str.ofString "refused"),.bl true,.bl false])) (a:=q5) (o:=.lst [V.ref p4])
        have t45:=t4.trans t5
        revert k4 k5 t45
        generalize upd (upd F3 p4 (.tup [V.str (Str.ofString "refused"),.bl true,.bl false])) q5 (.lst [V.ref p4])=F5
        intro k4 k5 t45
        show b0l 7 (.ref q5) [some (.ref a0),some (.ref a),some (vT l),some so,some kv,some (vT x'),some (.int (0+(i:Int))),some (.ref q)] F5 _
        have sF5:=sF2.trans (.of (t0.trans t45))
        refine⟨_,rfl,_,rfl,R,kv,vT x',rfl,hkF sF5,.inl ⟨x',rfl,g,fun m hm'=>(by rw[hm]at hm';cases hm'),fun _ u F6 s6' rf=>?_⟩⟩
        refine⟨_,rfl,_,_,_,_,rfl,rfl,SqL.of (s6' _ _ k5),rfl,?_⟩
        refine⟨_,_,rf.is,tR_is (s6' _ _ k4),dR_gd.sh (by decide),dR_gd.sh (by decide),dR_gd.mix,_,rfl,?_⟩
        rw[PySem.Spec.same_self]
        (try refine iteF ?_)
        exact⟨x',_,_,rfl,sF5.trans (.of s6'),(d2'.same (t0.trans t45)).same s6',hJ'⟩
      | some m=>
        rw[hm]at ol
        obtain⟨u,rfl,mv'⟩:=ol
        have mv3:MVm m u (upd F2 e0 (.lst [])):=MV.same t0.t mv'
        revert t0 k0 k3 mv3
        generalize upd F2 e0 (.lst [])=F3
        intro t0 k0 k3 mv3
        have gm:=MV.gd mv3 (mac_l hm)
        have g1:GD 7 (.list [machD m.1 m.2.1 m.2.2.1 m.2.2.2]):=GD.lst (k:=6) fun d hd=>by rw[List.mem_singleton.mp hd];exact gm
        refine⟨_,_,Is.lst (SqL.of k3) (.cons (MV.is mv3) .nil),Is.lst (SqL.of k0) .nil,g1.sh (by decide),g0.sh (by decide),(one_nil _).1,_,rfl,?_⟩
        rw[(one_nil _).2]
        (try refine iteF ?_)
        have sF3:=sF2.trans (.of t0)
        refine⟨_,rfl,_,rfl,R,kv,vT x',rfl,hkF sF3,.inl ⟨x',rfl,g,fun m' hm' u' F6 s6' mv6=>?_,fun hn=>(by rw[hm]at hn;cases hn)⟩⟩
        obtain rfl:m=m':=Option.some.inj (hm.symm.trans hm')
        refine⟨_,rfl,_,_,_,_,rfl,rfl,SqL.of (s6' _ _ k3),rfl,?_⟩
        refine⟨_,_,MV.is mv6,MV.is (MV.same s6'.t mv3),gm.sh (by decide),gm.sh (by decide),gm.mix,_,rfl,?_⟩
        rw[PySem.Spec.same_self]
        (try refine iteF ?_)
        exact⟨x',_,_,rfl,sF3.trans (.of s6'),(d2'.same t0).same s6',hJ'⟩
    · rintro σ F ⟨x,v6,v7,rfl,sF,dF,hJ⟩
      refine⟨_,rfl,_,rfl,(by show 1≤sizeLine;omega),fun l1 n1=>⟨_,rfl,_,rfl,(by show 2≤sizeLine;omega),fun t2 n2=>⟨(by show 4≤sizeLine;omega),fun q n3=>?_⟩⟩⟩
      have u1:=a0e (o:=.lst [vT x]) n1
      have u2:=a0e (o:=.tup [vT x,vT x]) n2
      have u3:=a0e (o:=.lst [V.int 5,.non,.ref l1,.ref t2]) n3
      have k1:=(u2.trans u3) _ _ (a0c (H:=F) (a:=l1) (o:=.lst [vT x]))
      have k2:=u3 _ _ (a0c (H:=upd F l1 (.lst [vT x])) (a:=t2) (o:=.tup [vT x,vT x]))
      have k3:=a0c (H:=upd (upd F l1 (.lst [vT x])) t2 (.tup [vT x,vT x])) (a:=q) (o:=.lst [V.int 5,.non,.ref l1,.ref t2])
      have u:=u1.trans (u2.trans u3)
      have dq:=(dF.same (u1.trans u2)).ne n3
      have d1q:=dF.ne n1
      revert k1 k2 k3 u
      generalize upd (upd (upd F l1 (.lst [vT x])) t2 (.tup [vT x,vT x])) q (.lst [V.int 5,.non,.ref l1,.ref t2])=F3
      intro k1 k2 k3 u
      have dF3:=dF.same u
      refine⟨_,rfl,a,4,rfl,⟨dF3,by decide,by decide⟩,fun r F4 s4' d4' a4 b4=>?_⟩
      have sF4:=sF.trans ((SameX.of u).trans s4')
      have h1:=s4' _ _ d1q k1
      have h2:=(s4'.tt dF3) _ _ k2
      have h3:=s4' _ _ dq k3
      obtain⟨v,ev,hn⟩:∃v,atI [V.int 5,.non,.ref l1,.ref t2] r=some v∧NoStr K v F4:=by
        rcases(by omega:r=0∨r=1∨r=2∨r=3)with rfl | rfl | rfl | rfl
        · exact⟨_,rfl,_,.int _,T.k_is⟩
        · exact⟨_,rfl,_,.non,T.k_ns⟩
        · exact⟨_,rfl,_,.lst h1,T.k_ls⟩
        · exact⟨_,rfl,_,.tup h2,T.k_ts⟩
      refine⟨_,_,_,_,rfl,rfl,SqL.of h3,ev,R,kv,v,rfl,hkF sF4,.inr ⟨hn,fun u' F5 s5' rf=>?_⟩⟩
      refine⟨(by show 3≤sizeLine;omega),fun p6 n6=>?_⟩
      have t6:=a0e (o:=.tup [V.str (Str.ofString "refused"),.bl true,.bl false]) n6
      obtain⟨pu,rfl,hpu⟩:=rf
      refine⟨_,_,tR_is (t6 _ _ hpu),tR_is a0c,dR_gd.sh (by decide),dR_gd.sh (by decide),dR_gd.mix,?_⟩
      rw[PySem.Spec.same_self]
      exact k _
theorem law_binds(T:Txt K mg t):∀(s:Shared) (u:Value),BindsTo s t.t0u ⟨[u],[]⟩ [("_law_script",u)]:=by
  obtain⟨oc,od,kV,doc,pm,an,cdv,ct,osl,e,_,_⟩:=T.t0r.ex
  rw[e]
  exact fun s u=>.of_eq rfl
end
abbrev NS(K:PySem.W.Frag)(x:Str)(a:Addr):Prop:=PySem.W.nsIn K mainGlobals x=some (some (.ref a))
abbrev KI(K:PySem.W.Frag)(a:Addr):Prop:=PySem.W.keepIn K (.ref a)=true
abbrev FX(K:PySem.W.Frag)(n q:Str)(s:Stmt)(a:Addr):Prop:=∃d,Fun K n q s a d
theorem fx{K:PySem.W.Frag}{x q:Str}{s:Stmt}{f:Addr}{b:Value}{u v:Option Addr}{w:Array (Option Value)}{c d e g j:Value}(l:K.lookup f=some ⟨b,u,.func (PySem.W.fnOf x q (c0j s) (b0z s) (a0i s) .none c d e v g j),w⟩)(h:PySem.W.codeIn K g q=true)(k:KI K f):FX K x q s f:=⟨_,fun_mk l h k⟩
theorem bn1{K:PySem.W.Frag}{x q:Str}{s:Stmt}{f:Addr}{fd:FuncData}{p0:Str}(F:Fun K x q s f fd)(h:∀(c d e:Value) (v:Option Addr) (g j:Value) (u0:Value),bindArgs (PySem.W.fnOf x q (c0j s) (b0z s) (a0i s) .none c d e v g j) ⟨[u0],[]⟩=pure (([p0]:List Str).zip [u0]):=by intros;rfl):Binds K fd [p0] []:=F.binds fun c d e v g j us hl=>match us,hl with | [u0],_=>h c d e v g j u0
theorem bn2{K:PySem.W.Frag}{x q:Str}{s:Stmt}{f:Addr}{fd:FuncData}{p0 p1:Str}(F:Fun K x q s f fd)(h:∀(c d e:Value) (v:Option Addr) (g j:Value) (u0 u1:Value),bindArgs (PySem.W.fnOf x q (c0j s) (b0z s) (a0i s) .none c d e v g j) ⟨[u0,u1],[]⟩=pure (([p0,p1]:List Str).zip [u0,u1]):=by intros;rfl):Binds K fd [p0,p1] []:=F.binds fun c d e v g j us hl=>match us,hl with | [u0,u1],_=>h c d e v g j u0 u1
theorem bn3{K:PySem.W.Frag}{x q:Str}{s:Stmt}{f:Addr}{fd:FuncData}{p0 p1 p2:Str}(F:Fun K x q s f fd)(h:∀(c d e:Value) (v:Option Addr) (g j:Value) (u0 u1 u2:Value),bindArgs (PySem.W.fnOf x q (c0j s) (b0z s) (a0i s) .none c d e v g j) ⟨[u0,u1,u2],[]⟩=pure (([p0,p1,p2]:List Str).zip [u0,u1,u2]):=by intros;rfl):Binds K fd [p0,p1,p2] []:=F.binds fun c d e v g j us hl=>match us,hl with | [u0,u1,u2],_=>h c d e v g j u0 u1 u2
theorem bn4{K:PySem.W.Frag}{x q:Str}{s:Stmt}{f:Addr}{fd:FuncData}{p0 p1 p2 p3:Str}(F:Fun K x q s f fd)(h:∀(c d e:Value) (v:Option Addr) (g j:Value) (u0 u1 u2 u3:Value),bindArgs (PySem.W.fnOf x q (c0j s) (b0z s) (a0i s) .none c d e v g j) ⟨[u0,u1,u2,u3],[]⟩=pure (([p0,p1,p2,p3]:List Str).zip [u0,u1,u2,u3]):=by intros;rfl):Binds K fd [p0,p1,p2,p3] []:=F.binds fun c d e v g j us hl=>match us,hl with | [u0,u1,u2,u3],_=>h c d e v g j u0 u1 u2 u3
theorem txt_mk{K:PySem.W.Frag}{h:Heap}{mg:Str→Option Value}(X:K.In h)(G:h.Ns mainGlobals mg){A0 A1 A2 A3 A4 A5 A6 A7 A8 A9 A10 A11 A12 A13 A14 A15 A16 A17 A18 A19 A20 A21 A22 A23 A24 A25 A26 A27 A28 A29 A30 A31 A32 A33 A34 A35 A36 A37 A38 A39 A40 A41 A42 A43 A44 A45 A46 A47 A48 A49 A50 A51 A52 A53:Addr}
 (N0:NS K "Fractions" A0)
 (pg0:PySem.W.plainGet K A0 Str.empty=true)
 (hd0:PySem.W.hasDictIn K A0=true)
 (po0:PySem.W.plainOver K A0=true)
 (sa0:PySem.W.findIn K (.ref A0) "__setattr__"=some (some (.builtin "object.__setattr__")))
 (mk0:PySem.W.makesIn K A0=true)
 (kp0:KI K A0)
 (in0:PySem.W.findIn K (.ref A0) "__init__"=some (some (.builtin "object.__init__")))
 (N1:NS K "Residues" A1)
 (pg1:PySem.W.plainGet K A1 Str.empty=true)
 (hd1:PySem.W.hasDictIn K A1=true)
 (po1:PySem.W.plainOver K A1=true)
 (sa1:PySem.W.findIn K (.ref A1) "__setattr__"=some (some (.builtin "object.__setattr__")))
 (mk1:PySem.W.makesIn K A1=true)
 (kp1:KI K A1)
 (N2:NS K "Costs" A2)
 (pg2:PySem.W.plainGet K A2 Str.empty=true)
 (hd2:PySem.W.hasDictIn K A2=true)
 (po2:PySem.W.plainOver K A2=true)
 (sa2:PySem.W.findIn K (.ref A2) "__setattr__"=some (some (.builtin "object.__setattr__")))
 (mk2:PySem.W.makesIn K A2=true)
 (kp2:KI K A2)
 (in2:PySem.W.findIn K (.ref A2) "__init__"=some (some (.builtin "object.__init__")))
 (N3:NS K "Truths" A3)
 (pg3:PySem.W.plainGet K A3 Str.empty=true)
 (hd3:PySem.W.hasDictIn K A3=true)
 (po3:PySem.W.plainOver K A3=true)
 (sa3:PySem.W.findIn K (.ref A3) "__setattr__"=some (some (.builtin "object.__setattr__")))
 (mk3:PySem.W.makesIn K A3=true)
 (kp3:KI K A3)
 (in3:PySem.W.findIn K (.ref A3) "__init__"=some (some (.builtin "object.__init__")))
 (N4:NS K "WeighError" A4)
 (X4:ExcK K A4)
 (N5:NS K "NoKind" A5)
 (X5:ExcK K A5)
 (N6:NS K "WrongKind" A6)
 (X6:ExcK K A6)
 (N7:NS K "NoWeight" A7)
 (X7:ExcK K A7)
 (N8:NS K "NoWord" A8)
 (X8:ExcK K A8)
 (N9:NS K "Unlike" A9)
 (X9:ExcK K A9)
 (N10:NS K "NoClosure" A10)
 (X10:ExcK K A10)
 (N11:NS K "TooGreat" A11)
 (X11:ExcK K A11)
 (N12:NS K "NoText" A12)
 (X12:ExcK K A12)
 (N13:NS K "NoName" A13)
 (X13:ExcK K A13)
 (N14:NS K "NoRow" A14)
 (X14:ExcK K A14)
 (n0:NS K "is_whole" A15)
 (f0:FX K "is_whole" "is_whole" g0l A15)
 (n1:NS K "divisor" A16)
 (f1:FX K "divisor" "divisor" h0k A16)
 (n2:NS K "is_prime" A17)
 (f2:FX K "is_prime" "is_prime" g0m A17)
 (n3:PySem.W.findIn K (.ref A1) "__init__"=some (some (.ref A18)))
 (i3:PySem.W.isFn K (.ref A18)=true)
 (f3:FX K "__init__" "Residues.__init__" b0y A18)
 (n4:NS K "is_written" A19)
 (f4:FX K "is_written" "is_written" d0c A19)
 (n5:NS K "read_whole" A20)
 (f5:FX K "read_whole" "read_whole" d0z A20)
 (n6:NS K "need_text" A21)
 (f6:FX K "need_text" "need_text" e0z A21)
 (n7:PySem.W.findIn K (.ref A0) "read"=some (some (.ref A22)))
 (i7:PySem.W.isFn K (.ref A22)=true)
 (f7:FX K "read" "Fractions.read" c0o A22)
 (n8:PySem.W.findIn K (.ref A1) "is_weight"=some (some (.ref A23)))
 (i8:PySem.W.isFn K (.ref A23)=true)
 (f8:FX K "is_weight" "Residues.is_weight" b0x A23)
 (n9:PySem.W.findIn K (.ref A1) "read"=some (some (.ref A24)))
 (i9:PySem.W.isFn K (.ref A24)=true)
 (f9:FX K "read" "Residues.read" c0u A24)
 (n10:PySem.W.findIn K (.ref A2) "read"=some (some (.ref A25)))
 (i10:PySem.W.isFn K (.ref A25)=true)
 (f10:FX K "read" "Costs.read" e0c A25)
 (n11:PySem.W.findIn K (.ref A3) "read"=some (some (.ref A26)))
 (i11:PySem.W.isFn K (.ref A26)=true)
 (f11:FX K "read" "Truths.read" d0o A26)
 (n12:NS K "is_letters" A27)
 (f12:FX K "is_letters" "is_letters" d0d A27)
 (n13:NS K "read_row" A28)
 (f13:FX K "read_row" "read_row" e0l A28)
 (n14:NS K "read_row_of" A29)
 (f14:FX K "read_row_of" "read_row_of" d0j A29)
 (n15:NS K "read_table" A30)
 (f15:FX K "read_table" "read_table" d0b A30)
 (n16:NS K "read_machine" A31)
 (f16:FX K "read_machine" "read_machine" c0l A31)
 (n17:NS K "_law_state" A32)
 (f17:FX K "_law_state" "_law_state" f0a A32)
 (n18:NS K "_law_next" A33)
 (f18:FX K "_law_next" "_law_next" g0j A33)
 (n19:NS K "_law_rooms" A34)
 (f19:FX K "_law_rooms" "_law_rooms" f0c A34)
 (n20:NS K "_law_letters" A35)
 (f20:FX K "_law_letters" "_law_letters" d0l A35)
 (n21:NS K "_law_divisor" A36)
 (f21:FX K "_law_divisor" "_law_divisor" d0m A36)
 (n22:NS K "_law_low" A37)
 (f22:FX K "_law_low" "_law_low" h0j A37)
 (n23:NS K "_law_sort" A38)
 (f23:FX K "_law_sort" "_law_sort" g0i A38)
 (n24:NS K "_law_kind" A39)
 (f24:FX K "_law_kind" "_law_kind" g0k A39)
 (n25:NS K "_law_shown" A40)
 (f25:FX K "_law_shown" "_law_shown" f0b A40)
 (n26:NS K "_law_weight" A41)
 (f26:FX K "_law_weight" "_law_weight" e0a A41)
 (n27:NS K "_law_machine" A42)
 (f27:FX K "_law_machine" "_law_machine" b0w A42)
 (n28:NS K "_law_line" A43)
 (f28:FX K "_law_line" "_law_line" e0o A43)
 (n29:NS K "_law_text" A44)
 (f29:FX K "_law_text" "_law_text" e0m A44)
 (n30:NS K "_law_whole" A45)
 (f30:FX K "_law_whole" "_law_whole" d0k A45)
 (n31:NS K "_law_read_weight" A46)
 (f31:FX K "_law_read_weight" "_law_read_weight" c0g A46)
 (n32:NS K "_law_read_row" A47)
 (f32:FX K "_law_read_row" "_law_read_row" d0f A47)
 (n33:NS K "_law_read_table" A48)
 (f33:FX K "_law_read_table" "_law_read_table" c0n A48)
 (n34:NS K "_law_read" A49)
 (f34:FX K "_law_read" "_law_read" e0n A49)
 (n35:NS K "_law_pieces" A50)
 (f35:FX K "_law_pieces" "_law_pieces" e0b A50)
 (n36:NS K "_law_changed" A51)
 (f36:FX K "_law_changed" "_law_changed" d0n A51)
 (n37:NS K "_law_told" A52)
 (f37:FX K "_law_told" "_law_told" g0h A52)
 (n38:NS K "law" A53)
 (f38:FX K "law" "law" s_law A53)
 (z_isinstance:PySem.W.nsIn K mainGlobals "isinstance"=some none)
 (z_int:PySem.W.nsIn K mainGlobals "int"=some none)
 (z_bool:PySem.W.nsIn K mainGlobals "bool"=some none)
 (z_abs:PySem.W.nsIn K mainGlobals "abs"=some none)
 {tk_c_GREATEST_PRIME:Tok}
 (c_GREATEST_PRIME:PySem.W.nsIn K mainGlobals "GREATEST_PRIME"=some (some (.int 1000000 tk_c_GREATEST_PRIME)))
 (z_str:PySem.W.nsIn K mainGlobals "str"=some none)
 (z_len:PySem.W.nsIn K mainGlobals "len"=some none)
 {tk_c_MOST_FIGURES:Tok}
 (c_MOST_FIGURES:PySem.W.nsIn K mainGlobals "MOST_FIGURES"=some (some (.int 30 tk_c_MOST_FIGURES)))
 (z_all:PySem.W.nsIn K mainGlobals "all"=some none)
 {tk_c_FIGURES:Tok}
 (c_FIGURES:PySem.W.nsIn K mainGlobals "FIGURES"=some (some (.str "0123456789" tk_c_FIGURES)))
 {tk_c_MOST_LETTERS:Tok}
 (c_MOST_LETTERS:PySem.W.nsIn K mainGlobals "MOST_LETTERS"=some (some (.int 3 tk_c_MOST_LETTERS)))
 (z_set:PySem.W.nsIn K mainGlobals "set"=some none)
 {tk_c_SMALL_LETTERS:Tok}
 (c_SMALL_LETTERS:PySem.W.nsIn K mainGlobals "SMALL_LETTERS"=some (some (.str "abcdefghijklmnopqrstuvwxyz" tk_c_SMALL_LETTERS)))
 {tk_c_NO_ROOMS:Tok}
 (c_NO_ROOMS:PySem.W.nsIn K mainGlobals "NO_ROOMS"=some (some (.str "-" tk_c_NO_ROOMS)))
 (z_tuple:PySem.W.nsIn K mainGlobals "tuple"=some none)
 {tk_c_MOST_ROOMS:Tok}
 (c_MOST_ROOMS:PySem.W.nsIn K mainGlobals "MOST_ROOMS"=some (some (.int 20 tk_c_MOST_ROOMS)))
 (z_range:PySem.W.nsIn K mainGlobals "range"=some none)
 (z_ValueError:PySem.W.nsIn K mainGlobals "ValueError"=some none)
 (z_max:PySem.W.nsIn K mainGlobals "max"=some none)
 (z_min:PySem.W.nsIn K mainGlobals "min"=some none)
 (k_ii:PySem.W.kitOne K (.type "int") (.type "int")=some true)
 (k_ib:PySem.W.kitOne K (.type "int") (.type "bool")=some false)
 (k_tt:PySem.W.kitOne K (.type "tuple") (.type "tuple")=some true)
 (k_bb:PySem.W.kitOne K (.type "bool") (.type "bool")=some true)
 (k_ss:PySem.W.kitOne K (.type "str") (.type "str")=some true)
 (nP:PySem.W.findIn K (.ref A1) "prime"=some none)
 (k_ts:PySem.W.kitOne K (.type "tuple") (.type "str")=some false)
 (k_ns:PySem.W.kitOne K (.type "NoneType") (.type "str")=some false)
 (k_is:PySem.W.kitOne K (.type "int") (.type "str")=some false)
 (k_ls:PySem.W.kitOne K (.type "list") (.type "str")=some false)
 (eT:PySem.W.exmOne K (.ref A12) (.ref A4)=some true)
 (vT1:PySem.W.kitOne K (.ref A12) (.type "ValueError")=some true)
 (kTT:PySem.W.kitOne K (.ref A12) (.ref A12)=some true)
 (xNoKind:PySem.W.kitOne K (.ref A12) (.ref A5)=some false)
 (xWrongKind:PySem.W.kitOne K (.ref A12) (.ref A6)=some false)
 (xNoWeight:PySem.W.kitOne K (.ref A12) (.ref A7)=some false)
 (xNoWord:PySem.W.kitOne K (.ref A12) (.ref A8)=some false)
 (xUnlike:PySem.W.kitOne K (.ref A12) (.ref A9)=some false)
 (xNoClosure:PySem.W.kitOne K (.ref A12) (.ref A10)=some false)
 (xTooGreat:PySem.W.kitOne K (.ref A12) (.ref A11)=some false)
 (xNoName:PySem.W.kitOne K (.ref A12) (.ref A13)=some false)
 (xNoRow:PySem.W.kitOne K (.ref A12) (.ref A14)=some false)
 : ∃t:Adr,Txt K mg t:=
 have M:∀{x:Str} {v:Value},PySem.W.nsIn K mainGlobals x=some (some v)→mg x=some v:=fun n=>PySem.W.mg_of X G n
 have Z:∀{x:Str},PySem.W.nsIn K mainGlobals x=some none→mg x=none:=fun n=>PySem.W.mg_none_of X G n
 have S:∀{n q:Str} {s:Stmt} {a:Addr} (f:FX K n q s a),Fun K n q s a f.choose:=fun f=>f.choose_spec
 ⟨{ s0k:=A15,p0m:=f0.choose,t0k:=A16,s0c:=f1.choose,s0y:=A17,r0d:=f2.choose,k0z:=A18,k0u:=f3.choose,q0c:=A19,n0m:=f4.choose,q0q:=A20,n0v:=f5.choose,s0d:=A21,o0g:=f6.choose,l0x:=A22,l0i:=f7.choose,k0w:=A23,k0o:=f8.choose,m0c:=A24,l0l:=f9.choose,p0x:=A25,n0n:=f10.choose,o0l:=A26,m0g:=f11.choose,q0j:=A27,n0s:=f12.choose,t0c:=A28,p0z:=f13.choose,p0h:=A29,m0n:=f14.choose,q0i:=A30,n0u:=f15.choose,m0y:=A31,l0w:=f16.choose,r0v:=A32,p0c:=f17.choose,s0l:=A33,q0b:=f18.choose,r0y:=A34,p0i:=f19.choose,o0r:=A35,m0l:=f20.choose,p0f:=A36,m0b:=f21.choose,t0j:=A37,r0o:=f22.choose,s0f:=A38,q0t:=f23.choose,s0s:=A39,p0u:=f24.choose,r0s:=A40,p0j:=f25.choose,p0t:=A41,n0a:=f26.choose,o0q:=A42,m0e:=f27.choose,s0t:=A43,q0u:=f28.choose,s0q:=A44,r0m:=f29.choose,r0q:=A45,o0e:=f30.choose,l0m:=A46,k0y:=f31.choose,n0w:=A47,l0y:=f32.choose,l0s:=A48,l0d:=f33.choose,s0m:=A49,r0e:=f34.choose,p0v:=A50,n0x:=f35.choose,o0u:=A51,m0s:=f36.choose,s0i:=A52,q0r:=f37.choose,law:=A53,t0u:=f38.choose,r0x:=A0,s0z:=A1,t0s:=A2,t0q:=A3,q0n:=A4,t0m:=A5,r0t:=A6,s0o:=A7,t0l:=A8,t0o:=A9,r0p:=A10,s0w:=A11,t0n:=A12,t0p:=A13,t0v:=A14 },
   { q0a:=S f0,p0q:=bn1 (S f0),p0o:=M n0,r0w:=S f1,s0b:=bn2 (S f1),s0a:=M n1,p0y:=S f2,p0s:=bn1 (S f2),p0l:=M n2,k0v:=S f3,k0s:=bn2 (S f3),k0t:=⟨n3,i3,(S f3).kp⟩,m0z:=S f4,o0d:=bn1 (S f4),n0f:=M n4,n0k:=S f5,n0y:=bn1 (S f5),n0t:=M n5,o0v:=S f6,o0p:=bn1 (S f6),p0k:=M n6,l0g:=S f7,l0e:=bn2 (S f7),l0h:=⟨n7,i7,(S f7).kp⟩,k0r:=S f8,k0p:=bn2 (S f8),k0q:=⟨n8,i8,(S f8).kp⟩,l0k:=S f9,l0n:=bn2 (S f9),l0o:=⟨n9,i9,(S f9).kp⟩,n0c:=S f10,n0p:=bn2 (S f10),n0r:=⟨n10,i10,(S f10).kp⟩,m0w:=S f11,m0d:=bn2 (S f11),m0m:=⟨n11,i11,(S f11).kp⟩,o0a:=S f12,n0z:=bn1 (S f12),n0e:=M n12,q0w:=S f13,q0y:=bn2 (S f13),p0p:=M n13,m0q:=S f14,m0j:=bn3 (S f14),m0r:=M n14,n0h:=S f15,n0q:=bn3 (S f15),n0g:=M n15,l0t:=S f16,l0r:=bn2 (S f16),l0u:=M n16,p0a:=S f17,o0o:=bn1 (S f17),o0w:=M n17,q0h:=S f18,p0n:=bn2 (S f18),p0r:=M n18,o0s:=S f19,o0k:=bn3 (S f19),o0m:=M n19,m0v:=S f20,m0h:=bn1 (S f20),l0z:=M n20,m0i:=S f21,m0k:=bn2 (S f21),m0p:=M n21,r0z:=S f22,r0r:=bn2 (S f22),r0u:=M n22,r0k:=S f23,q0s:=bn2 (S f23),q0f:=M n23,q0p:=S f24,r0n:=bn1 (S f24),q0x:=M n24,o0j:=S f25,o0f:=bn2 (S f25),o0t:=M n25,n0d:=S f26,o0c:=bn2 (S f26),o0b:=M n26,m0x:=S f27,m0f:=bn4 (S f27),m0u:=M n27,q0e:=S f28,q0l:=bn2 (S f28),r0f:=M n28,q0o:=S f29,r0h:=bn2 (S f29),r0b:=M n29,o0x:=S f30,p0g:=bn1 (S f30),o0y:=M n30,k0x:=S f31,l0a:=bn2 (S f31),l0b:=M n31,l0p:=S f32,l0q:=bn3 (S f32),l0v:=M n32,l0j:=S f33,l0f:=bn3 (S f33),l0c:=M n33,r0l:=S f34,p0w:=bn2 (S f34),q0v:=M n34,n0j:=S f35,n0i:=bn3 (S f35),n0l:=M n35,m0t:=S f36,m0o:=bn2 (S f36),m0a:=M n36,q0k:=S f37,r0a:=bn2 (S f37),r0c:=M n37,t0r:=S f38,t0t:=bn1 (S f38),t0w:=M n38,o0n:=⟨pg0,hd0,po0,sa0⟩,p0e:=M N0,p0d:=⟨mk0,in0,kp0⟩,q0m:=⟨pg1,hd1,po1,sa1⟩,q0d:=M N1,q0z:=⟨mk1,n3,i3,kp1⟩,t0g:=⟨pg2,hd2,po2,sa2⟩,t0i:=M N2,t0f:=⟨mk2,in2,kp2⟩,t0a:=⟨pg3,hd3,po3,sa3⟩,s0x:=M N3,s0n:=⟨mk3,in3,kp3⟩,n0b:=M N4,n0o:=X4,s0r:=M N5,s0h:=X5,o0h:=M N6,o0i:=X6,q0g:=M N7,r0i:=X7,s0u:=M N8,s0e:=X8,s0j:=M N9,s0p:=X9,p0b:=M N10,o0z:=X10,r0j:=M N11,r0g:=X11,t0d:=M N12,s0v:=X12,s0g:=M N13,t0b:=X13,t0e:=M N14,t0h:=X14,z_isinstance:=Z z_isinstance,z_int:=Z z_int,z_bool:=Z z_bool,z_abs:=Z z_abs,c_GREATEST_PRIME:=⟨_,M c_GREATEST_PRIME⟩,z_str:=Z z_str,z_len:=Z z_len,c_MOST_FIGURES:=⟨_,M c_MOST_FIGURES⟩,z_all:=Z z_all,c_FIGURES:=⟨_,M c_FIGURES⟩,c_MOST_LETTERS:=⟨_,M c_MOST_LETTERS⟩,z_set:=Z z_set,c_SMALL_LETTERS:=⟨_,M c_SMALL_LETTERS⟩,c_NO_ROOMS:=⟨_,M c_NO_ROOMS⟩,z_tuple:=Z z_tuple,c_MOST_ROOMS:=⟨_,M c_MOST_ROOMS⟩,z_range:=Z z_range,z_ValueError:=Z z_ValueError,z_max:=Z z_max,z_min:=Z z_min,k_ii:=k_ii,k_ib:=k_ib,k_tt:=k_tt,k_bb:=k_bb,k_ss:=k_ss,nP:=nP,k_ts:=k_ts,k_ns:=k_ns,k_is:=k_is,k_ls:=k_ls,eT:=eT,vT1:=vT1,kTT:=kTT,xNoKind:=xNoKind,xWrongKind:=xWrongKind,xNoWeight:=xNoWeight,xNoWord:=xNoWord,xUnlike:=xUnlike,xNoClosure:=xNoClosure,xTooGreat:=xTooGreat,xNoName:=xNoName,xNoRow:=xNoRow }⟩
end K92
open PySem PySem.W PyProof.Rows
set_option maxRecDepth 100000 in
set_option maxHeartbeats 0 in
theorem PySem.Challenge.cw_weighwalk_k92_odd_machines_holds : PySem.Challenge.rw_weighwalk_k92_odd_machines.Holds := by
  w_on;o_law
  refine H92.holds_ (by assumption) ?hw ?hc
  (case hw=>w_witness2)
  unfold H92.hook
  k_fill
  refine L2.walk_ofK (l:=PySem.Challenge.rw_weighwalk_k92_odd_machines) (n:=63) (k:=50) (x:="_law_script") (CX:=L2.CX0) (sp:=K92.sp_law) rfl (by decide) rfl ⟨rfl,by decide,by decide⟩ (by decide +kernel) (fun w h Y=>PySem.W.kIn_of Y) ?F ?S ?C
  case F=>
    intro w mg fa h KX G hmg
    have T:∃t,K92.Txt (L2.KOf KX) mg t:=by
      dsimp only[L2.KOf]
      refine' K92.txt_mk KX G ?_ ?_ ?_ ?_ ?_ ?_ ?_ ?_ ?_ ?_ ?_ ?_ ?_ ?_ ?_ ?_ ?_ ?_ ?_ ?_ ?_ ?_ ?_ ?_ ?_ ?_ ?_ ?_ ?_ ?_ ?_ ?_ ?X4 ?_ ?X5 ?_ ?X6 ?_ ?X7 ?_ ?X8 ?_ ?X9 ?_ ?X10 ?_ ?X11 ?_ ?X12 ?_ ?X13 ?_ ?X14 ?_ (K92.fx (H92.lk_is_whole _) ?_ ?_) ?_ (K92.fx (H92.lk_divisor _) ?_ ?_) ?_ (K92.fx (H92.lk_is_prime _) ?_ ?_) ?_ ?_ (K92.fx (H92.e0t _) ?_ ?_) ?_ (K92.fx (H92.j0y _) ?_ ?_) ?_ (K92.fx (H92.j0w _) ?_ ?_) ?_ (K92.fx (H92.lk_need_text _) ?_ ?_) ?_ ?_ (K92.fx (H92.g0s _) ?_ ?_) ?_ ?_ (K92.fx (H92.e0j _) ?_ ?_) ?_ ?_ (K92.fx (H92.h0c _) ?_ ?_) ?_ ?_ (K92.fx (H92.k0e _) ?_ ?_) ?_ ?_ (K92.fx (H92.i0q _) ?_ ?_) ?_ (K92.fx (H92.j0z _) ?_ ?_) ?_ (K92.fx (H92.lk_read_row _) ?_ ?_) ?_ (K92.fx (H92.i0n _) ?_ ?_) ?_ (K92.fx (H92.j0x _) ?_ ?_) ?_ (K92.fx (H92.h0s _) ?_ ?_) ?_ (K92.fx (H92.k0b _) ?_ ?_) ?_ (K92.fx (H92.lk__law_next _) ?_ ?_) ?_ (K92.fx (H92.k0d _) ?_ ?_) ?_ (K92.fx (H92.h0u _) ?_ ?_) ?_ (K92.fx (H92.h0v _) ?_ ?_) ?_ (K92.fx (H92.lk__law_low _) ?_ ?_) ?_ (K92.fx (H92.lk__law_sort _) ?_ ?_) ?_ (K92.fx (H92.lk__law_kind _) ?_ ?_) ?_ (K92.fx (H92.k0c _) ?_ ?_) ?_ (K92.fx (H92.i0o _) ?_ ?_) ?_ (K92.fx (H92.h0t _) ?_ ?_) ?_ (K92.fx (H92.lk__law_line _) ?_ ?_) ?_ (K92.fx (H92.lk__law_text _) ?_ ?_) ?_ (K92.fx (H92.k0a _) ?_ ?_) ?_ (K92.fx (H92.f0i _) ?_ ?_) ?_ (K92.fx (H92.h0b _) ?_ ?_) ?_ (K92.fx (H92.g0a _) ?_ ?_) ?_ (K92.fx (H92.lk__law_read _) ?_ ?_) ?_ (K92.fx (H92.i0p _) ?_ ?_) ?_ (K92.fx (H92.h0w _) ?_ ?_) ?_ (K92.fx (H92.lk__law_told _) ?_ ?_) ?_ (K92.fx (H92.lk_law _) ?_ ?_) ?_ ?_ ?_ ?_ ?_ ?_ ?_ ?_ ?_ ?_ ?_ ?_ ?_ ?_ ?_ ?_ ?_ ?_ ?_ ?_ ?k_ii ?k_ib ?k_tt ?k_bb ?k_ss ?_ ?k_ts ?k_ns ?k_is ?k_ls ?eT ?vT1 ?kTT ?xNoKind ?xWrongKind ?xNoWeight ?xNoWord ?xUnlike ?xNoClosure ?xTooGreat ?xNoName ?xNoRow
      any_goals (show _=_;k_is)
      (case X4 | X5 | X6 | X7 | X8 | X9 | X10 | X11 | X12 | X13 | X14=>exact⟨by kernel_rfl,by kernel_rfl,by kernel_rfl,by kernel_rfl,by kernel_rfl,by kernel_rfl⟩)
      (case k_ii | k_ib | k_tt | k_bb | k_ss | k_ts | k_ns | k_is | k_ls=>kit_is)
      (case eT | vT1 | kTT | xNoKind | xWrongKind | xNoWeight | xNoWord | xUnlike | xNoClosure | xTooGreat | xNoName | xNoRow=>kernel_rfl)
    obtain⟨t,T⟩:=T
    have e0:=hmg.symm.trans T.t0w
    cases e0
    exact⟨_,K92.law_binds T,fun base kb nb=>K92.ok_law T⟩
  case S=>exact fun K H a ns hl hO hS=>⟨a,ns,rfl,hS,hl,fun _=>rfl⟩
  case C=>exact fun _ _ _ _ z=>z
