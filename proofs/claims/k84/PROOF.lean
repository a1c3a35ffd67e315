import PyProof.Rows.All
import Wide.All
import OpenK.AllK
import Wide.FinOn
import Lean
import PyProof.EqAt
import PyProof.EqKinds
import PyProof.TupleCall
import KE.IntTextLaws
import KE.KIntText
import KE.KTryMore
import PyProof.Ascii
import PyProof.FitsInt
import PyProof.MeetsStr
import PyProof.Rows.StrFromFirst
import PyProof.Rows.StrLawsPart
import PyProof.Rows.StrNews2
import PyProof.Rows.StrStrike
import PyProof.StrCalls
import PyProof.StrCalls2
import PyProof.StrCalls6
import PyProof.StrLawsIn
import PyProof.StrLawsTight
import PyProof.ToksMono
import PySem.Challenge.RW_weighwalk_k84_odd_sayings
set_option Elab.async false
set_option linter.all false
set_option maxRecDepth 100000
namespace L2
open PySem PySem.Spec PyProof.Rows
abbrev Key:=Sum Int Str
def keyIs:Key→Value→Bool
  | .inl k,v=>Value.isInt k v
  | .inr x,v=>Value.isStrOf x v
def keyH(w:World):Key→Int
  | .inl k=>hashInt k
  | .inr x=>hashStr w x
theorem b0l:∀{k:Key} {v:Value},keyIs k v=true→(∃i t,k=Sum.inl i∧v=Value.int i t)∨(∃x t,k=Sum.inr x∧v=Value.str x t)
  | .inl i,v,h=>by
    obtain⟨t,e⟩:=Value.isInt_shape (k:=i) (v:=v) h
    exact .inl ⟨i,t,rfl,e⟩
  | .inr x,v,h=>by
    obtain⟨t,e⟩:=Value.isStrOf_shape (x:=x) (v:=v) h
    exact .inr ⟨x,t,rfl,e⟩
theorem keyIs_int(i:Int)(t:Tok):keyIs (.inl i) (.int i t)=true:=by simp[keyIs,Value.isInt]
theorem keyIs_str(x:Str)(t:Tok):keyIs (.inr x) (.str x t)=true:=by simp[keyIs,Value.isStrOf]
theorem key_ll(a b:Int):decide ((Sum.inl a:Key)=Sum.inl b)=(a == b):=by
  by_cases e:a=b
  · subst e;simp
  · have h:¬(Sum.inl a:Key)=Sum.inl b:=fun q=>e (Sum.inl.inj q)
    rw[decide_eq_false h]
    exact(beq_eq_false_iff_ne.mpr e).symm
theorem key_rr(a b:Str):decide ((Sum.inr a:Key)=Sum.inr b)=decide (a=b):=by
  by_cases e:a=b
  · subst e;simp
  · have h:¬(Sum.inr a:Key)=Sum.inr b:=fun q=>e (Sum.inr.inj q)
    rw[decide_eq_false h,decide_eq_false e]
theorem key_lr(a:Int)(b:Str):decide ((Sum.inl a:Key)=Sum.inr b)=false:=decide_eq_false (fun q=>nomatch q)
theorem key_rl(a:Str)(b:Int):decide ((Sum.inr a:Key)=Sum.inl b)=false:=decide_eq_false (fun q=>nomatch q)
def b0r(prog:Program)(w:World):PySem.KeyKind prog w Key where
  is:=keyIs
  hash:=keyH w
  inj:=fun v a b ha hb=>by
    rcases b0l ha with ⟨i,t,rfl,rfl⟩ | ⟨x,t,rfl,rfl⟩
    · rcases b0l hb with ⟨j,u,rfl,e⟩ | ⟨y,u,rfl,e⟩
      · injection e with e1 _;rw[e1]
      · exact nomatch e
    · rcases b0l hb with ⟨j,u,rfl,e⟩ | ⟨y,u,rfl,e⟩
      · exact nomatch e
      · injection e with e1 _;rw[e1]
  byValue:=fun k v h=>by
    rcases b0l h with ⟨i,t,rfl,rfl⟩ | ⟨x,t,rfl,rfl⟩ <;>rfl
  pyHash:=fun hv h=>by
    rcases b0l hv with ⟨i,t,rfl,rfl⟩ | ⟨x,t,rfl,rfl⟩
    · exact wpAny_pyHash_int h
    · exact wpAny_pyHash_str h
  eqBool:=fun hu hv h=>by
    rcases b0l hu with ⟨i,t,rfl,rfl⟩ | ⟨x,t,rfl,rfl⟩
    · rcases b0l hv with ⟨j,u,rfl,rfl⟩ | ⟨y,u,rfl,rfl⟩
      · rw[key_ll]at h;exact wpAny_eqBool_int h
      · rw[key_lr]at h;exact SeqAt.EqAt.int_str i t y u _ _ _ _ h
    · rcases b0l hv with ⟨j,u,rfl,rfl⟩ | ⟨y,u,rfl,rfl⟩
      · rw[key_rl]at h;exact SeqAt.EqAt.str_int x t j u _ _ _ _ h
      · rw[key_rr]at h;exact wpAny_eqBool_str h
  «strs»:=fun k x t v h=>by
    rcases b0l h with ⟨i,u,rfl,e⟩ | ⟨y,u,rfl,e⟩
    · exact nomatch e
    · injection e with e1 _
      subst e1
      cases v <;>rfl
theorem mixKind_int(prog:Program)(w:World)(i:Int)(t:Tok):(b0r prog w).is (.inl i) (.int i t)=true:=keyIs_int i t
theorem f0i(prog:Program)(w:World)(x:Str)(t:Tok):(b0r prog w).is (.inr x) (.str x t)=true:=keyIs_str x t
end L2
namespace L2
open PySem PySem.Spec PyProof.Rows
inductive V where
  | non | bl (b:Bool) | int (i:Int) | str (x:Str) | byt (b:Array UInt8) | flt (b:UInt64) | ref (a:Addr) | ty (n:String)
  deriving DecidableEq
def RelV:V→Value→Prop
  | .non,u=>u=Value.none
  | .bl b,u=>u=Value.bool b
  | .int i,u=>∃t,u=Value.int i t
  | .str x,u=>∃t,u=Value.str x t
  | .byt b,u=>∃t,u=Value.bytes b t
  | .flt b,u=>∃t,u=Value.float b t
  | .ref a,u=>u=Value.ref a
  | .ty n,u=>u=Value.type n
abbrev Vals:List V→List Value→Prop:=Paired RelV
theorem Vals.length{xs:List V}{us:List Value}(r:Vals xs us):xs.length=us.length:=Paired.length r
theorem Vals.get:∀{xs:List V} {us:List Value} {i:Nat} {x:V},Vals xs us→xs[i]? = some x→∃u,us[i]? = some u∧RelV x u
  | _,_,_,_,.nil,e=>by simp at e
  | _,_,0,_,.cons r _,e=>by simp at e;subst e;exact⟨_,rfl,r⟩
  | _,_,i+1,x,.cons _ t,e=>by
    obtain⟨u,h1,h2⟩:=Vals.get (i:=i) (x:=x) t (by simpa using e)
    exact⟨u,by simpa using h1,h2⟩
theorem Vals.set{x:V}{u:Value}(r:RelV x u):∀{xs:List V} {us:List Value} (i:Nat),Vals xs us→Vals (xs.set i x) (us.set i u)
  | _,_,_,.nil=>.nil
  | _,_,0,.cons _ t=>.cons r t
  | _,_,i+1,.cons q t=>.cons q (Vals.set r i t)
theorem Vals.append:∀{xs ys:List V} {us ws:List Value},Vals xs us→Vals ys ws→Vals (xs++ys) (us++ws)
  | _,_,_,_,.nil,s=>s
  | _,_,_,_,.cons r t,s=>.cons r (Vals.append t s)
theorem Vals.take:∀{xs:List V} {us:List Value} (n:Nat),Vals xs us→Vals (xs.take n) (us.take n)
  | _,_,0,_=>.nil
  | _,_,_+1,.nil=>.nil
  | _,_,n+1,.cons r t=>.cons r (Vals.take n t)
theorem Vals.drop:∀{xs:List V} {us:List Value} (n:Nat),Vals xs us→Vals (xs.drop n) (us.drop n)
  | _,_,0,r=>r
  | _,_,_+1,.nil=>.nil
  | _,_,n+1,.cons _ t=>Vals.drop n t
theorem Vals.none_of:∀{xs:List V} {us:List Value} {i:Nat},Vals xs us→xs[i]? = none→us[i]? = none:=fun{xs us i} r e=>by
  have h1:=r.length
  have h2:xs.length≤i:=List.getElem?_eq_none_iff.mp e
  exact List.getElem?_eq_none_iff.mpr (by omega)
def RelO:Option V→Option Value→Prop
  | some v,some u=>RelV v u
  | none,none=>True
  | _,_=>False
def KV{κ:Type}:List (κ × V)→List (κ × Value)→Prop:=Paired fun(p:κ × V) (q:κ × Value)=>p.1=q.1∧RelV p.2 q.2
def kV:Key→V
  | .inl i=>.int i
  | .inr x=>.str x
inductive HO where
  | lst (xs:List V)
  | tup (xs:List V)
  | dK (kvs:List (Key × V)) | dT (kvs:List (List Key × V))
  | set (S:Int→Bool) (n:Nat)
  | ins (C dx:Addr) (fs:List (Str × V))
  | own (x:Addr)
  | xd (fs:List (Str × V))
  | met (f x:Addr)
  | rng (lo hi:Int)
  | frz (o:Obj) (u:HO)
  | tbl (ps:Array Value)
  | ext (φ:Heap→Prop)
abbrev Hp:=Addr→Option HO
def upd(H:Hp)(a:Addr)(o:HO):Hp:=fun b=>if b=a then some o else H b
theorem a0b{H:Hp}{a:Addr}{o:HO}:upd H a o a=some o:=by unfold upd;rw[if_pos rfl]
theorem a0v{H:Hp}{a b:Addr}{o:HO}(h:b≠a):upd H a o b=H b:=by unfold upd;rw[if_neg h]
theorem upd_upd{H:Hp}{a:Addr}{o u:HO}:upd (upd H a o) a u=upd H a u:=by
  funext b;unfold upd;split <;>rfl
theorem a0s{H:Hp}{a b:Addr}{o:HO}(h:H a=some o)(h':H b=none):a≠b:=by
  intro e;subst e;rw[h]at h';cases h'
section
variable(P:Program)(w:World)
def ObjOk(H:Hp)(h:Heap)(a:Addr):HO→Prop
  | .lst xs=>xs.length≤sizeLine∧∃(its:List Value) (n:Nat),Vals xs its∧h.get? a=some { cls:=.type "list",data:=.seq its.toArray n }
  | .tup xs=>xs.length≤sizeLine∧∃its:List Value,Vals xs its∧IsTup h a its.toArray∧((∀i y,xs≠[.int i,y])→∃o,h.get? a=some o∧o.dict=none)
  | .dK kvs=>kvs.length≤sizeLine∧(a == sysModules)=false∧∃vs,KV kvs vs∧h.DictOf (b0r P w) a vs
  | .dT kvs=>kvs.length≤sizeLine∧(a == sysModules)=false∧∃xs:List (List Key × Addr × Value),
      Paired (fun(p:List Key × V) (q:List Key × Addr × Value)=>p.1=q.1∧H q.2.1=some (.tup (p.1.map kV))∧RelV p.2 q.2.2) kvs xs∧
      ∃o es ep,h.get? a=some o∧o.ExactDict∧o.data=.dict es ep∧es.toList=xs.map (entryOfKey (tupleKind (b0r P w)))∧(xs.map (·.1)).Nodup
  | .set S n=>h.SetOf (intKind P w) a S n
  | .ins C dx fs=>H dx=some (.own a)∧fs.length≤1000∧dx≠a∧h.get? a=some (PySem.W.instObj C dx)∧
      ∃mA,h.Ns1 dx mA∧(∀f,RelO (fs.lookup f) (mA f))∧PySem.Within mA (fs.map (·.1))
  | .own _=>∃o,h.get? a=some o
  | .xd fs=>∃mA,h.Ns1 a mA∧∀f,RelO (fs.lookup f) (mA f)
  | .rng lo hi=>∃t u v,h.get? a=some { cls:=.type "range",data:=.fields #[.int lo t,.int hi u,.int 1 v] }
  | .frz o u=>h.get? a=some o∧ObjOk H h a u
  | .tbl ps=>h.get? a=some { cls:=.none,data:=.fields ps }
  | .met f x=>h.get? a=some (PySem.W.methodObj (.ref f) (.ref x))
  | .ext φ=>φ h∧(∃o,h.get? a=some o)∧∀h1 h2:Heap,φ h1→(∀o,h1.get? a=some o→h2.get? a=some o)→φ h2
def HOk(H:Hp)(h:Heap):Prop:=∀a o,H a=some o→ObjOk P w H h a o
end
section
variable{P:Program}{w:World}{H H':Hp}{h h':Heap}{a:Addr}{o:HO}
theorem ObjOk.lt(x:ObjOk P w H h a o):a < h.objs.size:=by
  cases o with
  | lst xs=>obtain⟨_,_,_,_,e⟩:=x;exact Heap.lt_size e
  | tup xs=>obtain⟨_,_,_,p,_⟩:=x;exact p.lt
  | dK kvs=>obtain⟨_,_,_,_,o,_,_,e,_⟩:=x;exact Heap.lt_size e
  | dT kvs=>obtain⟨_,_,_,_,o,_,_,e,_⟩:=x;exact Heap.lt_size e
  | set S n=>obtain⟨o,_,_,_,e,_⟩:=x;exact Heap.lt_size e
  | ins C dx fs=>obtain⟨_,_,_,e,_⟩:=x;exact Heap.lt_size e
  | own y=>obtain⟨_,e⟩:=x;exact Heap.lt_size e
  | xd fs=>obtain⟨_,⟨_,_,_,e,_⟩,_⟩:=x;exact Heap.lt_size e
  | rng lo hi=>obtain⟨_,_,_,e⟩:=x;exact Heap.lt_size e
  | frz ob u=>obtain⟨e,_⟩:=x;exact Heap.lt_size e
  | tbl ps=>exact Heap.lt_size (show h.get? a=some _ from x)
  | met f y=>exact Heap.lt_size (show h.get? a=some _ from x)
  | ext φ=>obtain⟨_,⟨_,e⟩,_⟩:=x;exact Heap.lt_size e
theorem Paired.mapP{α β:Type}{F G:α→β→Prop}:∀{l₁:List α} {l₂:List β},Paired F l₁ l₂→(∀a b,F a b→G a b)→Paired G l₁ l₂
  | _,_,.nil,_=>.nil
  | _,_,.cons r t,f=>.cons (f _ _ r) (Paired.mapP t f)
theorem ObjOk.stay(x:ObjOk P w H h a o)(k:∀b u,(b=a∨H b=some (.own a))→h.get? b=some u→h'.get? b=some u)
    (ho:∀b,H b=some (.own a)→H' b=some (.own a)) (ht:∀b xs,H b=some (.tup xs)→H' b=some (.tup xs)):ObjOk P w H' h' a o:=by
  induction o with
  | lst xs=>obtain⟨z,its,n,r,e⟩:=x;exact⟨z,its,n,r,k _ _ (.inl rfl) e⟩
  | tup xs=>obtain⟨z,its,r,⟨ob,e,c⟩,d⟩:=x;exact⟨z,its,r,⟨ob,k _ _ (.inl rfl) e,c⟩,fun nx=>let⟨o,e2,d2⟩:=d nx;⟨o,k _ _ (.inl rfl) e2,d2⟩⟩
  | dK kvs=>obtain⟨z,y,vs,r,ob,es,ep,e,c⟩:=x;exact⟨z,y,vs,r,ob,es,ep,k _ _ (.inl rfl) e,c⟩
  | dT kvs=>
    obtain⟨z,y,xs,r,ob,es,ep,e,c⟩:=x
    exact⟨z,y,xs,Paired.mapP r fun p q z=>⟨z.1,ht _ _ z.2.1,z.2.2⟩,ob,es,ep,k _ _ (.inl rfl) e,c⟩
  | set S n=>obtain⟨ob,es,ep,t,e,c⟩:=x;exact⟨ob,es,ep,t,k _ _ (.inl rfl) e,c⟩
  | ins C dx fs=>
    obtain⟨d,z,ne,e,mA,⟨od,es,ep,e2,c⟩,r⟩:=x
    exact⟨ho _ d,z,ne,k _ _ (.inl rfl) e,mA,⟨od,es,ep,k _ _ (.inr d) e2,c⟩,r⟩
  | own y=>obtain⟨ob,e⟩:=x;exact⟨ob,k _ _ (.inl rfl) e⟩
  | xd fs=>obtain⟨mA,⟨od,es,ep,e,c⟩,r⟩:=x;exact⟨mA,⟨od,es,ep,k _ _ (.inl rfl) e,c⟩,r⟩
  | rng lo hi=>obtain⟨t,u,v,e⟩:=x;exact⟨t,u,v,k _ _ (.inl rfl) e⟩
  | frz ob u ih=>obtain⟨e,q⟩:=x;exact⟨k _ _ (.inl rfl) e,ih q⟩
  | tbl ps=>
    have e:h.get? a=some { cls:=.none,data:=.fields ps }:=x
    show h'.get? a=some { cls:=.none,data:=.fields ps }
    exact k a _ (.inl rfl) e
  | met f y=>
    have e:h.get? a=some (PySem.W.methodObj (.ref f) (.ref y)):=x
    show h'.get? a=some (PySem.W.methodObj (.ref f) (.ref y))
    exact k a _ (.inl rfl) e
  | ext φ=>obtain⟨p,⟨o,e⟩,st⟩:=x;exact⟨st _ _ p fun o q=>k _ _ (.inl rfl) q,⟨o,k _ _ (.inl rfl) e⟩,st⟩
theorem HOk.lt(x:HOk P w H h)(e:H a=some o):a < h.objs.size:=(x a o e).lt
theorem HOk.fresh(x:HOk P w H h)(e:h.objs.size≤a):H a=none:=by
  cases q:H a with
  | none=>rfl
  | some u=>exact absurd (Nat.lt_of_lt_of_le (x.lt q) e) (Nat.lt_irrefl _)
theorem HOk.kept(x:HOk P w H h)(k:∀b u,h.get? b=some u→h'.get? b=some u):HOk P w H h':=fun a o e=>
  (x a o e).stay (fun b u _ q=>k b u q) (fun _ q=>q) fun _ _ q=>q
theorem HOk.laid(x:HOk P w H h)(k:∀b u,h.get? b=some u→h'.get? b=some u)(hp:h.objs.size≤a)(new:ObjOk P w (upd H a o) h' a o):HOk P w (upd H a o) h':=fun b u e=>by
  have hn:=x.fresh hp
  by_cases hb:b=a
  · subst hb;rw[a0b]at e;cases e;exact new
  · rw[a0v hb]at e
    exact(x b u e).stay (fun c v _ q=>k c v q) (fun c q=>by rw[a0v (a0s q hn)];exact q) fun c xs q=>by rw[a0v (a0s q hn)];exact q
end
def Rd(H:Hp)(a:Addr)(u:HO):Prop:=H a=some u∨∃o,H a=some (.frz o u)
theorem Rd.of{H:Hp}{a:Addr}{u:HO}(h:H a=some u):Rd H a u:=.inl h
theorem Rd.ok{P:Program}{w:World}{H:Hp}{h:Heap}{a:Addr}{u:HO}(r:Rd H a u)(x:HOk P w H h):ObjOk P w H h a u:=by
  rcases r with r | ⟨o,r⟩
  · exact x a u r
  · obtain⟨_,q⟩:=x a _ r
    exact q
def Mut:Option HO→Prop
  | some (.lst _)=>True
  | some (.dK _)=>True
  | some (.dT _)=>True
  | some (.set _ _)=>True
  | some (.ins _ _ _)=>True
  | some (.ext _)=>True
  | _=>False
section
variable{P:Program}{w:World}{H:Hp}{h h':Heap}{x e:Addr}{o':HO}
theorem HOk.write(ok:HOk P w H h)(mu:Mut (H x))(he:e=x∨H e=some (.own x))(k:∀b u,b≠e→h.get? b=some u→h'.get? b=some u)(heo:∃u,h'.get? e=some u)
    (new:ObjOk P w (upd H x o') h' x o'):HOk P w (upd H x o') h':=fun b u q=>by
  have nown:∀c y,H c=some (.own y)→c≠x:=fun c y r z=>by subst z;rw[r]at mu;exact mu
  have ntup:∀c xs,H c=some (.tup xs)→c≠x:=fun c xs r z=>by subst z;rw[r]at mu;exact mu
  by_cases hb:b=x
  · subst hb;rw[a0b]at q;cases q;exact new
  · rw[a0v hb]at q
    by_cases hbe:b=e
    · have q':H b=some (.own x):=by
        rcases he with z | z
        · exact absurd (hbe.trans z) hb
        · rw[hbe];exact z
      rw[q]at q';cases q'
      obtain⟨v,hv⟩:=heo
      exact⟨v,by rw[hbe];exact hv⟩
    · refine(ok b u q).stay (fun c v hc r=>k c v ?_ r) (fun c r=>by rw[a0v (nown c b r)];exact r) fun c xs r=>by rw[a0v (ntup c xs r)];exact r
      rcases hc with rfl | hc
      · exact hbe
      · rintro rfl
        rcases he with z | z
        · exact nown c b hc z
        · rw[hc]at z;cases z;exact hb rfl
end
structure Un(fs ex:List Addr)(H H':Hp)(h h':Heap):Prop where
  keep:∀b o,h.get? b=some o→H b=none→b ∉ fs→b ∉ ex→h'.get? b=some o
  slot:∀b o,h.get? b=some o→H b=none→b∈fs→b ∉ ex→∃sl,h'.get? b=some { o with slots:=sl }
  free:∀b o,h.get? b=some o→H b=none→b ∉ ex→H' b=none
  there:∀b o,h.get? b=some o→b ∉ ex→∃o',h'.get? b=some o'
  tups:∀b xs,H b=some (.tup xs)→H' b=some (.tup xs)
  frzs:∀b o u,H b=some (.frz o u)→H' b=some (.frz o u)
  tbls:∀b ps,H b=some (.tbl ps)→∃more,H' b=some (.tbl (ps++more))
section
variable{fs fs' ex ex':List Addr}{H H1 H2:Hp}{h h1 h2 h':Heap}{a x e:Addr}{o:HO}
theorem Un.any(u:Un fs ex H H1 h h1){b:Addr}{ob:Obj}(q:h.get? b=some ob)(n:H b=none)(hx:b ∉ ex):∃sl,h1.get? b=some { ob with slots:=sl }:=by
  by_cases hb:b∈fs
  · exact u.slot b ob q n hb hx
  · exact⟨ob.slots,u.keep b ob q n hb hx⟩
theorem Un.trans(a:Un fs ex H H1 h h1)(b:Un fs ex H1 H2 h1 h2):Un fs ex H H2 h h2 where
  keep:=fun c ob q n hc hx=>b.keep c ob (a.keep c ob q n hc hx) (a.free c ob q n hx) hc hx
  slot:=fun c ob q n hc hx=>by
    obtain⟨sl,e1⟩:=a.slot c ob q n hc hx
    obtain⟨sl',e2⟩:=b.slot c _ e1 (a.free c ob q n hx) hc hx
    exact⟨sl',e2⟩
  free:=fun c ob q n hx=>by
    obtain⟨o',e1⟩:=a.there c ob q hx
    exact b.free c o' e1 (a.free c ob q n hx) hx
  there:=fun c ob q hx=>by
    obtain⟨o',e1⟩:=a.there c ob q hx
    exact b.there c o' e1 hx
  tups:=fun c xs q=>b.tups c xs (a.tups c xs q)
  frzs:=fun c ob xs q=>b.frzs c ob xs (a.frzs c ob xs q)
  tbls:=fun c ps q=>by
    obtain⟨m1,e1⟩:=a.tbls c ps q
    obtain⟨m2,e2⟩:=b.tbls c _ e1
    exact⟨m1++m2,by rw[e2,Array.append_assoc]⟩
theorem Un.kept(k:∀b u,h.get? b=some u→h'.get? b=some u):Un fs ex H H h h':=
  ⟨fun b ob q _ _ _=>k b ob q,fun b ob q _ _ _=>⟨ob.slots,k b ob q⟩,fun _ _ _ n _=>n,fun b ob q _=>⟨ob,k b ob q⟩,fun _ _ q=>q,fun _ _ _ q=>q,fun _ ps q=>⟨#[],by rw[q];simp⟩⟩
theorem Un.refl:Un fs ex H H h h:=Un.kept fun _ _ q=>q
theorem Un.laid(k:∀b u,h.get? b=some u→h'.get? b=some u)(hp:h.objs.size≤a)(hn:H a=none):Un fs ex H (upd H a o) h h' where
  keep:=fun b u q _ _ _=>k b u q
  slot:=fun b u q _ _ _=>⟨u.slots,k b u q⟩
  free:=fun b u q n _=>by rw[a0v (Nat.ne_of_lt (Nat.lt_of_lt_of_le (Heap.lt_size q) hp))];exact n
  there:=fun b u q _=>⟨u,k b u q⟩
  tups:=fun b xs q=>by rw[a0v (a0s q hn)];exact q
  frzs:=fun b u xs q=>by rw[a0v (a0s q hn)];exact q
  tbls:=fun b ps q=>⟨#[],by rw[a0v (a0s q hn),q];simp⟩
theorem Un.write(mu:Mut (H x))(he:e=x∨H e=some (.own x))(k:∀b u,b≠e→h.get? b=some u→h'.get? b=some u)(heo:∃u,h'.get? e=some u):Un fs ex H (upd H x o) h h':=by
  have hx:∀b,H b=none→b≠x:=fun b n z=>by subst z;rw[n]at mu;exact mu
  have hb:∀b,H b=none→b≠e:=fun b n z=>by
    subst z
    rcases he with r | r
    · exact hx b n r
    · rw[n]at r;cases r
  have hm:∀b u,H b=some u→¬Mut (some u)→b≠x:=fun b u q nm z=>by subst z;rw[q]at mu;exact nm mu
  refine⟨fun b u q n _ _=>k b u (hb b n) q,fun b u q n _ _=>⟨u.slots,k b u (hb b n) q⟩,fun b u q n _=>by rw[a0v (hx b n)];exact n,fun b u q _=>?_,
    fun b xs q=>by rw[a0v (hm b _ q fun z=>z)];exact q,fun b u xs q=>by rw[a0v (hm b _ q fun z=>z)];exact q,fun b ps q=>⟨#[],by rw[a0v (hm b _ q fun z=>z),q];simp⟩⟩
  by_cases hbe:b=e
  · subst hbe;exact heo
  · exact⟨u,k b u hbe q⟩
theorem Un.mono(u:Un fs ex H H1 h h1)(hs:∀b∈fs,b∈fs')(hx:∀b∈ex,b∈ex'):Un fs' ex' H H1 h h1:=
  ⟨fun b ob q n hb he=>u.keep b ob q n (fun z=>hb (hs b z)) fun z=>he (hx b z),fun _ _ q n _ he=>u.any q n fun z=>he (hx _ z),fun b ob q n he=>u.free b ob q n fun z=>he (hx b z),fun b ob q he=>u.there b ob q fun z=>he (hx b z),u.tups,u.frzs,u.tbls⟩
end
def trk(h:Heap)(H:Hp):List Addr:=(List.range h.objs.size).filter fun a=>(H a).isSome
def hidT(h:Heap)(H:Hp):Heap:=PySem.W.hideAll h (trk h H)
theorem hidT_size(h:Heap)(H:Hp):(hidT h H).objs.size=h.objs.size:=PySem.W.hideAll_size _ _
theorem hidT_get{h:Heap}{H:Hp}{b:Addr}{o:Obj}(e:h.get? b=some o)(n:H b=none):(hidT h H).get? b=some o:=
  PySem.W.hideAll_get _ e fun hm=>by
    have q:(H b).isSome=true:=(List.mem_filter.mp hm).2
    rw[n]at q;simp at q
theorem of_hidT{h:Heap}{H:Hp}{b:Addr}{o:Obj}(e:(hidT h H).get? b=some o):h.get? b=some o∧H b=none:=by
  have e':h.get? b=some o:=PySem.W.of_hideAll (trk h H) e
  refine⟨e',?_⟩
  cases q:H b with
  | none=>rfl
  | some x=>
    have hm:b∈trk h H:=List.mem_filter.mpr ⟨List.mem_range.mpr (Heap.lt_size e'),by simp[q]⟩
    have z:(hidT h H).get? b=none:=PySem.W.hideAll_none (trk h H) hm
    rw[z]at e;cases e
def allNews(g h:Heap)(L:Addr):List (Addr × Obj):=(List.range h.objs.size).filterMap fun a=>if a=L∨(g.get? a).isSome=true then none else(h.get? a).map fun o=>(a,o)
def rest(g h:Heap)(L d:Addr):List (Addr × Obj):=(allNews g h L).filter fun p=>decide (p.1≠d)
end L2
namespace L2
open PySem PySem.Spec PyProof.Rows
structure Mod(K:PySem.W.Frag)(mg:Str→Option Value)(base:Heap):Prop where
  kin:K.In base
  glob:base.Ns mainGlobals mg
  blt:∃mb,base.Ns builtinsNs mb∧∀x:Str,x≠"__name__"→mb x=bootBuiltins x
  nolimit:base.NoLimit
  seer:base.NoSeer
set_option genInjectivity false in
set_option genSizeOfSpec false in
structure Cx where
  prog:Program
  w:World
  K:PySem.W.Frag
  mg:Str→Option Value
  base:Heap
  A:Around
  N:List Str
  s₀:Shared
  H₀:Hp
  env:Env
  outer:List Env
  stack:List Env
  ex:List Addr
  fn:Str→Bool
  calm:Bool
  pn:List (Addr × Obj)
  xe:Value→Shared→Prop
def frs(l:List Env):List Addr:=l.filterMap (·.frame)
abbrev Cx.fs(X:Cx):List Addr:=frs X.outer
def Vis(sc:Scope)(x:Str):Prop:=sc.names.lookup x=some .local∨sc.names.lookup x=some .cell∨sc.names.lookup x=some .free
def Loc(sc:Scope)(x:Str):Prop:=sc.names.lookup x=some .local∨sc.names.lookup x=some .cell
def Look(env:Env)(h:Heap)(m:Str→Option Value)(x:Str)(u:Value):Prop:=
  (env.kindOf x=some .local∧m x=some u)∨((env.kindOf x=some .cell∨env.kindOf x=some .free)∧∃c,env.cells.lookup x=some c∧h.IsCell c (some u))
structure Cx.Ok(X:Cx):Prop where
  mod:Mod X.K X.mg X.base
  kind:X.env.scope.kind=.function
  glob:X.env.globals=mainGlobals
  blt:X.env.builtins=builtinsNs
  above:X.s₀.heap.objs.size≤X.env.locals
  inj:∀x y c,X.env.cells.lookup x=some c→X.env.cells.lookup y=some c→x=y
  has:∀x,(X.env.kindOf x=some .cell∨X.env.kindOf x=some .free)→∃c,X.env.cells.lookup x=some c
  cab:∀x c,X.fn x=true→X.env.cells.lookup x=some c→X.s₀.heap.objs.size≤c
  hd:X.calm=true→X.A.handled=none
  frames:X.A.frames=some X.stack
  stk:X.stack=X.outer∨(X.stack=X.env::X.outer∧X.env.frame=some X.env.locals)
  exf:∀b∈X.ex,b≠X.env.locals∧∀x c,X.env.cells.lookup x=some c→c≠b
  bs:∀b o,X.base.get? b=some o→X.s₀.heap.get? b=some o∧X.H₀ b=none
  bsz:X.base.objs.size≤X.s₀.heap.objs.size
  noex:∀b o,X.base.get? b=some o→b ∉ X.ex
  exfs:∀b∈X.ex,b ∉ X.fs
  funs:X.s₀.heap.FunFrames X.base X.outer
  frf:∀b∈X.fs,X.H₀ b=none
structure Inv(X:Cx)(pins:List (Addr × Obj))(σ:List (Option V))(H:Hp)(s:Shared):Prop where
  ok:X.Ok
  os:s.os=X.s₀.os
  bare:AllBare s.gens
  base:Un X.fs X.ex X.H₀ H X.s₀.heap s.heap
  loc:∃m,s.heap.Ns X.env.locals m∧∀(i:Nat) (x:Str) (v:V),X.N[i]? = some x→σ[i]? = some (some v)→Vis X.env.scope x→∃u,RelV v u∧Look X.env s.heap m x u
  cell:∀x c,X.env.cells.lookup x=some c→∃v,s.heap.IsCell c v
  free:H X.env.locals=none
  freeC:∀x c,X.env.cells.lookup x=some c→H c=none
  pin:∀p∈X.pn++pins,s.heap.get? p.1=some p.2∧H p.1=none∧p.1≠X.env.locals∧p.1 ∉ X.fs∧∀v,p.2.data≠.cell v
  hok:HOk X.prog X.w H s.heap
  len:σ.length=X.N.length
section
variable{X:Cx}{pins:List (Addr × Obj)}{σ:List (Option V)}{H H':Hp}{s:Shared}{h':Heap}
theorem Cx.Ok.nofr(ok:X.Ok){b:Addr}{o:Obj}(e:X.base.get? b=some o):b ∉ X.fs:=fun hb=>by
  have:=(ok.funs.mem hb).1
  rw[e]at this;cases this
theorem Inv.bs(I:Inv X pins σ H s):∀b o,X.base.get? b=some o→s.heap.get? b=some o∧H b=none:=fun b o e=>
  ⟨I.base.keep b o (I.ok.bs b o e).1 (I.ok.bs b o e).2 (I.ok.nofr e) (I.ok.noex b o e),I.base.free b o (I.ok.bs b o e).1 (I.ok.bs b o e).2 (I.ok.noex b o e)⟩
theorem Inv.bk(I:Inv X pins σ H s):∀b o,X.base.get? b=some o→s.heap.get? b=some o:=fun b o e=>(I.bs b o e).1
theorem Inv.mod(I:Inv X pins σ H s):Mod X.K X.mg X.base:=I.ok.mod
theorem Inv.kIn(I:Inv X pins σ H s):X.K.In s.heap:=I.ok.mod.kin.keeps I.bk
theorem Inv.nolimit(I:Inv X pins σ H s):s.heap.NoLimit:=I.ok.mod.nolimit.keeps I.bk
theorem Inv.fr(I:Inv X pins σ H s):∃m,Fr X.base X.env.locals s.heap m:=
  let⟨m,hn,_⟩:=I.loc
  ⟨m,hn,I.bk,Nat.le_trans I.ok.bsz I.ok.above⟩
theorem Inv.lt(I:Inv X pins σ H s):X.env.locals < s.heap.objs.size:=let⟨_,hn,_⟩:=I.loc;hn.lt
theorem Inv.sz(I:Inv X pins σ H s):X.s₀.heap.objs.size≤s.heap.objs.size:=Nat.le_trans I.ok.above (Nat.le_of_lt I.lt)
theorem Inv.nofs(I:Inv X pins σ H s){a:Addr}(h:s.heap.objs.size≤a):a ∉ X.fs:=fun hb=>by
  obtain⟨_,o,ho,_⟩:=I.ok.funs.mem hb
  exact absurd (Nat.lt_of_lt_of_le (Heap.lt_size ho) (Nat.le_trans I.sz h)) (Nat.lt_irrefl _)
theorem Inv.cne(I:Inv X pins σ H s):∀x c,X.env.cells.lookup x=some c→c≠X.env.locals:=fun x c e z=>by
  obtain⟨v,o,ho,hd⟩:=I.cell x c e
  obtain⟨m,⟨o',es,ep,ho',hd',_⟩,_⟩:=I.loc
  rw[z,ho']at ho;cases ho;rw[hd']at hd;cases hd
theorem Inv.funs(I:Inv X pins σ H s):s.heap.FunFrames X.base X.outer:=by
  have all:∀(l:List Env),(∀b∈frs l,b∈X.fs)→X.s₀.heap.FunFrames X.base l→s.heap.FunFrames X.base l:=by
    intro l
    induction l with
    | nil=>intro _ _;trivial
    | cons env r ih=>
      intro hs hl
      obtain⟨hk,⟨L,o,hf,hn,ho,hd⟩,hr⟩:=hl
      have hL:L∈X.fs:=hs L (by unfold frs;rw[List.filterMap_cons,hf];exact List.mem_cons_self)
      obtain⟨sl,e⟩:=I.base.slot L o ho (I.ok.frf L hL) hL fun z=>I.ok.exfs L z hL
      exact⟨hk,⟨L,_,hf,hn,e,hd⟩,ih (fun b hb=>hs b (by unfold frs;rw[List.filterMap_cons,hf];exact List.mem_cons_of_mem _ hb)) hr⟩
  exact all X.outer (fun _ hb=>hb) I.ok.funs
theorem Inv.stack(I:Inv X pins σ H s):s.heap.FunFrames X.base X.stack:=by
  rcases I.ok.stk with e | ⟨e,hf⟩
  · rw[e];exact I.funs
  · rw[e]
    obtain⟨m,hn,_⟩:=I.loc
    refine .cons (by rw[I.ok.kind];decide) hf hn ?_ I.funs
    exact Heap.get?_none_of_le (Nat.le_trans I.ok.bsz I.ok.above)
theorem Inv.stkSub(I:Inv X pins σ H s):∀b∈frs X.stack,b∈X.env.locals::X.fs:=fun b hb=>by
  rcases I.ok.stk with e | ⟨e,hf⟩
  · rw[e]at hb;exact List.mem_cons_of_mem _ hb
  · rw[e]at hb
    unfold frs at hb
    rw[List.filterMap_cons,hf]at hb
    exact hb
theorem Inv.stkFree(I:Inv X pins σ H s):∀b∈frs X.stack,H b=none:=fun b hb=>by
  rcases List.mem_cons.mp (I.stkSub b hb)with e | hb
  · rw[e];exact I.free
  · obtain⟨_,o,ho,_⟩:=I.ok.funs.mem hb
    exact I.base.free b o ho (I.ok.frf b hb) fun z=>I.ok.exfs b z hb
theorem Inv.step{g':Array GenState}{t':Nat}{d':Drawn}{ch:List Addr}(I:Inv X pins σ H s)
    (hch:∀b∈ch,(b∈X.ex∨X.s₀.heap.objs.size≤b)∧b≠X.env.locals∧(∀x c,X.env.cells.lookup x=some c→c≠b)∧∀p∈X.pn++pins,p.1≠b)
    (keep:∀b o,b≠X.env.locals→b ∉ X.fs→b ∉ ch→s.heap.get? b=some o→H b=none→h'.get? b=some o)
    (slot:∀b o,b≠X.env.locals→b∈X.fs→b ∉ ch→s.heap.get? b=some o→H b=none→∃sl,h'.get? b=some { o with slots:=sl }) (free:∀b o,b ∉ ch→s.heap.get? b=some o→H b=none→H' b=none)
    (there:∀b o,b ∉ ch→s.heap.get? b=some o→∃o',h'.get? b=some o')
    (tups:∀b xs,H b=some (.tup xs)→H' b=some (.tup xs)) (frzs:∀b o u,H b=some (.frz o u)→H' b=some (.frz o u)) (tbls:∀b ps,H b=some (.tbl ps)→∃more,H' b=some (.tbl (ps++more)))
    (ns:∀m,s.heap.Ns X.env.locals m→h'.Ns X.env.locals m) (hok:HOk X.prog X.w H' h') (hg:AllBare g') :
    Inv X pins σ H' { s with heap:=h',gens:=g',drawn:=d',toks:=t' }:=by
  have neL:∀b o,X.s₀.heap.get? b=some o→b≠X.env.locals:=fun b o e=>Nat.ne_of_lt (Nat.lt_of_lt_of_le (Heap.lt_size e) I.ok.above)
  have neC:∀b o,X.s₀.heap.get? b=some o→b ∉ X.ex→b ∉ ch:=fun b o e hx hb=>by
    rcases(hch b hb).1 with z | z
    · exact hx z
    · exact absurd (Nat.lt_of_lt_of_le (Heap.lt_size e) z) (Nat.lt_irrefl _)
  have cellK:∀x c,X.env.cells.lookup x=some c→∀v,s.heap.IsCell c v→h'.IsCell c v:=fun x c e v ⟨o,ho,hd⟩=>by
    have nch:c ∉ ch:=fun z=>(hch c z).2.2.1 x c e rfl
    by_cases hc:c∈X.fs
    · obtain⟨sl,q⟩:=slot c o (I.cne x c e) hc nch ho (I.freeC x c e)
      exact⟨_,q,hd⟩
    · exact⟨o,keep c o (I.cne x c e) hc nch ho (I.freeC x c e),hd⟩
  refine⟨I.ok,I.os,hg,⟨fun b o e n hb hx=>?_,fun b o e n hb hx=>?_,fun b o e n hx=>?_,fun b o e hx=>?_,fun b xs e=>tups b xs (I.base.tups b xs e),fun b o xs e=>frzs b o xs (I.base.frzs b o xs e),fun b ps e=>?_⟩,?_,fun x c e=>?_,?_,fun x c e=>?_,fun p hp=>?_,hok,I.len⟩
  · exact keep b o (neL b o e) hb (neC b o e hx) (I.base.keep b o e n hb hx) (I.base.free b o e n hx)
  · obtain⟨sl,e1⟩:=I.base.slot b o e n hb hx
    obtain⟨sl',e2⟩:=slot b _ (neL b o e) hb (neC b o e hx) e1 (I.base.free b o e n hx)
    exact⟨sl',e2⟩
  · obtain⟨o',e1⟩:=I.base.there b o e hx
    exact free b o' (neC b o e hx) e1 (I.base.free b o e n hx)
  · obtain⟨o',e1⟩:=I.base.there b o e hx
    exact there b o' (neC b o e hx) e1
  · obtain⟨m1,e1⟩:=I.base.tbls b ps e
    obtain⟨m2,e2⟩:=tbls b _ e1
    exact⟨m1++m2,by rw[e2,Array.append_assoc]⟩
  · obtain⟨m,hn,hl⟩:=I.loc
    refine⟨m,ns m hn,fun i x v e1 e2 e3=>?_⟩
    obtain⟨u,r,l⟩:=hl i x v e1 e2 e3
    refine⟨u,r,?_⟩
    rcases l with l | ⟨k,c,e,z⟩
    · exact .inl l
    · exact .inr ⟨k,c,e,cellK x c e _ z⟩
  · obtain⟨v,z⟩:=I.cell x c e
    exact⟨v,cellK x c e v z⟩
  · obtain⟨m,⟨o,_,_,ho,_⟩,_⟩:=I.loc
    exact free _ o (fun z=>(hch _ z).2.1 rfl) ho I.free
  · obtain⟨v,o,ho,hd⟩:=I.cell x c e
    exact free c o (fun z=>(hch c z).2.2.1 x c e rfl) ho (I.freeC x c e)
  · obtain⟨e,n,ne,nf,d⟩:=I.pin p hp
    have nch:p.1 ∉ ch:=fun z=>(hch p.1 z).2.2.2 p hp rfl
    exact⟨keep p.1 p.2 ne nf nch e n,free p.1 p.2 nch e n,ne,nf,d⟩
theorem Inv.un{t':Nat}(I:Inv X pins σ H s)(u:Un X.fs [] H H' s.heap h')(hok:HOk X.prog X.w H' h'):Inv X pins σ H' { s with heap:=h',toks:=t' }:=by
  obtain⟨m,⟨o,es,ep,ho,r⟩,_⟩:=id I.loc
  obtain⟨sl,hL⟩:=u.any ho I.free (by simp)
  exact I.step (g':=s.gens) (d':=s.drawn) (ch:=[]) (fun _ z=>nomatch z) (fun b o _ hb _ e n=>u.keep b o e n hb (by simp)) (fun b o _ hb _ e n=>u.slot b o e n hb (by simp)) (fun b o _ e n=>u.free b o e n (by simp)) (fun b o _ e=>u.there b o e (by simp)) u.tups u.frzs u.tbls (fun m' hm=>by
    obtain⟨o',es',ep',ho',r'⟩:=hm
    rw[ho]at ho';cases ho'
    exact⟨_,es',ep',hL,r'⟩) hok I.bare
theorem Inv.call{g':Array GenState}{t':Nat}{d':Drawn}{ch:List Addr}(I:Inv X pins σ H s)(u:Un (frs X.stack) ch H H' s.heap h')(hok:HOk X.prog X.w H' h')(hg:AllBare g')
    (hch:∀b∈ch,(b∈X.ex∨X.s₀.heap.objs.size≤b)∧b≠X.env.locals∧(∀x c,X.env.cells.lookup x=some c→c≠b)∧∀p∈X.pn++pins,p.1≠b) :
    Inv X pins σ H' { s with heap:=h',gens:=g',drawn:=d',toks:=t' }:=by
  obtain⟨m,⟨o,es,ep,ho,r⟩,_⟩:=id I.loc
  obtain⟨sl,hL⟩:=u.any ho I.free fun z=>(hch _ z).2.1 rfl
  exact I.step (ch:=ch) hch (fun b o hL hb hc e n=>u.keep b o e n (fun z=>(List.mem_cons.mp (I.stkSub b z)).elim hL hb) hc) (fun b o _ _ hc e n=>u.any e n hc) (fun b o hc e n=>u.free b o e n hc) (fun b o hc e=>u.there b o e hc) u.tups u.frzs u.tbls (fun m' hm=>by
    obtain⟨o',es',ep',ho',r'⟩:=hm
    rw[ho]at ho';cases ho'
    exact⟨_,es',ep',hL,r'⟩) hok hg
theorem Inv.turned{t':Nat}{it:Addr}(I:Inv X pins σ H s)(k:∀b o,b≠it→s.heap.get? b=some o→h'.get? b=some o)(hn:H it=none)(hL:it≠X.env.locals)
    (h1:it∈X.ex∨X.s₀.heap.objs.size≤it) (h2:∀x c,X.env.cells.lookup x=some c→c≠it) (h3:∀p∈X.pn++pins,p.1≠it):Inv X pins σ H { s with heap:=h',toks:=t' }:=by
  have nit:∀b u,H b=some u→b≠it:=fun b u e z=>by rw[z,hn]at e;cases e
  refine I.step (g':=s.gens) (d':=s.drawn) (ch:=[it]) (fun b hb=>?_) (fun b o _ _ hc e _=>k b o (fun z=>hc (by simp[z])) e) (fun b o _ _ hc e _=>⟨o.slots,k b o (fun z=>hc (by simp[z])) e⟩) (fun _ _ _ _ n=>n)
    (fun b o hc e=>⟨o,k b o (fun z=>hc (by simp[z])) e⟩) (fun _ _ e=>e) (fun _ _ _ e=>e) (fun b ps e=>⟨#[],by rw[e];simp⟩) (fun m hm=>?_) (fun b u e=>?_) I.bare
  · have e:b=it:=by simpa using hb
    subst e
    exact⟨h1,hL,h2,h3⟩
  · obtain⟨o,es,ep,ho,r⟩:=hm
    exact⟨o,es,ep,k _ o (Ne.symm hL) ho,r⟩
  · refine(I.hok b u e).stay (fun c v hc q=>k c v ?_ q) (fun _ q=>q) fun _ _ q=>q
    rcases hc with z | z
    · rw[z];exact nit b u e
    · exact nit c _ z
theorem Inv.tok(I:Inv X pins σ H s)(t:Nat):Inv X pins σ H { s with toks:=t }:=I.un (h':=s.heap) (t':=t) Un.refl I.hok
theorem Inv.kept{t':Nat}(I:Inv X pins σ H s)(k:∀b u,s.heap.get? b=some u→h'.get? b=some u):Inv X pins σ H { s with heap:=h',toks:=t' }:=I.un (Un.kept k) (I.hok.kept k)
theorem Inv.laid{a:Addr}{o:HO}{t':Nat}(I:Inv X pins σ H s)(k:∀b u,s.heap.get? b=some u→h'.get? b=some u)(hp:s.heap.objs.size≤a)(new:ObjOk X.prog X.w (upd H a o) h' a o) :
    Inv X pins σ (upd H a o) { s with heap:=h',toks:=t' }:=I.un (Un.laid k hp (I.hok.fresh hp)) (I.hok.laid k hp new)
theorem Inv.write{x e:Addr}{o:HO}{t':Nat}(I:Inv X pins σ H s)(mu:Mut (H x))(he:e=x∨H e=some (.own x))(k:∀b u,b≠e→s.heap.get? b=some u→h'.get? b=some u)(heo:∃u,h'.get? e=some u)
    (new:ObjOk X.prog X.w (upd H x o) h' x o):Inv X pins σ (upd H x o) { s with heap:=h',toks:=t' }:=I.un (Un.write mu he k heo) (I.hok.write mu he k heo new)
theorem Inv.weak{σ':List (Option V)}(I:Inv X pins σ H s)(hl:σ'.length=σ.length)(w:∀(i:Nat) v,σ'[i]? = some (some v)→σ[i]? = some (some v)):Inv X pins σ' H s:=
  ⟨I.ok,I.os,I.bare,I.base,let⟨m,hn,hl'⟩:=I.loc;⟨m,hn,fun i x v e1 e2 e3=>hl' i x v e1 (w i v e2) e3⟩,I.cell,I.free,I.freeC,I.pin,I.hok,hl.trans I.len⟩
theorem Inv.pins_of{pins':List (Addr × Obj)}(I:Inv X pins σ H s)(h:∀p∈pins',s.heap.get? p.1=some p.2∧H p.1=none∧p.1≠X.env.locals∧p.1 ∉ X.fs∧∀v,p.2.data≠.cell v):Inv X pins' σ H s:=
  ⟨I.ok,I.os,I.bare,I.base,I.loc,I.cell,I.free,I.freeC,fun p hp=>(List.mem_append.mp hp).elim (fun z=>I.pin p (List.mem_append_left _ z)) (h p),I.hok,I.len⟩
theorem h0g{N:List Str}(hN:N.Nodup){i j:Nat}{x:Str}(a:N[i]? = some x)(b:N[j]? = some x):i=j:=by
  obtain⟨h1,e1⟩:=List.getElem?_eq_some_iff.mp a
  obtain⟨h2,e2⟩:=List.getElem?_eq_some_iff.mp b
  exact(List.getElem_inj hN).mp (e1.trans e2.symm)
theorem store_ok2{M:Model}{A:Around}{E:Value→Shared→Prop}{i:Nat}{x:Str}{v:V}{u:Value}{Q:Unit→Shared→Prop}(I:Inv X pins σ H s)(hN:X.N.Nodup)(hi:X.N[i]? = some x)(hx:Loc X.env.scope x)(r:RelV v u)
    (h:∀s',Inv X pins (σ.set i (some v)) H s'→(∃a,Heap.SameBut a s.heap s'.heap∧(a=X.env.locals∨X.env.cells.lookup x=some a))→Q () s') (hf:X.fn x=true∨X.env.scope.names.lookup x=some .local:=by first | exact .inl rfl | exact .inr rfl | assumption):wpAny M A (storeName X.env x u) Q E s:=by
  obtain⟨m,hn,hl⟩:=id I.loc
  have hcls:(X.env.scope.kind == .class || (X.env.scope.kind == .module && X.env.locals != X.env.globals))=false:=by rw[I.ok.kind];rfl
  have hiσ:i < σ.length:=by rw[I.len];exact(List.getElem?_eq_some_iff.mp hi).1
  have cne:=I.cne
  have tracked:∀{a:Addr} {h':Heap},(∃o,s.heap.get? a=some o∧H a=none)→Heap.SameBut a s.heap h'→HOk X.prog X.w H h':=fun{a h'} ha hs b ob e=>by
    obtain⟨_,_,hfree⟩:=ha
    refine(I.hok b ob e).stay (fun c w' hc q=>(hs.2 c ?_).trans q) (fun _ q=>q) fun _ _ q=>q
    rintro rfl
    rcases hc with rfl | hc
    · rw[hfree]at e;cases e
    · rw[hfree]at hc;cases hc
  rcases hx with hk | hk
  · refine wpAny_storeName_local hk hn (fun h' hn' hs=>?_) hcls
    obtain⟨oL,_,_,hoL,_⟩:=id hn
    refine h _ ⟨I.ok,I.os,I.bare,⟨fun b o e n hb hx=>?_,fun b o e n hb hx=>?_,I.base.free,fun b o e hx=>?_,I.base.tups,I.base.frzs,I.base.tbls⟩,⟨_,hn',fun j y v' e1 e2 e3=>?_⟩,fun y c e=>?_,I.free,I.freeC,fun p hp=>?_,tracked ⟨oL,hoL,I.free⟩ hs,by simpa using I.len⟩ ⟨_,hs,.inl rfl⟩
    · exact(hs.2 b (Nat.ne_of_lt (Nat.lt_of_lt_of_le (Heap.lt_size e) I.ok.above))).trans (I.base.keep b o e n hb hx)
    · obtain⟨sl,e1⟩:=I.base.slot b o e n hb hx
      exact⟨sl,(hs.2 b (Nat.ne_of_lt (Nat.lt_of_lt_of_le (Heap.lt_size e) I.ok.above))).trans e1⟩
    · obtain⟨o',e1⟩:=I.base.there b o e hx
      exact⟨o',(hs.2 b (Nat.ne_of_lt (Nat.lt_of_lt_of_le (Heap.lt_size e) I.ok.above))).trans e1⟩
    · by_cases hj:j=i
      · subst hj
        rw[hi]at e1;cases e1
        rw[List.getElem?_set_self hiσ]at e2
        cases e2
        exact⟨u,r,.inl ⟨hk,by simp⟩⟩
      · rw[List.getElem?_set_ne (Ne.symm hj)]at e2
        obtain⟨u',r',q⟩:=hl j y v' e1 e2 e3
        refine⟨u',r',?_⟩
        rcases q with ⟨k,e⟩ | ⟨k,c,e,z⟩
        · refine .inl ⟨k,?_⟩
          have:y≠x:=fun e=>hj (h0g hN e1 (e▸hi))
          simp[this,e]
        · exact .inr ⟨k,c,e,z.sameBut hs (cne y c e)⟩
    · obtain⟨w',z⟩:=I.cell y c e
      exact⟨w',z.sameBut hs (cne y c e)⟩
    · obtain⟨e,n,ne,nf,d⟩:=I.pin p hp
      exact⟨(hs.2 p.1 ne).trans e,n,ne,nf,d⟩
  · have hfn:X.fn x=true:=by
      rcases hf with z | z
      · exact z
      · rw[z]at hk;cases hk
    obtain⟨c,hc⟩:=I.ok.has x (.inl hk)
    obtain⟨w',z⟩:=I.cell x c hc
    refine wpAny_storeName_cell I.ok.kind hk hc z (fun h' hc' hs=>?_)
    obtain⟨oc,hoc,hocd⟩:=id z
    refine h { s with heap:=h' } ⟨I.ok,I.os,I.bare,⟨fun b o e n hb hx=>?_,fun b o e n hb hx=>?_,I.base.free,fun b o e hx=>?_,I.base.tups,I.base.frzs,I.base.tbls⟩,⟨m,hn.sameBut hs (Ne.symm (cne x c hc)),fun j y v' e1 e2 e3=>?_⟩,fun y c' e=>?_,I.free,I.freeC,fun p hp=>?_,tracked ⟨oc,hoc,I.freeC x c hc⟩ hs,by simpa using I.len⟩ ⟨c,hs,.inr hc⟩
    · exact(hs.2 b (Nat.ne_of_lt (Nat.lt_of_lt_of_le (Heap.lt_size e) (I.ok.cab x c hfn hc)))).trans (I.base.keep b o e n hb hx)
    · obtain⟨sl,e1⟩:=I.base.slot b o e n hb hx
      exact⟨sl,(hs.2 b (Nat.ne_of_lt (Nat.lt_of_lt_of_le (Heap.lt_size e) (I.ok.cab x c hfn hc)))).trans e1⟩
    · obtain⟨o',e1⟩:=I.base.there b o e hx
      exact⟨o',(hs.2 b (Nat.ne_of_lt (Nat.lt_of_lt_of_le (Heap.lt_size e) (I.ok.cab x c hfn hc)))).trans e1⟩
    · by_cases hj:j=i
      · subst hj
        rw[hi]at e1;cases e1
        rw[List.getElem?_set_self hiσ]at e2
        cases e2
        exact⟨u,r,.inr ⟨.inl hk,c,hc,hc'⟩⟩
      · rw[List.getElem?_set_ne (Ne.symm hj)]at e2
        obtain⟨u',r',q⟩:=hl j y v' e1 e2 e3
        refine⟨u',r',?_⟩
        rcases q with q | ⟨k,c',e,z'⟩
        · exact .inl q
        · refine .inr ⟨k,c',e,z'.sameBut hs ?_⟩
          rintro rfl
          exact hj (h0g hN e1 (I.ok.inj _ _ _ e hc▸hi))
    · by_cases hcc:c'=c
      · subst hcc;exact⟨_,hc'⟩
      · obtain⟨w2,z2⟩:=I.cell y c' e
        exact⟨w2,z2.sameBut hs hcc⟩
    · obtain⟨e,n,ne,nf,d⟩:=I.pin p hp
      refine⟨(hs.2 p.1 ?_).trans e,n,ne,nf,d⟩
      intro q
      rw[q,hoc]at e
      have q':oc=p.2:=Option.some.inj e
      exact d w' (by rw[← q'];exact hocd)
theorem d0k{M:Model}{A:Around}{E:Value→Shared→Prop}{i:Nat}{x:Str}{v:V}{u:Value}{Q:Unit→Shared→Prop}(I:Inv X pins σ H s)(hN:X.N.Nodup)(hi:X.N[i]? = some x)(hx:Loc X.env.scope x)(r:RelV v u)
    (h:∀s',Inv X pins (σ.set i (some v)) H s'→Q () s') (hf:X.fn x=true∨X.env.scope.names.lookup x=some .local:=by first | exact .inl rfl | exact .inr rfl | assumption):wpAny M A (storeName X.env x u) Q E s:=
  store_ok2 I hN hi hx r (fun s' I' _=>h s' I') hf
theorem Inv.call'{s':Shared}{ch:List Addr}(I:Inv X pins σ H s)(ho:s'.os=s.os)(u:Un (frs X.stack) ch H H' s.heap s'.heap)(hok:HOk X.prog X.w H' s'.heap)(hg:AllBare s'.gens)
    (hch:∀b∈ch,(b∈X.ex∨X.s₀.heap.objs.size≤b)∧b≠X.env.locals∧(∀x c,X.env.cells.lookup x=some c→c≠b)∧∀p∈X.pn++pins,p.1≠b):Inv X pins σ H' s':=by
  obtain⟨h',g',d',t',o'⟩:=s'
  have e:o'=s.os:=ho
  subst e
  exact I.call (g':=g') (t':=t') (d':=d') u hok hg hch
end
abbrev XK:=Value→Option Addr→Hp→Prop
abbrev St:=List (Option V)
abbrev VK:=V→Hp→Prop
abbrev TE:=St→Hp→VK→Prop
abbrev TT:=St→Hp→(Bool→Hp→Prop)→Prop
abbrev TA:=St→Hp→(List V→Hp→Prop)→Prop
structure Ends where
  nx:St→Hp→Prop
  rt:VK
  bk:St→Hp→Prop:=fun _ _=>False
  ct:St→Hp→Prop:=fun _ _=>False
abbrev TS:=Ends→St→Hp→Prop
def EP(X:Cx)(pins:List (Addr × Obj))(σ:St)(Q:VK)(u:Value)(s':Shared):Prop:=∃v H',Inv X pins σ H' s'∧RelV v u∧Q v H'
def TP(X:Cx)(pins:List (Addr × Obj))(σ:St)(Q:Bool→Hp→Prop)(b:Bool)(s':Shared):Prop:=∃H',Inv X pins σ H' s'∧Q b H'
def AP(X:Cx)(pins:List (Addr × Obj))(σ:St)(Q:List V→Hp→Prop)(us:List Value)(s':Shared):Prop:=∃vs H',Inv X pins σ H' s'∧Vals vs us∧Q vs H'
def SP(X:Cx)(pins:List (Addr × Obj))(D:Ends)(f:Flow)(s':Shared):Prop:=
  match f with
  | .next=>∃σ' H',Inv X pins σ' H' s'∧D.nx σ' H'
  | .brk=>∃σ' H',Inv X pins σ' H' s'∧D.bk σ' H'
  | .cont=>∃σ' H',Inv X pins σ' H' s'∧D.ct σ' H'
  | .ret u=>∃v σ' H',Inv X pins σ' H' s'∧RelV v u∧D.rt v H'
def PE(X:Cx)(e:Expr)(t:TE):Prop:=
  ∀(pins:List (Addr × Obj)) (s:Shared) (σ:St) (H:Hp) (Q:VK),Inv X pins σ H s→t σ H Q→wpAny (model X.prog X.w) X.A (eval e X.env) (EP X pins σ Q) X.xe s
def PT(X:Cx)(e:Expr)(t:TT):Prop:=
  ∀(pins:List (Addr × Obj)) (s:Shared) (σ:St) (H:Hp) (Q:Bool→Hp→Prop),Inv X pins σ H s→t σ H Q→wpAny (model X.prog X.w) X.A (isTrue e X.env (eval e X.env)) (TP X pins σ Q) X.xe s
def PW(X:Cx)(e:Expr)(t:TT):Prop:=
  ∀(whole:Sem Value) (pins:List (Addr × Obj)) (s:Shared) (σ:St) (H:Hp) (Q:Bool→Hp→Prop),Inv X pins σ H s→t σ H Q→wpAny (model X.prog X.w) X.A (isTrue e X.env whole) (TP X pins σ Q) X.xe s
theorem PW.pt{X:Cx}{e:Expr}{t:TT}(h:PW X e t):PT X e t:=h _
def PA(X:Cx)(es:List Expr)(t:TA):Prop:=
  ∀(pos:Pos) (pins:List (Addr × Obj)) (s:Shared) (σ:St) (H:Hp) (Q:List V→Hp→Prop),Inv X pins σ H s→t σ H Q→wpAny (model X.prog X.w) X.A (spliced (backTo pos (starEach es X.env))) (AP X pins σ Q) X.xe s
def PS(X:Cx)(st:Stmt)(t:TS):Prop:=
  ∀(pins:List (Addr × Obj)) (s:Shared) (σ:St) (H:Hp) (D:Ends),Inv X pins σ H s→t D σ H→wpAny (model X.prog X.w) X.A (exec st X.env) (SP X pins D) X.xe s
def PSs(X:Cx)(st:List Stmt)(t:TS):Prop:=
  ∀(pins:List (Addr × Obj)) (s:Shared) (σ:St) (H:Hp) (D:Ends),Inv X pins σ H s→t D σ H→wpAny (model X.prog X.w) X.A (execs st X.env) (SP X pins D) X.xe s
theorem thn{α:Type}{t:Sem α}{Q Q':α→Shared→Prop}{M:Model}{A:Around}{E:Value→Shared→Prop}{s:Shared}(h:wpAny M A t Q E s)(hQ:∀a s,Q a s→Q' a s):wpAny M A t Q' E s:=wpAny_mono h hQ fun _ _ x=>x
end L2
namespace L2
open PySem PySem.Spec PyProof.Rows
section
variable{X:Cx}
def tVar(i:Nat):TE:=fun σ H Q=>∃v,σ[i]? = some (some v)∧Q v H
def tC(v:V):TE:=fun _ H Q=>Q v H
theorem pe_var{i:Nat}{x:Str}{pos:Pos}(hN:X.N[i]? = some x)(hv:Vis X.env.scope x)(hd:(x == ("__debug__":Str))=false:=by decide)(hcd:(x == ("__classdict__":Str))=false:=by decide):PE X (.Name x pos) (tVar i):=by
  intro pins s σ H Q I h
  obtain⟨v,e,h⟩:=h
  obtain⟨m,hn,hl⟩:=I.loc
  obtain⟨u,r,l⟩:=hl i x v hN e hv
  have fin:EP X pins σ Q u s:=⟨v,H,I,r,h⟩
  rcases l with ⟨hk,hm⟩ | ⟨hk,c,hc,hcell⟩
  · exact wpAny_Name (wpAny_loadName_local I.ok.kind hk hn hm fin) hd
  · rcases hk with hk | hk
    · exact wpAny_Name (wpAny_loadName_cell I.ok.kind hk hc hcell fin) hd
    · exact wpAny_Name (wpAny_loadName_free I.ok.kind hk hc hcell fin hcd) hd
theorem a0f{i j pos}:PE X (.Constant (.int i) j pos) (tC (.int i)):=fun _ _ _ H _ I h=>wpAny_Constant_int ⟨.int i,H,I.tok _,⟨_,rfl⟩,h⟩
theorem e0h{b j pos}:PE X (.Constant (.bool b) j pos) (tC (.bl b)):=fun _ _ _ H _ I h=>Constant_bool ⟨.bl b,H,I,rfl,h⟩
theorem b0v{j pos}:PE X (.Constant .none j pos) (tC .non):=fun _ _ _ H _ I h=>Constant_none ⟨.non,H,I,rfl,h⟩
theorem a0h{x j pos}:PE X (.Constant (.str x) j pos) (tC (.str x)):=fun _ _ _ H _ I h=>Calls.Constant_str ⟨.str x,H,I.tok _,⟨_,rfl⟩,h⟩
def Gl(X:Cx)(x:Str):Prop:=X.env.kindOf x=some .globalImplicit
theorem e0o{E:Value→Shared→Prop}{pins:List (Addr × Obj)}{s:Shared}{σ:St}{H:Hp}{x:Str}{u:Value}{pos:Pos}{Q:Value→Shared→Prop}(I:Inv X pins σ H s)(hg:Gl X x)(hm:X.mg x=some u)(h:Q u s)
    (hd:(x == ("__debug__":Str))=false:=by decide):wpAny (model X.prog X.w) X.A (eval (.Name x pos) X.env) Q E s:=
  Calls.Name_function_global I.ok.kind hg (Calls.loadGlobal_global (by rw[I.ok.glob];exact I.mod.glob.keeps I.bk) hm h) hd
theorem g0y{E:Value→Shared→Prop}{pins:List (Addr × Obj)}{s:Shared}{σ:St}{H:Hp}{x:Str}{u:Value}{pos:Pos}{Q:Value→Shared→Prop}(I:Inv X pins σ H s)(hg:Gl X x)(hm:X.mg x=none)(hv:bootBuiltins x=some u)(h:Q u s)
    (hn:x≠"__name__":=by decide) (hd:(x == ("__debug__":Str))=false:=by decide):wpAny (model X.prog X.w) X.A (eval (.Name x pos) X.env) Q E s:=by
  obtain⟨mb,h1,h2⟩:=I.mod.blt
  exact Calls.Name_function_global I.ok.kind hg (Calls.loadGlobal_builtin (by rw[I.ok.glob];exact I.mod.glob.keeps I.bk) hm (by rw[I.ok.blt];exact h1.keeps I.bk) ((h2 x hn).trans hv) h) hd
theorem b0q{x:Str}{v:V}{u:Value}{pos:Pos}(hg:Gl X x)(hm:X.mg x=some u)(r:RelV v u)(hd:(x == ("__debug__":Str))=false:=by decide):PE X (.Name x pos) (tC v):=
  fun _ _ _ H _ I h=>e0o I hg hm ⟨v,H,I,r,h⟩ hd
theorem g0l{x:Str}{v:V}{u:Value}{pos:Pos}(hg:Gl X x)(hm:X.mg x=none)(hv:bootBuiltins x=some u)(r:RelV v u)(hn:x≠"__name__":=by decide)(hd:(x == ("__debug__":Str))=false:=by decide):PE X (.Name x pos) (tC v):=
  fun _ _ _ H _ I h=>g0y I hg hm hv ⟨v,H,I,r,h⟩ hn hd
variable{a b:Expr}{ta tb:TE}{pos:Pos}
def PC(X:Cx)(op:CmpOp)(a b:Expr)(t:TE):Prop:=
  ∀(pins:List (Addr × Obj)) (s:Shared) (σ:St) (H:Hp) (Q:VK),Inv X pins σ H s→t σ H Q→
    wpAny (model X.prog X.w) X.A (eval a X.env) (fun v s₁=>wpAny (model X.prog X.w) X.A (eval b X.env) (fun u s₂=>wpAny (model X.prog X.w) X.A (compareOp op v u) (EP X pins σ Q) X.xe s₂) X.xe s₁) X.xe s
theorem nobehind(b:Expr){op:CmpOp}(h:op≠.In)(h2:op≠.NotIn):behindInMarks op b=false:=by
  have e1:(op == CmpOp.In)=false:=by cases op <;>first | rfl | exact absurd rfl h
  have e2:(op == CmpOp.NotIn)=false:=by cases op <;>first | rfl | exact absurd rfl h2
  cases b <;>simp[behindInMarks,e1,e2]
def tB(t:TE):TT:=fun σ H Q=>t σ H fun x H1=>∃c,x=.bl c∧Q c H1
theorem pt_cmp{op:CmpOp}{t:TE}(h:PC X op a b t)(h1:behindInMarks op b=false:=by first | exact nobehind _ (by decide) (by decide) | rfl):PT X (.Compare a [op] [b] pos) (tB t):=by
  intro pins s σ H Q I hw
  refine wpAny_isTrue_Compare1 (thn (h pins s σ H _ I hw) fun v s1 h1=>thn h1 fun u s2 h2=>thn h2 fun c s3 ⟨x,H1,I1,r1,q1⟩=>?_) h1
  obtain⟨d,rfl,q⟩:=q1
  cases r1
  exact wpAny_truthy_bool ⟨H1,I1,q⟩
theorem g0v{e:Expr}{t:TE}(h:PE X e t)(he:∀whole,isTrue e X.env whole=(do let v ← whole;standAt e.pos;holding [v] (truthy v)):=by intro _;rfl):PT X e (tB t):=by
  intro pins s σ H Q I hw
  refine isTrue_plain (thn (h pins s σ H _ I hw) fun v s1 ⟨x,H1,I1,r1,q1⟩=>?_) (he _)
  obtain⟨d,rfl,q⟩:=q1
  cases r1
  exact wpAny_truthy_bool ⟨H1,I1,q⟩
variable{tA tB':TT}{rest:List Expr}
def tAnd(t u:TT):TT:=fun σ H Q=>t σ H fun c H1=>if c=true then u σ H1 Q else Q false H1
def tOr(t u:TT):TT:=fun σ H Q=>t σ H fun c H1=>if c=true then Q true H1 else u σ H1 Q
def tNot(t:TT):TT:=fun σ H Q=>t σ H fun c H1=>Q (!c) H1
theorem h0m(ha:PT X a tA):PW X (.BoolOp .And [a] pos) tA:=by
  intro wh pins s σ H Q I h
  refine isTrue_and (thn (ha pins s σ H Q I h) fun c s1 e=>?_)
  cases c with
  | true=>exact isTrue_and_nil e
  | false=>exact e
theorem d0a(ha:PT X a tA):PW X (.BoolOp .Or [a] pos) tA:=by
  intro wh pins s σ H Q I h
  refine isTrue_or (thn (ha pins s σ H Q I h) fun c s1 e=>?_)
  cases c with
  | false=>exact isTrue_or_nil e
  | true=>exact e
theorem j0c(ha:PT X a tA)(hb:PW X (.BoolOp .And (b::rest) pos) tB'):PW X (.BoolOp .And (a::b::rest) pos) (tAnd tA tB'):=by
  intro wh pins s σ H Q I h
  refine isTrue_and (thn (ha pins s σ H _ I h) fun c s1 ⟨H1,I1,q1⟩=>?_)
  cases c with
  | true=>exact hb wh pins s1 σ H1 Q I1 q1
  | false=>exact⟨H1,I1,q1⟩
theorem e0f(ha:PT X a tA)(hb:PW X (.BoolOp .Or (b::rest) pos) tB'):PW X (.BoolOp .Or (a::b::rest) pos) (tOr tA tB'):=by
  intro wh pins s σ H Q I h
  refine isTrue_or (thn (ha pins s σ H _ I h) fun c s1 ⟨H1,I1,q1⟩=>?_)
  cases c with
  | true=>exact⟨H1,I1,q1⟩
  | false=>exact hb wh pins s1 σ H1 Q I1 q1
theorem f0q(ha:PT X a tA):PT X (.UnaryOp .Not a pos) (tNot tA):=by
  intro pins s σ H Q I h
  exact isTrue_not (ha pins s σ H (fun c H1=>Q (!c) H1) I h)
def tAndV(ta tb:TE):TE:=fun σ H Q=>ta σ H fun x H1=>∃c,x=.bl c∧if c=true then tb σ H1 Q else Q (.bl false) H1
def tOrV(ta tb:TE):TE:=fun σ H Q=>ta σ H fun x H1=>∃c,x=.bl c∧if c=true then Q (.bl true) H1 else tb σ H1 Q
def tNotV(ta:TE):TE:=fun σ H Q=>ta σ H fun x H1=>∃c,x=.bl c∧Q (.bl (!c)) H1
theorem pe_one{op}{t:TE}(h:PE X a t):PE X (.BoolOp op [a] pos) t:=fun pins s σ H Q I hw=>BoolOp_one (h pins s σ H Q I hw)
theorem pe_and(ha:PE X a ta)(hb:PE X (.BoolOp .And (b::rest) pos) tb):PE X (.BoolOp .And (a::b::rest) pos) (tAndV ta tb):=by
  intro pins s σ H Q I h
  refine BoolOp_and (thn (ha pins s σ H _ I h) fun v s1 ⟨x,H1,I1,r1,q1⟩=>?_)
  obtain⟨c,rfl,q1⟩:=q1
  cases r1
  refine wpAny_truthy_bool ?_
  cases c with
  | true=>exact hb pins s1 σ H1 Q I1 q1
  | false=>exact⟨.bl false,H1,I1,rfl,q1⟩
theorem pe_or(ha:PE X a ta)(hb:PE X (.BoolOp .Or (b::rest) pos) tb):PE X (.BoolOp .Or (a::b::rest) pos) (tOrV ta tb):=by
  intro pins s σ H Q I h
  refine BoolOp_or (thn (ha pins s σ H _ I h) fun v s1 ⟨x,H1,I1,r1,q1⟩=>?_)
  obtain⟨c,rfl,q1⟩:=q1
  cases r1
  refine wpAny_truthy_bool ?_
  cases c with
  | false=>exact hb pins s1 σ H1 Q I1 q1
  | true=>exact⟨.bl true,H1,I1,rfl,q1⟩
theorem pe_not(ha:PE X a ta):PE X (.UnaryOp .Not a pos) (tNotV ta):=by
  intro pins s σ H Q I h
  refine UnaryOp_ (thn (ha pins s σ H _ I h) fun v s1 ⟨x,H1,I1,r1,q1⟩=>?_)
  obtain⟨c,rfl,q1⟩:=q1
  cases r1
  exact not_of (wpAny_truthy_bool ⟨.bl (!c),H1,I1,rfl,q1⟩)
def tIf(t:TT)(ta tb:TE):TE:=fun σ H Q=>t σ H fun c H1=>if c=true then ta σ H1 Q else tb σ H1 Q
theorem pe_ifExp{c:Expr}(hc:PT X c tA)(ha:PE X a ta)(hb:PE X b tb):PE X (.IfExp c a b pos) (tIf tA ta tb):=by
  intro pins s σ H Q I h
  refine wpAny_IfExp (thn (hc pins s σ H _ I h) fun d s1 ⟨H1,I1,q1⟩=>?_)
  cases d with
  | true=>exact ha pins s1 σ H1 Q I1 q1
  | false=>exact hb pins s1 σ H1 Q I1 q1
end
end L2
namespace L2
open PySem PySem.Spec PyProof.Rows
def SqL(K:PySem.W.Frag)(H:Hp)(a:Addr)(xs:List V):Prop:=
  Rd H a (.lst xs)∨
    ∃(o:Obj) (its:Array Value) (n:Nat),K.lookup a=some o∧o.cls=.type "list"∧o.dict=none∧o.data=.seq its n∧its.size≤sizeLine∧Vals xs its.toList
def SqT(K:PySem.W.Frag)(H:Hp)(a:Addr)(xs:List V):Prop:=
  Rd H a (.tup xs)∨
    ∃(o:Obj) (its:Array Value) (n:Nat),K.lookup a=some o∧o.cls=.type "tuple"∧o.data=.seq its n∧its.size≤sizeLine∧Vals xs its.toList
def absV:Value→Option V
  | .none=>some .non
  | .bool b=>some (.bl b)
  | .int i _=>some (.int i)
  | .str x _=>some (.str x)
  | .bytes b _=>some (.byt b)
  | .float b _=>some (.flt b)
  | .ref a=>some (.ref a)
  | .type n=>some (.ty n)
  | _=>none
theorem RelV.abs{x:V}{u:Value}(r:RelV x u):absV u=some x:=by
  cases x with
  | non=>cases r;rfl
  | bl _=>cases r;rfl
  | int _=>obtain⟨t,rfl⟩:=r;rfl
  | str _=>obtain⟨t,rfl⟩:=r;rfl
  | byt _=>obtain⟨t,rfl⟩:=r;rfl
  | flt _=>obtain⟨t,rfl⟩:=r;rfl
  | ref _=>cases r;rfl
  | ty _=>cases r;rfl
theorem RelV.inj{x y:V}{u:Value}(r:RelV x u)(q:RelV y u):x=y:=Option.some.inj (r.abs.symm.trans q.abs)
theorem Vals.inj:∀{xs ys:List V} {us:List Value},Vals xs us→Vals ys us→xs=ys
  | _,_,_,.nil,.nil=>rfl
  | _,_,_,.cons r t,.cons r' t'=>by rw[r.inj r',Vals.inj t t']
section
variable{X:Cx}{pins:List (Addr × Obj)}{σ:St}{H:Hp}{s:Shared}{a:Addr}{xs ys:List V}
theorem SqL.of{K:PySem.W.Frag}(h:H a=some (.lst xs)):SqL K H a xs:=.inl (.inl h)
theorem SqT.of{K:PySem.W.Frag}(h:H a=some (.tup xs)):SqT K H a xs:=.inl (.inl h)
theorem Inv.list(I:Inv X pins σ H s)(h:SqL X.K H a xs):∃its:List Value,Vals xs its∧PlainL s.heap a its.toArray∧xs.length≤sizeLine:=by
  rcases h with h | ⟨o,its,n,hk,hc,hd,hs,hz,r⟩
  · obtain⟨z,its,n,r,e⟩:=h.ok I.hok
    exact⟨its,r,⟨_,n,e,rfl,rfl,rfl⟩,z⟩
  · refine⟨its.toList,r,⟨o,n,I.kIn a o hk,hc,hd,by simpa using hs⟩,?_⟩
    have e:=r.length
    simp only[Array.length_toList]at e
    omega
theorem Inv.tuple(I:Inv X pins σ H s)(h:SqT X.K H a xs):∃its:List Value,Vals xs its∧IsTup s.heap a its.toArray∧xs.length≤sizeLine:=by
  rcases h with h | ⟨o,its,n,hk,hc,hs,hz,r⟩
  · obtain⟨z,its,r,p,_⟩:=h.ok I.hok
    exact⟨its,r,p,z⟩
  · refine⟨its.toList,r,⟨o,I.kIn a o hk,hc,n,by simpa using hs⟩,?_⟩
    have e:=r.length
    simp only[Array.length_toList]at e
    omega
theorem Inv.list_inj(I:Inv X pins σ H s)(h:SqL X.K H a xs)(h':SqL X.K H a ys):xs=ys:=by
  obtain⟨its,r,⟨o,n,e,_,_,d⟩,_⟩:=I.list h
  obtain⟨its',r',⟨o',n',e',_,_,d'⟩,_⟩:=I.list h'
  rw[e]at e';cases e'
  rw[d]at d'
  injection d' with d1 _
  have:its=its':=by simpa using congrArg Array.toList d1
  subst this
  exact r.inj r'
theorem Inv.tuple_inj(I:Inv X pins σ H s)(h:SqT X.K H a xs)(h':SqT X.K H a ys):xs=ys:=by
  obtain⟨its,r,⟨o,e,_,n,d⟩,_⟩:=I.tuple h
  obtain⟨its',r',⟨o',e',_,n',d'⟩,_⟩:=I.tuple h'
  rw[e]at e';cases e'
  rw[d]at d'
  injection d' with d1 _
  have:its=its':=by simpa using congrArg Array.toList d1
  subst this
  exact r.inj r'
end
abbrev Cx.wish(X:Cx)(E:Value→Shared→Prop):Cx:={ X with xe:=E }
abbrev Cx.nox(X:Cx):Cx:=X.wish fun _ _=>False
theorem Cx.Ok.wish{X:Cx}(ok:X.Ok)(E:Value→Shared→Prop):(X.wish E).Ok:=
  ⟨ok.mod,ok.kind,ok.glob,ok.blt,ok.above,ok.inj,ok.has,ok.cab,ok.hd,ok.frames,ok.stk,ok.exf,ok.bs,ok.bsz,ok.noex,ok.exfs,ok.funs,ok.frf⟩
theorem Cx.Ok.unwish{X:Cx}{E:Value→Shared→Prop}(ok:(X.wish E).Ok):X.Ok:=
  ⟨ok.mod,ok.kind,ok.glob,ok.blt,ok.above,ok.inj,ok.has,ok.cab,ok.hd,ok.frames,ok.stk,ok.exf,ok.bs,ok.bsz,ok.noex,ok.exfs,ok.funs,ok.frf⟩
section
variable{X:Cx}{pins:List (Addr × Obj)}{σ:St}{H:Hp}{s:Shared}{E:Value→Shared→Prop}
theorem Inv.wish(I:Inv X pins σ H s)(E:Value→Shared→Prop):Inv (X.wish E) pins σ H s:=⟨I.ok.wish E,I.os,I.bare,I.base,I.loc,I.cell,I.free,I.freeC,I.pin,I.hok,I.len⟩
theorem Inv.unwish(I:Inv (X.wish E) pins σ H s):Inv X pins σ H s:=⟨I.ok.unwish,I.os,I.bare,I.base,I.loc,I.cell,I.free,I.freeC,I.pin,I.hok,I.len⟩
theorem SP.unwish{D:Ends}{f:Flow}{s':Shared}(h:SP (X.wish E) pins D f s'):SP X pins D f s':=by
  cases f with
  | next=>obtain⟨σ',H',I,q⟩:=h;exact⟨σ',H',I.unwish,q⟩
  | brk=>obtain⟨σ',H',I,q⟩:=h;exact⟨σ',H',I.unwish,q⟩
  | cont=>obtain⟨σ',H',I,q⟩:=h;exact⟨σ',H',I.unwish,q⟩
  | ret u=>obtain⟨v,σ',H',I,r,q⟩:=h;exact⟨v,σ',H',I.unwish,r,q⟩
theorem PE.nox{e:Expr}{t:TE}(h:PE X.nox e t):PE X e t:=fun pins s σ H Q I hw=>
  wpAny_mono (h pins s σ H Q (I.wish _) hw) (fun _ _ ⟨v,H',I',r,q⟩=>⟨v,H',I'.unwish,r,q⟩) fun _ _ z=>False.elim z
theorem PT.nox{e:Expr}{t:TT}(h:PT X.nox e t):PT X e t:=fun pins s σ H Q I hw=>
  wpAny_mono (h pins s σ H Q (I.wish _) hw) (fun _ _ ⟨H',I',q⟩=>⟨H',I'.unwish,q⟩) fun _ _ z=>False.elim z
theorem PSs.nox{st:List Stmt}{t:TS}(h:PSs X.nox st t):PSs X st t:=fun pins s σ H D I hw=>
  wpAny_mono (h pins s σ H D (I.wish _) hw) (fun _ _ q=>q.unwish) fun _ _ z=>False.elim z
end
section
variable{X:Cx}{st:Stmt}{rest:List Stmt}{t u:TS}{e:Expr}{te:TE}{pos:Pos}
def tNext:TS:=fun D σ H=>D.nx σ H
def tSeq(t u:TS):TS:=fun D σ H=>t { D with nx:=u D } σ H
theorem a0m:PSs X [] tNext:=fun _ _ σ H _ I h=>wpAny_execs_nil ⟨σ,H,I,h⟩
theorem a0c(h1:PS X st t)(h2:PSs X rest u):PSs X (st::rest) (tSeq t u):=by
  intro pins s σ H D I h
  refine wpAny_execs_cons (thn (h1 pins s σ H { D with nx:=u D } I h) fun f s1 q=>?_)
  cases f with
  | next=>
    obtain⟨σ',H',I',q⟩:=q
    exact h2 pins s1 σ' H' D I' q
  | ret v=>exact q
  | brk=>exact q
  | cont=>exact q
theorem a0g(h1:PS X st t):PSs X [st] t:=by
  intro pins s σ H D I h
  refine wpAny_execs_cons (thn (h1 pins s σ H D I h) fun f s1 q=>?_)
  cases f with
  | next=>exact wpAny_execs_nil q
  | ret v=>exact q
  | brk=>exact q
  | cont=>exact q
theorem Inv.quiet{pins:List (Addr × Obj)}{σ:St}{H:Hp}{s:Shared}(I:Inv X pins σ H s):interactive X.env=false:=by simp[interactive,I.ok.kind]
def tDrop(te:TE):TS:=fun D σ H=>te σ H fun _ H1=>D.nx σ H1
theorem d0q(he:PE X e te)(hs:swapsWith e none pos.line X.env=pure false:=by rfl):PS X (.Expr e pos) (tDrop te):=by
  intro pins s σ H D I h
  exact wpAny_Expr_any (thn (he pins s σ H _ I h) fun v s1 ⟨x,H1,I1,r1,q1⟩=>⟨σ,H1,I1,q1⟩) I.quiet hs
def tRet(te:TE):TS:=fun D σ H=>te σ H D.rt
theorem a0l(he:PE X e te):PS X (.Return (some e) pos) (tRet te):=by
  intro pins s σ H D I h
  exact wpAny_Return_some (thn (he pins s σ H _ I h) fun v s1 ⟨x,H1,I1,r1,q1⟩=>⟨x,σ,H1,I1,r1,q1⟩)
def tIfS(c:TT)(t u:TS):TS:=fun D σ H=>c σ H fun b H1=>if b=true then t D σ H1 else u D σ H1
theorem a0w{c:Expr}{a b:List Stmt}{tc:TT}(hc:PT X c tc)(ha:PSs X a t)(hb:PSs X b u):PS X (.If c a b pos) (tIfS tc t u):=by
  intro pins s σ H D I h
  refine wpAny_If (thn (hc pins s σ H _ I h) fun d s1 ⟨H1,I1,q1⟩=>?_)
  cases d with
  | true=>exact ha pins s1 σ H1 D I1 q1
  | false=>exact hb pins s1 σ H1 D I1 q1
def tNever:TS:=fun _ _ _=>False
theorem ps_never:PS X st tNever:=fun _ _ _ _ _ _ h=>h.elim
end
abbrev TG:=V→St→Hp→(St→Hp→Prop)→Prop
abbrev TGs:=List V→St→Hp→(St→Hp→Prop)→Prop
def PG(X:Cx)(target:Expr)(t:TG):Prop:=
  ∀(pins:List (Addr × Obj)) (s:Shared) (σ:St) (H:Hp) (v:V) (u:Value) (Q:St→Hp→Prop),Inv X pins σ H s→RelV v u→t v σ H Q→
    wpAny (model X.prog X.w) X.A (assign target X.env u) (fun _ s'=>∃σ' H',Inv X pins σ' H' s'∧Q σ' H') X.xe s
def PGs(X:Cx)(ts:List Expr)(t:TGs):Prop:=
  ∀(pins:List (Addr × Obj)) (s:Shared) (σ:St) (H:Hp) (vs:List V) (us:List Value) (Q:St→Hp→Prop),Inv X pins σ H s→Vals vs us→t vs σ H Q→
    wpAny (model X.prog X.w) X.A (assignInOrder ((assignEach ts X.env).map (·.2)) us) (fun _ s'=>∃σ' H',Inv X pins σ' H' s'∧Q σ' H') X.xe s
abbrev TSet:=V→V→V→Hp→(Hp→Prop)→Prop
def PSet(X:Cx)(t:TSet):Prop:=
  ∀(pins:List (Addr × Obj)) (s:Shared) (σ:St) (H:Hp) (o i v:V) (ov iv u:Value) (Q:Hp→Prop),Inv X pins σ H s→RelV o ov→RelV i iv→RelV v u→t o i v H Q→
    wpAny (model X.prog X.w) X.A (setItem ov iv u) (fun _ s'=>∃H',Inv X pins σ H' s'∧Q H') X.xe s
abbrev TIp:=V→V→Hp→VK→Prop
def PIp(X:Cx)(op:Operator)(t:TIp):Prop:=
  ∀(pins:List (Addr × Obj)) (s:Shared) (σ:St) (H:Hp) (x y:V) (v u:Value) (Q:VK),Inv X pins σ H s→RelV x v→RelV y u→t x y H Q→
    wpAny (model X.prog X.w) X.A (inplaceOp op v u) (EP X pins σ Q) X.xe s
section
variable{X:Cx}{pos:Pos}
def b0m(i:Nat):TG:=fun v σ H Q=>Q (σ.set i (some v)) H
theorem b0p{i:Nat}{x:Str}(hN:X.N.Nodup)(hi:X.N[i]? = some x)(hx:Loc X.env.scope x)(hf:X.fn x=true∨X.env.scope.names.lookup x=some .local:=by first | exact .inl rfl | exact .inr rfl | assumption):PG X (.Name x pos) (b0m i):=by
  intro pins s σ H v u Q I r h
  exact wpAny_assign_Name (d0k I hN hi hx r (fun s' I'=>⟨_,H,I',h⟩) hf)
def gNil:TGs:=fun vs σ H Q=>vs=[]∧Q σ H
def gCons(t:TG)(u:TGs):TGs:=fun vs σ H Q=>∃v r,vs=v::r∧t v σ H fun σ' H'=>u r σ' H' Q
theorem pgs_nil:PGs X [] gNil:=by
  intro pins s σ H vs us Q I r h
  obtain⟨e,h⟩:=h
  subst e
  cases r
  exact assignInOrder_nil ⟨σ,H,I,h⟩
theorem pgs_cons{e:Expr}{es:List Expr}{t:TG}{u:TGs}(h1:PG X e t)(h2:PGs X es u)
    (hs:(assignEach (e::es) X.env).map (·.2)=assign e X.env::(assignEach es X.env).map (·.2):=by rfl):PGs X (e::es) (gCons t u):=by
  intro pins s σ H vs us Q I r h
  obtain⟨v,vr,e1,h⟩:=h
  subst e1
  cases r with
  | cons r rr=>
    rw[hs]
    refine assignInOrder_cons (thn (h1 pins s σ H _ _ _ I r h) fun _ s1 ⟨σ1,H1,I1,q1⟩=>?_)
    exact h2 pins s1 σ1 H1 _ _ Q I1 rr q1
def gTup(K:PySem.W.Frag)(n:Nat)(t:TGs):TG:=fun v σ H Q=>∃a xs,v=.ref a∧SqT K H a xs∧xs.length=n∧t xs σ H Q
theorem pg_tup{es:List Expr}{k:Nat}{t:TGs}{n:Nat}(hc:X.calm=true)(h:PGs X es t)
    (hn:(assignEach es X.env).length=n:=by rfl) (hst:(assignEach es X.env).findIdx? (·.1)=none:=by rfl):PG X (.Tuple es k pos) (gTup X.K n t):=by
  intro pins s σ H v u Q I r hw
  obtain⟨a,xs,e1,hq,hl,hw⟩:=hw
  subst e1
  cases r
  obtain⟨its,rv,ht,hz⟩:=I.tuple hq
  refine assign_Tuple_tuple (I.ok.hd hc) ht (by simp[hn,← hl,rv.length]) hst fun h' hx=>?_
  have I1:Inv X pins σ H { s with heap:=h' }:=I.kept (t':=s.toks) fun b o e=>hx b o (Nat.ne_of_lt (Heap.lt_size e)) e
  exact h pins _ σ H xs _ Q I1 (by simpa using rv) hw
def gSub(to ti:TE)(t:TSet):TG:=fun v σ H Q=>to σ H fun o H1=>ti σ H1 fun i H2=>t o i v H2 fun H3=>Q σ H3
theorem pg_sub{o i:Expr}{to ti:TE}{t:TSet}(ho:PE X o to)(hi:PE X i ti)(hs:PSet X t)
    (ha:∀v,assign (.Subscript o i pos) X.env v=(do
      let ov ← holding [v] (eval o X.env)
      let iv ← holding [v,ov] (eval i X.env)
      standAt pos
      holding [v,ov,iv] (setItem ov iv v)
      release [v,ov,iv] []):=by intro _;rfl):PG X (.Subscript o i pos) (gSub to ti t):=by
  intro pins s σ H v u Q I r h
  rw[ha]
  refine wpAny_bind (wpAny_holding (thn (ho pins s σ H _ I h) fun ov s1 ⟨x,H1,I1,r1,q1⟩=>?_))
  refine wpAny_bind (wpAny_holding (thn (hi pins s1 σ H1 _ I1 q1) fun iv s2 ⟨y,H2,I2,r2,q2⟩=>?_))
  refine wpAny_bind (wpAny_standAt (wpAny_bind (wpAny_holding (thn (hs pins s2 σ H2 x y v ov iv u _ I2 r1 r2 r q2) fun _ s3 ⟨H3,I3,q3⟩=>?_))))
  exact wpAny_release ⟨σ,H3,I3,q3⟩
def tAsg(te:TE)(g:TG):TS:=fun D σ H=>te σ H fun x H1=>g x σ H1 D.nx
theorem ps_asg{tg e:Expr}{te:TE}{g:TG}(he:PE X e te)(hg:PG X tg g)(hs:swapsWithSole [tg] e pos.line X.env=pure false:=by rfl)(hw:swappedStores [tg] e X.env=pure none:=by rfl)
    (h1:(assignEach [tg] X.env).map (·.2)=[assign tg X.env]:=by rfl):PS X (.Assign [tg] e pos) (tAsg te g):=by
  intro pins s σ H D I h
  refine wpAny_Assign_stores (thn (he pins s σ H _ I h) fun v s1 ⟨x,H1,I1,r1,q1⟩=>?_) hs hw
  rw[h1]
  exact thn (hg pins s1 σ H1 x v _ I1 r1 q1) fun _ s2 q=>q
theorem a0q{i:Nat}{x:Str}{e:Expr}{te:TE}{pos':Pos}(hN:X.N.Nodup)(hi:X.N[i]? = some x)(hx:Loc X.env.scope x)(he:PE X e te)(hs:swapsWith e (some (.Name x pos')) pos.line X.env=pure false:=by rfl)(hf:X.fn x=true∨X.env.scope.names.lookup x=some .local:=by first | exact .inl rfl | exact .inr rfl | assumption) :
    PS X (.Assign [.Name x pos'] e pos) (tAsg te (b0m i)):=by
  intro pins s σ H D I h
  refine wpAny_Assign_Name (thn (he pins s σ H _ I h) fun v s1 ⟨y,H1,I1,r1,q1⟩=>?_) hs
  exact d0k I1 hN hi hx r1 (fun s2 I2=>⟨_,H1,I2,q1⟩) hf
def tPar(i j:Nat)(ta:TA):TS:=fun D σ H=>ta σ H fun vs H1=>∃v w,vs=[v,w]∧D.nx ((σ.set i (some v)).set j (some w)) H1
theorem ps_par{i j:Nat}{x y:Str}{a b:Expr}{ta:TA}{px py pt:Pos}{kt k2 pt2}(hc:X.calm=true)(hN:X.N.Nodup)(hi:X.N[i]? = some x)(hj:X.N[j]? = some y)(hij:i≠j)
    (hx:X.env.scope.names.lookup x=some .local) (hy:X.env.scope.names.lookup y=some .local) (ha:PA X [a,b] ta)
    (hw:swappedStores [.Tuple [.Name x px,.Name y py] kt pt] (.Tuple [a,b] k2 pt2) X.env=pure (some [x,y]))
    (hs:swapsWithSole [.Tuple [.Name x px,.Name y py] kt pt] (.Tuple [a,b] k2 pt2) pos.line X.env=pure false:=by rfl) :
    PS X (.Assign [.Tuple [.Name x px,.Name y py] kt pt] (.Tuple [a,b] k2 pt2) pos) (tPar i j ta):=by
  intro pins s σ H D I h
  rw[exec_Assign_arm]
  refine wpAny_bind (wpAny_standAt ?_)
  rw[hs]
  refine wpAny_bind (wpAny_pure ?_)
  rw[if_neg (by decide)]
  refine wpAny_bind (Tuple_ (thn (ha _ pins s σ H _ I h) fun us s1 ⟨vs,H1,I1,r1,q1⟩=>?_))
  obtain⟨v,w,e1,q1⟩:=q1
  subst e1
  obtain⟨u1,u2,rfl,rv,rw'⟩:∃u1 u2,us=[u1,u2]∧RelV v u1∧RelV w u2:=by
    cases r1 with
    | cons p q=>
      cases q with
      | cons p' q'=>
        cases q'
        exact⟨_,_,rfl,p,p'⟩
  refine wpAny_newObj_type ?_ (by show 2≤sizeLine;decide)
  have I2:Inv X pins σ H1 { s1 with heap:=s1.heap.push { cls:=.type "tuple",data:=.seq [u1,u2].toArray } }:=I1.kept (t':=s1.toks) fun b o e=>Heap.get?_push_of_some _ e
  rw[hw]
  refine wpAny_bind (wpAny_pure ?_)
  show wpAny (model X.prog X.w) X.A (do rule "assign.swapped-stores";let items ← unpackItems (.ref s1.heap.objs.size) 2 none;assignInOrder [fun v=>bindName X.env y v,fun v=>bindName X.env x v] items.reverse;pure Flow.next) _ _ _
  refine wpAny_bind (wpAny_rule (wpAny_bind (unpackItems_tuple (items:=#[u1,u2]) (I.ok.hd hc) (IsTup.new s1.heap _) fun h' hx'=>?_)))
  have I3:=I2.kept (h':=h') (t':=s1.toks) fun b o e=>hx' b o (Nat.ne_of_lt (Heap.lt_size e)) e
  show wpAny _ _ (assignInOrder [fun v=>bindName X.env y v,fun v=>bindName X.env x v] [u2,u1] >>= fun _=>pure Flow.next) _ _ _
  refine wpAny_bind (assignInOrder_cons (wpAny_bindName (d0k I3 hN hj (.inl hy) rw' (fun s2 I4=>?_) (.inr hy))))
  refine assignInOrder_cons (wpAny_bindName (d0k I4 hN hi (.inl hx) rv (fun s3 I5=>assignInOrder_nil (wpAny_pure ?_)) (.inr hx)))
  rw[List.set_comm _ _ (Ne.symm hij)]at I5
  exact⟨_,H1,I5,q1⟩
def tAug(i:Nat)(te:TE)(ti:TIp):TS:=fun D σ H=>∃x,σ[i]? = some (some x)∧te σ H fun y H1=>ti x y H1 fun z H2=>D.nx (σ.set i (some z)) H2
theorem ps_aug{i:Nat}{x:Str}{e:Expr}{te:TE}{op:Operator}{ti:TIp}{pos':Pos}(hN:X.N.Nodup)(hi:X.N[i]? = some x)(hx:Loc X.env.scope x)(he:PE X e te)(ho:PIp X op ti)(hf:X.fn x=true∨X.env.scope.names.lookup x=some .local:=by first | exact .inl rfl | exact .inr rfl | assumption) :
    PS X (.AugAssign (.Name x pos') op e pos) (tAug i te ti):=by
  intro pins s σ H D I h
  obtain⟨v,e1,h⟩:=h
  obtain⟨m,hn,hl⟩:=I.loc
  have vis:Vis X.env.scope x:=by rcases hx with k | k;exact .inl k;exact .inr (.inl k)
  obtain⟨u,r,l⟩:=hl i x v hi e1 vis
  refine wpAny_AugAssign_Name ?_
  have go:wpAny (model X.prog X.w) X.A (eval e X.env) (fun w s₂=>wpAny (model X.prog X.w) X.A (inplaceOp op u w) (fun r s₃=>wpAny (model X.prog X.w) X.A (storeName X.env x r) (fun _=>SP X pins D .next) X.xe s₃) X.xe s₂) X.xe s:=by
    refine thn (he pins s σ H _ I h) fun w s1 ⟨y,H1,I1,r1,q1⟩=>?_
    refine thn (ho pins s1 σ H1 v y u w _ I1 r r1 q1) fun z s2 ⟨zv,H2,I2,r2,q2⟩=>?_
    exact d0k I2 hN hi hx r2 (fun s3 I3=>⟨_,H2,I3,q2⟩) hf
  rcases l with ⟨hk,hm⟩ | ⟨hk,c,hc,hcell⟩
  · exact wpAny_loadName_local I.ok.kind hk hn hm go
  · rcases hk with hk | hk
    · exact wpAny_loadName_cell I.ok.kind hk hc hcell go
    · rcases hx with k | k
      · have:X.env.scope.names.lookup x=some .free:=hk
        rw[k]at this;cases this
      · have:X.env.scope.names.lookup x=some .free:=hk
        rw[k]at this;cases this
def ipI(f:Int→Int→Int):TIp:=fun x y H Q=>∃i j,x=.int i∧y=.int j∧Q (.int (f i j)) H
theorem ip_add:PIp X .Add (ipI fun i j=>i+j):=by
  intro pins s σ H x y v u Q I r1 r2 h
  obtain⟨i,j,e1,e2,q⟩:=h
  subst e1;subst e2
  obtain⟨t,rfl⟩:=r1
  obtain⟨t',rfl⟩:=r2
  exact iadd_int ⟨.int _,H,I.tok _,⟨_,rfl⟩,q⟩
end
section
variable{X:Cx}{pos:Pos}
def tWhile(c:TT)(tb:TS):TS:=fun D σ H=>∃W:Nat→St→Hp→Prop,(∃m,W m σ H)∧∀m σ H,W m σ H→
  c σ H fun b H1=>if b=true then ∃N:St→Hp→Prop,(∀σ' H',N σ' H'→∃m',m' < m∧W m' σ' H')∧tb { D with nx:=N,ct:=N,bk:=D.nx } σ H1 else D.nx σ H1
theorem h0f{c:Expr}{body:List Stmt}{tc:TT}{tb:TS}(hp:PassesOwn (model X.prog X.w) X.A X.env X.xe)(hc:PT X c tc)(hb:PSs X body tb):PS X (.While c body [] pos) (tWhile tc tb):=by
  intro pins s σ H D I h
  obtain⟨W,⟨m0,w0⟩,turn⟩:=h
  refine wpAny_While (codeAny_whileLoop (fun n s'=>∃σ' H',Inv X pins σ' H' s'∧W n σ' H') ?_ m0 ⟨σ,H,I,w0⟩)
  rintro n s1 ⟨σ1,H1,I1,w1⟩
  refine wpAny_passesOwn hp (thn (hc pins s1 σ1 H1 _ I1 (turn n σ1 H1 w1)) fun b s2 ⟨H2,I2,q2⟩=>?_)
  cases b with
  | true=>
    obtain⟨N,hN,q2⟩:=q2
    rw[if_pos rfl]
    refine wpAny_passesOwn hp (thn (hb pins s2 σ1 H2 _ I2 q2) fun f s3 q3=>?_)
    cases f with
    | next=>
      obtain⟨σ3,H3,I3,n3⟩:=q3
      obtain⟨m',hm,w3⟩:=hN σ3 H3 n3
      exact⟨m',hm,σ3,H3,I3,w3⟩
    | cont=>
      obtain⟨σ3,H3,I3,n3⟩:=q3
      obtain⟨m',hm,w3⟩:=hN σ3 H3 n3
      exact⟨m',hm,σ3,H3,I3,w3⟩
    | brk=>exact q3
    | ret v=>exact q3
  | false=>
    rw[if_neg Bool.false_ne_true]
    exact wpAny_execs_nil ⟨σ1,H2,I2,q2⟩
end
structure It where
  go:Nat→Hp→Prop
  yld:Nat→Hp→V→Hp→Prop
  stop:Nat→Hp→Prop
def FpOk(X:Cx)(pins:List (Addr × Obj))(H:Hp)(b:Addr):Prop:=
  H b=none∧b≠X.env.locals∧b ∉ X.fs∧(b∈X.ex∨X.s₀.heap.objs.size≤b)∧(∀x c,X.env.cells.lookup x=some c→c≠b)∧∀p∈X.pn++pins,p.1≠b
theorem Inv.fpOk{X:Cx}{pins:List (Addr × Obj)}{σ:St}{H H':Hp}{s:Shared}{b:Addr}(I:Inv X pins σ H s)(hb:s.heap.objs.size≤b)(hn:H' b=none):FpOk X pins H' b:=by
  refine⟨hn,Nat.ne_of_gt (Nat.lt_of_lt_of_le I.lt hb),I.nofs hb,.inr (Nat.le_trans I.sz hb),fun x c e z=>?_,fun p hp z=>?_⟩
  · obtain⟨v,q⟩:=I.cell x c e
    exact absurd (Nat.lt_of_lt_of_le q.lt (by rw[z];exact hb)) (Nat.lt_irrefl _)
  · exact absurd (Nat.lt_of_lt_of_le (Heap.lt_size (I.pin p hp).1) (by rw[z];exact hb)) (Nat.lt_irrefl _)
structure Turn(P:Program)(w:World)(K:PySem.W.Frag)(tg:Expr)(J:It)(fp:List Addr)(it:Addr)(tn:Nat→Heap→Prop):Prop where
  mem:it∈fp
  obj:∀i h,tn i h→∀b∈fp,∃o,h.get? b=some o∧∀v,o.data≠.cell v
  keep:∀i h h',tn i h→(∀b∈fp,∀o,h.get? b=some o→h'.get? b=some o)→tn i h'
  item:∀(X:Cx),X.prog=P→X.w=w→X.K=K→X.calm=true→∀(i:Nat) (pins:List (Addr × Obj)) (s:Shared) (σ:St) (H:Hp) (E:Value→Shared→Prop),Inv X pins σ H s→(∀b∈fp,FpOk X pins H b)→tn i s.heap→J.go i H→
    wpAny (model P w) X.A (pyNext (.ref it)) (fun r s1=>∃u,r=some u∧
      wpAny (model P w) X.A (letOwnedTupleGo tg (.ref it) u) (fun _ s2=>∃x H',Inv X pins σ H' s2∧RelV x u∧J.yld i H x H'∧tn (i+1) s2.heap∧∀b∈fp,H' b=none) E s1) E s
  done:∀(X:Cx),X.prog=P→X.w=w→X.K=K→X.calm=true→∀(i:Nat) (pins:List (Addr × Obj)) (s:Shared) (σ:St) (H:Hp) (E:Value→Shared→Prop),Inv X pins σ H s→(∀b∈fp,FpOk X pins H b)→tn i s.heap→J.stop i H→
    wpAny (model P w) X.A (pyNext (.ref it)) (fun r s1=>r=none∧Inv X pins σ H s1) E s
  self:∀(A:Around) (i:Nat) (s:Shared) (Q:Value→Shared→Prop) (E:Value→Shared→Prop),tn i s.heap→Q (.ref it) s→wpAny (model P w) A (pyIter (.ref it)) Q E s
abbrev TI:=St→Hp→(It→Hp→Prop)→Prop
def PIE(X:Cx)(pins:List (Addr × Obj))(σ:St)(tg:Expr)(R:It→Hp→Prop)(itv:Value)(s2:Shared):Prop:=
  ∃(it:Addr) (fp:List Addr) (tn:Nat→Heap→Prop) (J:It) (H':Hp),itv=.ref it∧Inv X pins σ H' s2∧Turn X.prog X.w X.K tg J fp it tn∧tn 0 s2.heap∧(∀b∈fp,FpOk X pins H' b)∧R J H'
def PI(X:Cx)(tg iter:Expr)(wi:TI):Prop:=
  ∀(pins:List (Addr × Obj)) (s:Shared) (σ:St) (H:Hp) (R:It→Hp→Prop),Inv X pins σ H s→wi σ H R→
    wpAny (model X.prog X.w) X.A (eval iter X.env) (fun v s1=>wpAny (model X.prog X.w) X.A (pyIter v) (PIE X pins σ tg R) X.xe s1) X.xe s
theorem go_of{M:Model}{A:Around}{E:Value→Shared→Prop}{s:Shared}{tg:Expr}{it:Addr}{u:Value}{o:Obj}{n:String}{vs:Array Value}{Q:Unit→Shared→Prop}(ho:s.heap.get? it=some o)(hc:o.cls=.type n)(hd:o.data=.fields vs)
    (hn:["enumerate","zip","dict_itemiterator","dict_reverseitemiterator","odict_iterator","itertools.zip_longest","itertools.pairwise"].contains n=false) (hQ:Q () s):wpAny M A (letOwnedTupleGo tg (.ref it) u) Q E s:=by
  unfold letOwnedTupleGo
  cases tg <;>first
    | exact wpAny_pure hQ
    | (cases u <;>first
        | exact wpAny_pure hQ
        | (refine wpAny_bind (wpAny_load ho ?_)
           rw[hc,hd]
           show wpAny M A (if(["enumerate","zip","dict_itemiterator","dict_reverseitemiterator","odict_iterator","itertools.zip_longest","itertools.pairwise"].contains n && vs[0]? == some (rawInt _))=true then _ else _) Q E s
           rw[if_neg (by intro h;rw[hn,Bool.false_and]at h;cases h)]
           exact wpAny_pure hQ))
def Itl(K:PySem.W.Frag)(a:Addr):It:=
  ⟨fun i H=>∃xs x,SqL K H a xs∧xs[i]? = some x,fun i H x H'=>H'=H∧∀xs,SqL K H a xs→xs[i]? = some x,fun i H=>∃xs,SqL K H a xs∧xs.length≤i⟩
def Itt(K:PySem.W.Frag)(a:Addr):It:=
  ⟨fun i H=>∃xs x,SqT K H a xs∧xs[i]? = some x,fun i H x H'=>H'=H∧∀xs,SqT K H a xs→xs[i]? = some x,fun i H=>∃xs,SqT K H a xs∧xs.length≤i⟩
def Itr(lo:Int)(n:Nat):It:=⟨fun i _=>i < n,fun i H x H'=>H'=H∧x=.int (lo+i),fun i _=>n≤i⟩
theorem turn_list{P:Program}{w:World}{K:PySem.W.Frag}{tg:Expr}(a it:Addr):Turn P w K tg (Itl K a) [it] it (fun i h=>h.IsListIter it a i)where
  mem:=by simp
  obj:=fun i h st b hb=>by
    have e:b=it:=by simpa using hb
    subst e
    obtain⟨o,e,c,d⟩:=st
    exact⟨o,e,fun v z=>by rw[d]at z;cases z⟩
  keep:=fun i h h' st k=>st.at fun o e=>k it (by simp) o e
  item:=by
    intro X hP hw hK hc i pins s σ H E I hf st hg
    subst hP hw hK
    obtain⟨xs,x,hq,hx⟩:=hg
    obtain⟨its,rv,p,hz⟩:=I.list hq
    obtain⟨u,hu,ru⟩:=rv.get hx
    obtain⟨f0,f1,f2,f3,f4,f5⟩:=hf it (by simp)
    refine wpAny_pyNext_list_item st p.isList (x:=u) (by simpa using hu) fun h' st' sb=>?_
    have I1:Inv X pins σ H { s with heap:=h' }:=I.turned (t':=s.toks) (fun b o hb e=>(sb.2 b hb).trans e) f0 f1 f3 f4 f5
    obtain⟨o,e,c,d⟩:=id st'
    exact⟨u,rfl,go_of (s:={ s with heap:=h' }) e c d (by decide) ⟨x,H,I1,ru,⟨rfl,fun ys hy=>by rw[I.list_inj hy hq];exact hx⟩,st',fun b hb=>(hf b hb).1⟩⟩
  done:=by
    intro X hP hw hK hc i pins s σ H E I hf st hg
    subst hP hw hK
    obtain⟨xs,hq,hx⟩:=hg
    obtain⟨its,rv,p,hz⟩:=I.list hq
    obtain⟨f0,f1,f2,f3,f4,f5⟩:=hf it (by simp)
    have hl:=rv.length
    exact wpAny_pyNext_list_end (I.ok.hd hc) st p.isList (by simp;omega) fun h' eb=>⟨rfl,I.turned (t':=s.toks) (fun b o hb e=>eb b o hb e) f0 f1 f3 f4 f5⟩
  self:=fun _ _ _ _ _ st h=>wpAny_pyIter_listiter st h
theorem turn_tuple{P:Program}{w:World}{K:PySem.W.Frag}{tg:Expr}(a it:Addr):Turn P w K tg (Itt K a) [it] it (fun i h=>h.IsTupleIter it a i)where
  mem:=by simp
  obj:=fun i h st b hb=>by
    have e:b=it:=by simpa using hb
    subst e
    obtain⟨o,e,c,d⟩:=st
    exact⟨o,e,fun v z=>by rw[d]at z;cases z⟩
  keep:=fun i h h' st k=>st.at fun o e=>k it (by simp) o e
  item:=by
    intro X hP hw hK hc i pins s σ H E I hf st hg
    subst hP hw hK
    obtain⟨xs,x,hq,hx⟩:=hg
    obtain⟨its,rv,p,hz⟩:=I.tuple hq
    obtain⟨u,hu,ru⟩:=rv.get hx
    obtain⟨f0,f1,f2,f3,f4,f5⟩:=hf it (by simp)
    refine wpAny_pyNext_tuple_item st (show s.heap.IsTuple a its.toArray from p) (x:=u) (by simpa using hu) fun h' st' sb=>?_
    have I1:Inv X pins σ H { s with heap:=h' }:=I.turned (t':=s.toks) (fun b o hb e=>(sb.2 b hb).trans e) f0 f1 f3 f4 f5
    obtain⟨o,e,c,d⟩:=id st'
    exact⟨u,rfl,go_of (s:={ s with heap:=h' }) e c d (by decide) ⟨x,H,I1,ru,⟨rfl,fun ys hy=>by rw[I.tuple_inj hy hq];exact hx⟩,st',fun b hb=>(hf b hb).1⟩⟩
  done:=by
    intro X hP hw hK hc i pins s σ H E I hf st hg
    subst hP hw hK
    obtain⟨xs,hq,hx⟩:=hg
    obtain⟨its,rv,p,hz⟩:=I.tuple hq
    obtain⟨f0,f1,f2,f3,f4,f5⟩:=hf it (by simp)
    have hl:=rv.length
    exact wpAny_pyNext_tuple_end (I.ok.hd hc) st (show s.heap.IsTuple a its.toArray from p) (by simp;omega) fun h' eb=>⟨rfl,I.turned (t':=s.toks) (fun b o hb e=>eb b o hb e) f0 f1 f3 f4 f5⟩
  self:=fun _ _ _ _ _ st h=>wpAny_pyIter_tupleiter st h
theorem turn_range{P:Program}{w:World}{K:PySem.W.Frag}{tg:Expr}(it:Addr)(lo:Int)(n:Nat):Turn P w K tg (Itr lo n) [it] it (fun i h=>IsRangeIter h it (lo+(i:Nat) * 1) ((n:Int) - (i:Nat)) 1)where
  mem:=by simp
  obj:=fun i h st b hb=>by
    have e:b=it:=by simpa using hb
    subst e
    exact⟨_,st,fun v z=>by
      have z':Data.fields _=Data.cell v:=z
      cases z'⟩
  keep:=fun i h h' st k=>k it (by simp) _ st
  item:=by
    intro X hP hw hK hc i pins s σ H E I hf st hg
    subst hP hw hK
    obtain⟨f0,f1,f2,f3,f4,f5⟩:=hf it (by simp)
    have W:=Walks.range (prog:=X.prog) (w:=X.w) (I.ok.hd hc) it lo 1 n
    refine W.item i s _ _ hg st fun v h' tk hv st' kk=>?_
    obtain⟨t,rfl⟩:=hv
    have I1:Inv X pins σ H { s with heap:=h',toks:=tk }:=I.turned (fun b o hb e=>kk b o (by simpa using hb) e) f0 f1 f3 f4 f5
    refine⟨_,rfl,go_of (s:={ s with heap:=h',toks:=tk }) (n:="range_iterator") st' rfl rfl (by decide) ⟨.int (lo+i),H,I1,⟨t,?_⟩,⟨rfl,rfl⟩,st',fun b hb=>(hf b hb).1⟩⟩
    rw[Int.mul_one]
  done:=by
    intro X hP hw hK hc i pins s σ H E I hf st hg
    subst hP hw hK
    obtain⟨f0,f1,f2,f3,f4,f5⟩:=hf it (by simp)
    exact wpAny_pyNext_range_end (I.ok.hd hc) st (by have:n≤i:=hg;omega) fun h' eb=>⟨rfl,I.turned (t':=s.toks) (fun b o hb e=>eb b o hb e) f0 f1 f3 f4 f5⟩
  self:=fun _ _ _ _ _ st h=>wpAny_pyIter_rangeiter st h
end L2
namespace L2
open PySem PySem.Spec PyProof.Rows
section
variable{X:Cx}{tg:Expr}
def iList(K:PySem.W.Frag)(tl:TE):TI:=fun σ H R=>tl σ H fun x H1=>∃a,x=.ref a∧(∃xs,SqL K H1 a xs)∧R (Itl K a) H1
def iTup(K:PySem.W.Frag)(tl:TE):TI:=fun σ H R=>tl σ H fun x H1=>∃a,x=.ref a∧(∃xs,SqT K H1 a xs)∧R (Itt K a) H1
theorem pi_list{l:Expr}{tl:TE}(hl:PE X l tl):PI X tg l (iList X.K tl):=by
  intro pins s σ H R I h
  refine thn (hl pins s σ H _ I h) fun v s1 ⟨x,H1,I1,r1,q1⟩=>?_
  obtain⟨a,e,⟨xs,hq⟩,q⟩:=q1
  subst e
  cases r1
  obtain⟨its,rv,p,hz⟩:=I1.list hq
  refine wpAny_pyIter_list p.isList ?_
  refine⟨s1.heap.objs.size,[s1.heap.objs.size],_,_,H1,rfl,I1.kept (t':=s1.toks) fun b o e=>Heap.get?_push_of_some _ e,turn_list a _,⟨_,Heap.get?_push_size _ rfl,rfl,rfl⟩,fun b hb=>?_,q⟩
  have e:b=s1.heap.objs.size:=by simpa using hb
  subst e
  exact I1.fpOk (Nat.le_refl _) (I1.hok.fresh (Nat.le_refl _))
theorem pi_tup{l:Expr}{tl:TE}(hl:PE X l tl):PI X tg l (iTup X.K tl):=by
  intro pins s σ H R I h
  refine thn (hl pins s σ H _ I h) fun v s1 ⟨x,H1,I1,r1,q1⟩=>?_
  obtain⟨a,e,⟨xs,hq⟩,q⟩:=q1
  subst e
  cases r1
  obtain⟨its,rv,p,hz⟩:=I1.tuple hq
  refine wpAny_pyIter_tuple (show s1.heap.IsTuple a its.toArray from p) ?_
  refine⟨s1.heap.objs.size,[s1.heap.objs.size],_,_,H1,rfl,I1.kept (t':=s1.toks) fun b o e=>Heap.get?_push_of_some _ e,turn_tuple a _,⟨_,Heap.get?_push_size _ rfl,rfl,rfl⟩,fun b hb=>?_,q⟩
  have e:b=s1.heap.objs.size:=by simpa using hb
  subst e
  exact I1.fpOk (Nat.le_refl _) (I1.hok.fresh (Nat.le_refl _))
theorem range_it{pins:List (Addr × Obj)}{σ:St}{H:Hp}{s:Shared}{R:It→Hp→Prop}{E:Value→Shared→Prop}{lo hi:Int}{t u v:Tok}{tk:Nat}(I:Inv X pins σ H s)(h1:-(2 ^ 62)≤lo)(h2:lo < 2 ^ 62)(h3:-(2 ^ 62)≤hi)(h4:hi < 2 ^ 62)
    (q:R (Itr lo (hi - lo).toNat) H):wpAny (model X.prog X.w) X.A (pyIter (.ref s.heap.objs.size)) (PIE X pins σ tg R) E { s with heap:=s.heap.push { cls:=.type "range",data:=.fields #[.int lo t,.int hi u,.int 1 v] },toks:=tk }:=by
  refine wpAny_pyIter_range (IsRange.new ..) (small_one h1 h2 h3 h4) ?_
  have I1:Inv X pins σ H { s with heap:=s.heap.push { cls:=.type "range",data:=.fields #[.int lo t,.int hi u,.int 1 v] },toks:=tk }:=I.kept fun b o e=>Heap.get?_push_of_some _ e
  refine⟨(s.heap.push { cls:=.type "range",data:=.fields #[.int lo t,.int hi u,.int 1 v] }).objs.size,[(s.heap.push { cls:=.type "range",data:=.fields #[.int lo t,.int hi u,.int 1 v] }).objs.size],_,_,H,rfl,
    I1.kept (t':=tk) fun b o e=>Heap.get?_push_of_some _ e,turn_range _ lo (hi - lo).toNat,?_,fun b hb=>?_,q⟩
  · have e1:lo+((0:Nat):Int) * 1=lo:=by simp
    have e2:(((hi - lo).toNat:Nat):Int) - ((0:Nat):Int)=Builtin.Range.rangeSize lo hi 1:=by rw[rangeSize_one];split <;>omega
    show IsRangeIter _ _ (lo+((0:Nat):Int) * 1) ((((hi - lo).toNat:Nat):Int) - ((0:Nat):Int)) 1
    rw[e1,e2]
    exact Heap.get?_push_size _ rfl
  · have e:b=(s.heap.push { cls:=.type "range",data:=.fields #[.int lo t,.int hi u,.int 1 v] }).objs.size:=by simpa using hb
    subst e
    exact I1.fpOk (Nat.le_refl _) (I1.hok.fresh (Nat.le_refl _))
def iRng1(ta:TA):TI:=fun σ H R=>ta σ H fun vs H1=>∃j:Int,vs=[.int j]∧-(2 ^ 62)≤j∧j < 2 ^ 62∧R (Itr 0 j.toNat) H1
theorem d0i{a:Expr}{ta:TA}{p pos:Pos}(hg:Gl X "range")(hm:X.mg "range"=none)(ha:PA X [a] ta)(hs:starEach [a] X.env=[(false,eval a X.env)]:=by rfl):PI X tg (.Call (.Name "range" p) [a] [] pos) (iRng1 ta):=by
  intro pins s σ H R I h
  refine Call_ (g0y I hg hm boot_range (PyProof.Rows.callWith_type1 (thn (ha pos pins s σ H _ I h) fun us s1 ⟨vs,H1,I1,r1,q1⟩=>?_) hs rfl))
  obtain⟨j,e,q1,q2,q⟩:=q1
  subst e
  cases r1 with
  | cons r rr=>
    cases rr
    obtain⟨t,rfl⟩:=r
    exact call_range_1 (range_it I1 (by omega) (by omega) q1 q2 (by simpa using q))
def tFor(wi:TI)(g:TG)(tb:TS):TS:=fun D σ H=>wi σ H fun J H1=>∃W:Nat→Nat→St→Hp→Prop,(∃m,W 0 m σ H1)∧∀i m σ H,W i m σ H→
  (J.stop i H∧D.nx σ H)∨(J.go i H∧∃N:St→Hp→Prop,(∀σ' H',N σ' H'→∃m',m' < m∧W (i+1) m' σ' H')∧∀x H',J.yld i H x H'→g x σ H' fun σ2 H2=>tb { D with nx:=N,ct:=N,bk:=D.nx } σ2 H2)
def pinsAt(fp:List Addr)(h:Heap):List (Addr × Obj):=fp.filterMap fun b=>(h.get? b).map fun o=>(b,o)
theorem c0u{fp:List Addr}{h:Heap}{b:Addr}{o:Obj}(hb:b∈fp)(e:h.get? b=some o):(b,o)∈pinsAt fp h:=List.mem_filterMap.mpr ⟨b,hb,by rw[e];rfl⟩
theorem of_pinsAt{fp:List Addr}{h:Heap}{p:Addr × Obj}(hp:p∈pinsAt fp h):p.1∈fp∧h.get? p.1=some p.2:=by
  obtain⟨b,hb,e⟩:=List.mem_filterMap.mp hp
  cases q:h.get? b with
  | none=>rw[q]at e;cases e
  | some o=>
    rw[q]at e
    have e':(b,o)=p:=Option.some.inj e
    subst e'
    exact⟨hb,q⟩
theorem Inv.pinned{pins:List (Addr × Obj)}{σ:St}{H:Hp}{s:Shared}{fp:List Addr}(I:Inv X pins σ H s)(hf:∀b∈fp,FpOk X pins H b)(ho:∀b∈fp,∃o,s.heap.get? b=some o∧∀v,o.data≠.cell v):Inv X (pins++pinsAt fp s.heap) σ H s:=
  I.pins_of fun p hp=>(List.mem_append.mp hp).elim (fun z=>I.pin p (List.mem_append_right _ z)) fun z=>by
    obtain⟨hb,e⟩:=of_pinsAt z
    obtain⟨f0,f1,f2,_⟩:=hf p.1 hb
    obtain⟨o,e',d⟩:=ho p.1 hb
    rw[e]at e';cases e'
    exact⟨e,f0,f1,f2,d⟩
theorem Inv.unpinned{pins pl:List (Addr × Obj)}{σ:St}{H:Hp}{s:Shared}(I:Inv X (pins++pl) σ H s):Inv X pins σ H s:=I.pins_of fun p hp=>I.pin p (List.mem_append_right _ (List.mem_append_left _ hp))
theorem e0g{iter:Expr}{body:List Stmt}{wi:TI}{g:TG}{tb:TS}{pos:Pos}(hp:PassesOwn (model X.prog X.w) X.A X.env X.xe)(hc:X.calm=true)(hi:PI X tg iter wi)(hg:PG X tg g)(hb:PSs X body tb)
    (hs:∀x,foldedSetIterable iter X.env x=pure x:=by intro _;rfl):PS X (.For tg iter body [] pos) (tFor wi g tb):=by
  intro pins s σ H D I h
  refine wpAny_For (thn (hi pins s σ H _ I h) fun v s1 h1=>thn h1 fun itv s2 h2=>?_) hs
  obtain⟨it,fp,tn,J,H2,e,I2,T,st2,f2,W,⟨m0,w0⟩,turn⟩:=h2
  subst e
  have stat:∀{H':Hp},(∀b∈fp,H' b=none)→∀b∈fp,FpOk X pins H' b:=fun hn b hb=>⟨hn b hb,(f2 b hb).2⟩
  refine codeAny_forLoop_any (fun n s'=>∃i σ' H',Inv X pins σ' H' s'∧tn i s'.heap∧(∀b∈fp,H' b=none)∧W i n σ' H') ?_ m0 ⟨0,σ,H2,I2,st2,fun b hb=>(f2 b hb).1,w0⟩
  rintro n s3 ⟨i,σ3,H3,I3,st3,fr3,w3⟩
  rcases turn i n σ3 H3 w3 with ⟨stop,qn⟩ | ⟨go,N,hN,step⟩
  · refine wpAny_passesOwn hp (thn (T.done X rfl rfl rfl hc i pins s3 σ3 H3 X.xe I3 (stat fr3) st3 stop) fun r s4 ⟨hr,I4⟩=>?_)
    subst hr
    exact wpAny_execs_nil ⟨σ3,H3,I4,qn⟩
  · refine wpAny_passesOwn hp (thn (T.item X rfl rfl rfl hc i pins s3 σ3 H3 X.xe I3 (stat fr3) st3 go) fun r s4 ⟨u,hr,h4⟩=>?_)
    subst hr
    refine wpAny_passesOwn hp (thn h4 fun _ s5 ⟨x,H5,I5,r5,y5,st5,fr5⟩=>?_)
    have I5':=I5.pinned (stat fr5) (T.obj _ _ st5)
    refine wpAny_passesOwn hp (thn (hg _ s5 σ3 H5 x u _ I5' r5 (step x H5 y5)) fun _ s6 ⟨σ6,H6,I6,q6⟩=>?_)
    refine wpAny_passesOwn hp (thn (hb _ s6 σ6 H6 _ I6 q6) fun f s7 q7=>?_)
    have again:∀{σ7:St} {H7:Hp},Inv X (pins++pinsAt fp s5.heap) σ7 H7 s7→N σ7 H7→∃m,m < n∧∃i σ' H',Inv X pins σ' H' s7∧tn i s7.heap∧(∀b∈fp,H' b=none)∧W i m σ' H':=fun{σ7 H7} I7 n7=>by
      obtain⟨m',hm,w7⟩:=hN σ7 H7 n7
      refine⟨m',hm,i+1,σ7,H7,I7.unpinned,T.keep _ _ _ st5 fun b hb o e=>(I7.pin (b,o) (List.mem_append_right _ (List.mem_append_right _ (c0u hb e)))).1,fun b hb=>?_,w7⟩
      obtain⟨o,e,d⟩:=T.obj _ _ st5 b hb
      exact(I7.pin (b,o) (List.mem_append_right _ (List.mem_append_right _ (c0u hb e)))).2.1
    cases f with
    | next=>obtain⟨σ7,H7,I7,n7⟩:=q7;exact again I7 n7
    | cont=>obtain⟨σ7,H7,I7,n7⟩:=q7;exact again I7 n7
    | brk=>obtain⟨σ7,H7,I7,q7⟩:=q7;exact⟨σ7,H7,I7.unpinned,q7⟩
    | ret v=>obtain⟨x7,σ7,H7,I7,r7,q7⟩:=q7;exact⟨x7,σ7,H7,I7.unpinned,r7,q7⟩
end
theorem k0y{K:PySem.W.Frag}{a:Addr}{xs:List V}{g:TG}{tb:TS}{D:Ends}{σ:St}{H:Hp}(Pv:Nat→St→Hp→Prop)(h0:Pv 0 σ H)(hl:∀i σ H,i≤xs.length→Pv i σ H→SqL K H a xs)
    (hs:∀i x σ H,xs[i]? = some x→Pv i σ H→g x σ H fun σ2 H2=>tb { D with nx:=Pv (i+1),ct:=Pv (i+1),bk:=D.nx } σ2 H2) (hd:∀σ H,Pv xs.length σ H→D.nx σ H) :
    ∃W:Nat→Nat→St→Hp→Prop,(∃m,W 0 m σ H)∧∀i m σ H,W i m σ H→
      ((Itl K a).stop i H∧D.nx σ H)∨((Itl K a).go i H∧∃N:St→Hp→Prop,(∀σ' H',N σ' H'→∃m',m' < m∧W (i+1) m' σ' H')∧∀x H',(Itl K a).yld i H x H'→g x σ H' fun σ2 H2=>tb { D with nx:=N,ct:=N,bk:=D.nx } σ2 H2):=by
  refine⟨fun i m σ H=>m=xs.length - i∧i≤xs.length∧Pv i σ H,⟨xs.length,by simp,Nat.zero_le _,h0⟩,?_⟩
  rintro i m σ H ⟨rfl,hi,p⟩
  have q:=hl i σ H hi p
  by_cases hlt:i < xs.length
  · refine .inr ⟨⟨xs,xs[i],q,by simp[hlt]⟩,Pv (i+1),fun σ' H' p'=>⟨xs.length - (i+1),by omega,rfl,hlt,p'⟩,fun x H' y=>?_⟩
    obtain⟨e,y⟩:=y
    subst e
    exact hs i x σ _ (y xs q) p
  · have e:i=xs.length:=by omega
    subst e
    exact .inl ⟨⟨xs,q,Nat.le_refl _⟩,hd σ H p⟩
theorem e0p{lo:Int}{n:Nat}{g:TG}{tb:TS}{D:Ends}{σ:St}{H:Hp}(Pv:Nat→St→Hp→Prop)(h0:Pv 0 σ H)
    (hs:∀i σ H,i < n→Pv i σ H→g (.int (lo+i)) σ H fun σ2 H2=>tb { D with nx:=Pv (i+1),ct:=Pv (i+1),bk:=D.nx } σ2 H2) (hd:∀σ H,Pv n σ H→D.nx σ H) :
    ∃W:Nat→Nat→St→Hp→Prop,(∃m,W 0 m σ H)∧∀i m σ H,W i m σ H→
      ((Itr lo n).stop i H∧D.nx σ H)∨((Itr lo n).go i H∧∃N:St→Hp→Prop,(∀σ' H',N σ' H'→∃m',m' < m∧W (i+1) m' σ' H')∧∀x H',(Itr lo n).yld i H x H'→g x σ H' fun σ2 H2=>tb { D with nx:=N,ct:=N,bk:=D.nx } σ2 H2):=by
  refine⟨fun i m σ H=>m=n - i∧i≤n∧Pv i σ H,⟨n,by simp,Nat.zero_le _,h0⟩,?_⟩
  rintro i m σ H ⟨rfl,hi,p⟩
  by_cases hlt:i < n
  · refine .inr ⟨hlt,Pv (i+1),fun σ' H' p'=>⟨n - (i+1),by omega,rfl,hlt,p'⟩,fun x H' y=>?_⟩
    obtain⟨e,y⟩:=y
    subst e y
    exact hs i σ _ hlt p
  · have e:i=n:=by omega
    subst e
    exact .inl ⟨Nat.le_refl _,hd σ H p⟩
end L2
namespace L2
open PySem PySem.Spec PyProof.Rows
abbrev R2:=V→V→Hp→VK→Prop
def OpR(X:Cx)(f:Value→Value→Sem Value)(r:R2):Prop:=
  ∀(pins:List (Addr × Obj)) (s:Shared) (σ:St) (H:Hp) (x y:V) (v u:Value) (Q:VK),Inv X pins σ H s→RelV x v→RelV y u→r x y H Q→
    wpAny (model X.prog X.w) X.A (f v u) (EP X pins σ Q) X.xe s
def UnR(X:Cx)(f:Value→Sem Value)(r:V→Hp→VK→Prop):Prop:=
  ∀(pins:List (Addr × Obj)) (s:Shared) (σ:St) (H:Hp) (x:V) (v:Value) (Q:VK),Inv X pins σ H s→RelV x v→r x H Q→
    wpAny (model X.prog X.w) X.A (f v) (EP X pins σ Q) X.xe s
def CallR(X:Cx)(f:Value)(r:List V→Hp→VK→Prop):Prop:=
  ∀(pins:List (Addr × Obj)) (s:Shared) (σ:St) (H:Hp) (xs:List V) (us:List Value) (Q:VK),Inv X pins σ H s→Vals xs us→r xs H Q→
    wpAny (model X.prog X.w) X.A (call f us) (EP X pins σ Q) X.xe s
def tOp(r:R2)(ta tb:TE):TE:=fun σ H Q=>ta σ H fun x H1=>tb σ H1 fun y H2=>r x y H2 Q
def tUn(r:V→Hp→VK→Prop)(ta:TE):TE:=fun σ H Q=>ta σ H fun x H1=>r x H1 Q
def rI(C:Int→Int→Prop)(g:Int→Int→V):R2:=fun x y H Q=>∃i j,x=.int i∧y=.int j∧C i j∧Q (g i j) H
def rI0(g:Int→Int→V):R2:=fun x y H Q=>∃i j,x=.int i∧y=.int j∧Q (g i j) H
def rU(g:Int→V):V→Hp→VK→Prop:=fun x H Q=>∃i,x=.int i∧Q (g i) H
section
variable{X:Cx}{a b c:Expr}{ta tb tc:TE}{pos:Pos}
theorem binT(ha:PE X a ta)(hb:PE X b tb){pins:List (Addr × Obj)}{s:Shared}{σ:St}{H:Hp}{R:V→V→Hp→Prop}(I:Inv X pins σ H s)
    (h:ta σ H fun x H1=>tb σ H1 fun y H2=>R x y H2) {Q:Value→Shared→Prop} {f:Value→Value→Sem Value}
    (hf:∀v u s2 x y H2,Inv X pins σ H2 s2→RelV x v→RelV y u→R x y H2→wpAny (model X.prog X.w) X.A (f v u) Q X.xe s2) :
    wpAny (model X.prog X.w) X.A (eval a X.env) (fun v s₁=>wpAny (model X.prog X.w) X.A (eval b X.env) (fun u s₂=>wpAny (model X.prog X.w) X.A (f v u) Q X.xe s₂) X.xe s₁) X.xe s:=by
  refine thn (ha pins s σ H _ I h) fun v s1 ⟨x,H1,I1,r1,q1⟩=>?_
  refine thn (hb pins s1 σ H1 _ I1 q1) fun u s2 ⟨y,H2,I2,r2,q2⟩=>?_
  exact hf v u s2 x y H2 I2 r1 r2 q2
theorem a0t{op:Operator}{r:R2}(ho:OpR X (binaryOp op) r)(ha:PE X a ta)(hb:PE X b tb):PE X (.BinOp a op b pos) (tOp r ta tb):=by
  intro pins s σ H Q I h
  exact wpAny_BinOp (binT ha hb I h fun v u s2 x y H2 I2 rx ry q=>ho pins s2 σ H2 x y v u Q I2 rx ry q)
theorem pe_un{op:UnaryOp}{r:V→Hp→VK→Prop}(ho:UnR X (unaryOp op) r)(ha:PE X a ta):PE X (.UnaryOp op a pos) (tUn r ta):=by
  intro pins s σ H Q I h
  exact UnaryOp_ (thn (ha pins s σ H _ I h) fun v s1 ⟨x,H1,I1,r1,q1⟩=>ho pins s1 σ H1 x v Q I1 r1 q1)
theorem opI{f:Value→Value→Sem Value}{C:Int→Int→Prop}{g:Int→Int→Int}
    (rule:∀(i j:Int) (t u:Tok) (s:Shared) (Q:Value→Shared→Prop) (E:Value→Shared→Prop),C i j→Q (.int (g i j) s.toks) { s with toks:=s.toks+1 }→wpAny (model X.prog X.w) X.A (f (.int i t) (.int j u)) Q E s) :
    OpR X f (rI C fun i j=>.int (g i j)):=by
  intro pins s σ H x y v u Q I rx ry h
  obtain⟨i,j,rfl,rfl,hc,q⟩:=h
  obtain⟨t,rfl⟩:=rx
  obtain⟨t',rfl⟩:=ry
  exact rule i j t t' s _ _ hc ⟨.int (g i j),H,I.tok _,⟨_,rfl⟩,q⟩
theorem opI0{f:Value→Value→Sem Value}{g:Int→Int→Int}
    (rule:∀(i j:Int) (t u:Tok) (s:Shared) (Q:Value→Shared→Prop) (E:Value→Shared→Prop),Q (.int (g i j) s.toks) { s with toks:=s.toks+1 }→wpAny (model X.prog X.w) X.A (f (.int i t) (.int j u)) Q E s) :
    OpR X f (rI0 fun i j=>.int (g i j)):=by
  intro pins s σ H x y v u Q I rx ry h
  obtain⟨i,j,rfl,rfl,q⟩:=h
  obtain⟨t,rfl⟩:=rx
  obtain⟨t',rfl⟩:=ry
  exact rule i j t t' s _ _ ⟨.int (g i j),H,I.tok _,⟨_,rfl⟩,q⟩
theorem opB0{f:Value→Value→Sem Value}{g:Int→Int→Bool}
    (rule:∀(i j:Int) (t u:Tok) (s:Shared) (Q:Value→Shared→Prop) (E:Value→Shared→Prop),Q (.bool (g i j)) s→wpAny (model X.prog X.w) X.A (f (.int i t) (.int j u)) Q E s) :
    OpR X f (rI0 fun i j=>.bl (g i j)):=by
  intro pins s σ H x y v u Q I rx ry h
  obtain⟨i,j,rfl,rfl,q⟩:=h
  obtain⟨t,rfl⟩:=rx
  obtain⟨t',rfl⟩:=ry
  exact rule i j t t' s _ _ ⟨.bl (g i j),H,I,rfl,q⟩
def CPow(i j:Int):Prop:=0≤j∧j≤1000000∧i.natAbs < 2 ^ 64
def CMul(i j:Int):Prop:=(-(2 ^ 64) < i∧i < 2 ^ 64)∨(-(2 ^ 64) < j∧j < 2 ^ 64)
theorem CMul.ok{i j:Int}(h:CMul i j):IntMulOk i j:=by
  rcases h with ⟨h1,h2⟩ | ⟨h1,h2⟩
  · exact .of_left (intBits_le_64 h1 h2)
  · exact .of_right (intBits_le_64 h1 h2)
theorem b0t:OpR X (binaryOp .Add) (rI0 fun i j=>.int (i+j)):=opI0 fun _ _ _ _ _ _ _ q=>add_int q
theorem g0x:OpR X (binaryOp .Sub) (rI0 fun i j=>.int (i - j)):=opI0 fun _ _ _ _ _ _ _ q=>sub_int q
theorem op_mul:OpR X (binaryOp .Mult) (rI CMul fun i j=>.int (i * j)):=opI fun _ _ _ _ _ _ _ hc q=>mul_int q hc.ok
theorem d0f:OpR X (binaryOp .Mod) (rI (fun _ j=>j≠0) fun i j=>.int (i.fmod j)):=opI fun _ _ _ _ _ _ _ hc q=>mod_int' hc q
theorem op_pow:OpR X (binaryOp .Pow) (rI CPow fun i j=>.int (i ^ j.toNat)):=opI fun _ _ _ _ _ _ _ hc q=>pow_int_small hc.1 hc.2.1 hc.2.2 q
theorem unI{f:Value→Sem Value}{g:Int→Int}
    (rule:∀(i:Int) (t:Tok) (s:Shared) (Q:Value→Shared→Prop) (E:Value→Shared→Prop),Q (.int (g i) s.toks) { s with toks:=s.toks+1 }→wpAny (model X.prog X.w) X.A (f (.int i t)) Q E s) :
    UnR X f (rU fun i=>.int (g i)):=by
  intro pins s σ H x v Q I rx h
  obtain⟨i,rfl,q⟩:=h
  obtain⟨t,rfl⟩:=rx
  exact rule i t s _ _ ⟨.int (g i),H,I.tok _,⟨_,rfl⟩,q⟩
theorem un_neg:UnR X (unaryOp .USub) (rU fun i=>.int (-i)):=unI fun _ _ _ _ _ q=>neg_int q
end
def scal:V→V→Bool
  | .non,.non=>true | .non,.int _=>true | .int _,.non=>true | .non,.bl _=>true | .bl _,.non=>true | .non,.str _=>true | .str _,.non=>true
  | .int _,.int _=>true | .bl _,.bl _=>true | .str _,.str _=>true | .byt _,.byt _=>true
  | .int _,.str _=>true | .str _,.int _=>true | .bl _,.str _=>true | .str _,.bl _=>true
  | _,_=>false
def rEq:R2:=fun x y H Q=>scal x y=true∧Q (.bl (decide (x=y))) H
def rNe:R2:=fun x y H Q=>scal x y=true∧Q (.bl (!decide (x=y))) H
theorem dec_int{i j:Int}:decide (V.int i=V.int j)=(i == j):=by
  rw[Bool.eq_iff_iff]
  simp
theorem dec_bl{i j:Bool}:decide (V.bl i=V.bl j)=(i == j):=by
  rw[Bool.eq_iff_iff]
  simp
theorem dec_str{i j:Str}:decide (V.str i=V.str j)=(i == j):=by
  rw[Bool.eq_iff_iff]
  simp
theorem dec_byt{i j:Array UInt8}:decide (V.byt i=V.byt j)=(i.toList == j.toList):=by
  rw[Bool.eq_iff_iff]
  cases i
  cases j
  simp
section
variable{X:Cx}{a b c:Expr}{ta tb tc:TE}{pos:Pos}
theorem b0f{pins:List (Addr × Obj)}{σ:St}{H:Hp}{s:Shared}{Q:VK}{k k':Bool}(I:Inv X pins σ H s)(q:Q (.bl k) H)(e:k=k'):EP X pins σ Q (.bool k') s:=by
  subst e
  exact⟨.bl k,H,I,rfl,q⟩
theorem b0d:OpR X (compareOp .Eq) rEq:=by
  intro pins s σ H x y v u Q I rx ry h
  obtain⟨hs,q⟩:=h
  cases x with
  | non=>
    cases rx
    cases y with
    | non=>cases ry;exact PySem.EqNone.eq_none_none (b0f I q (by simp))
    | bl j=>cases ry;exact PySem.EqNone.eq_none_bool (b0f I q (by simp))
    | int j=>obtain⟨t',rfl⟩:=ry;exact PySem.EqNone.eq_none_int (b0f I q (by simp))
    | str j=>obtain⟨t',rfl⟩:=ry;exact PySem.EqNone.eq_none_str (b0f I q (by simp))
    | _=>exact absurd (show false=true from hs) Bool.false_ne_true
  | bl i=>
    cases rx
    cases y with
    | non=>cases ry;exact PySem.EqNone.eq_bool_none (b0f I q (by simp))
    | bl j=>cases ry;exact eq_bool (b0f I q dec_bl)
    | str j=>obtain⟨t',rfl⟩:=ry;exact PySem.EqMixed.eq_bool_str (b0f I q (by simp))
    | _=>exact absurd (show false=true from hs) Bool.false_ne_true
  | int i=>
    obtain⟨t,rfl⟩:=rx
    cases y with
    | non=>cases ry;exact PySem.EqNone.eq_int_none (b0f I q (by simp))
    | int j=>obtain⟨t',rfl⟩:=ry;exact eq_int (b0f I q dec_int)
    | str j=>obtain⟨t',rfl⟩:=ry;exact PySem.EqMixed.eq_int_str (b0f I q (by simp))
    | _=>exact absurd (show false=true from hs) Bool.false_ne_true
  | str i=>
    obtain⟨t,rfl⟩:=rx
    cases y with
    | non=>cases ry;exact PySem.EqNone.eq_str_none (b0f I q (by simp))
    | bl j=>cases ry;exact PySem.EqMixed.eq_str_bool (b0f I q (by simp))
    | int j=>obtain⟨t',rfl⟩:=ry;exact PySem.EqMixed.eq_str_int (b0f I q (by simp))
    | str j=>obtain⟨t',rfl⟩:=ry;exact eq_str (b0f I q dec_str)
    | _=>exact absurd (show false=true from hs) Bool.false_ne_true
  | byt i=>
    obtain⟨t,rfl⟩:=rx
    cases y with
    | byt j=>obtain⟨t',rfl⟩:=ry;exact PySem.W.eq_bytes (b0f I q dec_byt)
    | _=>exact absurd (show false=true from hs) Bool.false_ne_true
  | _=>cases y <;>exact absurd (show false=true from hs) Bool.false_ne_true
theorem op_ne:OpR X (compareOp .NotEq) rNe:=by
  intro pins s σ H x y v u Q I rx ry h
  obtain⟨hs,q⟩:=h
  cases x with
  | non=>
    cases rx
    cases y with
    | non=>cases ry;exact PySem.EqNone.ne_none_none (b0f I q (by simp))
    | bl j=>cases ry;exact PySem.EqNone.ne_none_bool (b0f I q (by simp))
    | int j=>obtain⟨t',rfl⟩:=ry;exact PySem.EqNone.ne_none_int (b0f I q (by simp))
    | str j=>obtain⟨t',rfl⟩:=ry;exact PySem.EqNone.ne_none_str (b0f I q (by simp))
    | _=>exact absurd (show false=true from hs) Bool.false_ne_true
  | bl i=>
    cases rx
    cases y with
    | non=>cases ry;exact PySem.EqNone.ne_bool_none (b0f I q (by simp))
    | bl j=>cases ry;exact ne_bool (b0f I q (congrArg not dec_bl))
    | str j=>obtain⟨t',rfl⟩:=ry;exact PySem.EqMixed.ne_bool_str (b0f I q (by simp))
    | _=>exact absurd (show false=true from hs) Bool.false_ne_true
  | int i=>
    obtain⟨t,rfl⟩:=rx
    cases y with
    | non=>cases ry;exact PySem.EqNone.ne_int_none (b0f I q (by simp))
    | int j=>obtain⟨t',rfl⟩:=ry;exact ne_int (b0f I q (congrArg not dec_int))
    | str j=>obtain⟨t',rfl⟩:=ry;exact PySem.EqMixed.ne_int_str (b0f I q (by simp))
    | _=>exact absurd (show false=true from hs) Bool.false_ne_true
  | str i=>
    obtain⟨t,rfl⟩:=rx
    cases y with
    | non=>cases ry;exact PySem.EqNone.ne_str_none (b0f I q (by simp))
    | bl j=>cases ry;exact PySem.EqMixed.ne_str_bool (b0f I q (by simp))
    | int j=>obtain⟨t',rfl⟩:=ry;exact PySem.EqMixed.ne_str_int (b0f I q (by simp))
    | str j=>obtain⟨t',rfl⟩:=ry;exact ne_str (b0f I q (congrArg not dec_str))
    | _=>exact absurd (show false=true from hs) Bool.false_ne_true
  | byt i=>
    obtain⟨t,rfl⟩:=rx
    cases y with
    | byt j=>obtain⟨t',rfl⟩:=ry;exact PySem.W.ne_bytes (b0f I q (congrArg not dec_byt))
    | _=>exact absurd (show false=true from hs) Bool.false_ne_true
  | _=>cases y <;>exact absurd (show false=true from hs) Bool.false_ne_true
theorem k0f:OpR X (compareOp .Lt) (rI0 fun i j=>.bl (decide (i < j))):=opB0 fun _ _ _ _ _ _ _ q=>lt_int q
theorem op_le:OpR X (compareOp .LtE) (rI0 fun i j=>.bl (decide (i≤j))):=opB0 fun _ _ _ _ _ _ _ q=>le_int q
theorem h0p:OpR X (compareOp .Gt) (rI0 fun i j=>.bl (decide (j < i))):=opB0 fun _ _ _ _ _ _ _ q=>gt_int q
theorem h0o:OpR X (compareOp .In) (fun x y H Q=>∃i j,x=.str i∧y=.str j∧Q (.bl (!(Builtin.Str.occurrences j i 0 j.length 1).isEmpty)) H):=by
  intro pins s σ H x y v u Q I rx ry h
  obtain⟨i,j,rfl,rfl,q⟩:=h
  obtain⟨t,rfl⟩:=rx
  obtain⟨t',rfl⟩:=ry
  exact in_str (b0f I q rfl)
theorem j0d:OpR X (compareOp .Is) (fun x y H Q=>y=.non∧Q (.bl (decide (x=.non))) H):=by
  intro pins s σ H x y v u Q I rx ry h
  obtain⟨rfl,q⟩:=h
  cases ry
  refine is_none_gen (b0f I q ?_)
  cases x <;>first
    | (cases rx;rfl)
    | (obtain⟨t,rfl⟩:=rx;rfl)
theorem OpR.or{f:Value→Value→Sem Value}{r r':R2}(h:OpR X f r)(h':OpR X f r'):OpR X f (fun x y H Q=>r x y H Q∨r' x y H Q):=by
  intro pins s σ H x y v u Q I rx ry q
  rcases q with q | q
  · exact h pins s σ H x y v u Q I rx ry q
  · exact h' pins s σ H x y v u Q I rx ry q
theorem a0o(b:Expr){op:CmpOp}(h:op≠.In:=by decide)(h2:op≠.NotIn:=by decide):behindInMarks op b=false:=by
  have e1:(op == CmpOp.In)=false:=by cases op <;>first | rfl | exact absurd rfl h
  have e2:(op == CmpOp.NotIn)=false:=by cases op <;>first | rfl | exact absurd rfl h2
  cases b <;>simp[behindInMarks,e1,e2]
theorem h0n{op:CmpOp}{r:R2}(ho:OpR X (compareOp op) r)(ha:PE X a ta)(hb:PE X b tb)(hm:behindInMarks op b=false):PE X (.Compare a [op] [b] pos) (tOp r ta tb):=by
  intro pins s σ H Q I h
  exact wpAny_Compare1 (binT ha hb I h fun v u s2 x y H2 I2 rx ry q=>ho pins s2 σ H2 x y v u Q I2 rx ry q) hm
def tTest(t:TE):TT:=fun σ H Q=>t σ H fun x H'=>∃k,x=.bl k∧Q k H'
theorem a0j{op:CmpOp}{r:R2}(ho:OpR X (compareOp op) r)(ha:PE X a ta)(hb:PE X b tb)(hm:behindInMarks op b=false):PT X (.Compare a [op] [b] pos) (tTest (tOp r ta tb)):=by
  intro pins s σ H Q I h
  refine wpAny_isTrue_Compare1 (thn (ha pins s σ H _ I h) fun v s1 ⟨x,H1,I1,r1,q1⟩=>thn (hb pins s1 σ H1 _ I1 q1) fun u s2 ⟨y,H2,I2,r2,q2⟩=>
    thn (ho pins s2 σ H2 x y v u _ I2 r1 r2 q2) fun c s3 ⟨z,H3,I3,r3,k,e,q3⟩=>?_) hm
  subst e
  cases r3
  exact wpAny_truthy_bool ⟨H3,I3,q3⟩
def tChain(r r':R2)(ta tb tc:TE):TE:=fun σ H Q=>ta σ H fun x H1=>tb σ H1 fun y H2=>r x y H2 fun z H3=>∃k,z=.bl k∧
  (if k=true then tc σ H3 fun w' H4=>r' y w' H4 Q else Q (.bl false) H3)
theorem pe_chain{op op':CmpOp}{r r':R2}(ho:OpR X (compareOp op) r)(ho':OpR X (compareOp op') r')(ha:PE X a ta)(hb:PE X b tb)(hc:PE X c tc)
    (hm:lastMarks [op,op'] [b,c]=false:=by with_unfolding_all rfl):PE X (.Compare a [op,op'] [b,c] pos) (tChain r r' ta tb tc):=by
  intro pins s σ H Q I h
  refine Compare_chain (thn (ha pins s σ H _ I h) fun v s1 ⟨x,H1,I1,r1,q1⟩=>chain_link (thn (hb pins s1 σ H1 _ I1 q1) fun u s2 ⟨y,H2,I2,r2,q2⟩=>
    thn (ho pins s2 σ H2 x y v u _ I2 r1 r2 q2) fun d s3 ⟨z,H3,I3,r3,k,e,q3⟩=>?_)) hm
  subst e
  cases r3
  refine wpAny_truthy_bool ?_
  cases k with
  | false=>exact ite_ff ⟨.bl false,H3,I3,rfl,q3⟩
  | true=>exact ite_tt (chain_last (thn (hc pins s3 σ H3 _ I3 q3) fun w' s4 ⟨z',H4,I4,r4,q4⟩=>ho' pins s4 σ H4 y z' u w' Q I4 r2 r4 q4))
theorem pt_chain{op op':CmpOp}{r r':R2}(ho:OpR X (compareOp op) r)(ho':OpR X (compareOp op') r')(ha:PE X a ta)(hb:PE X b tb)(hc:PE X c tc)
    (hm:lastMarks [op,op'] [b,c]=false:=by with_unfolding_all rfl):PT X (.Compare a [op,op'] [b,c] pos) (tTest (tChain r r' ta tb tc)):=by
  intro pins s σ H Q I h
  refine isTrue_chain (thn (ha pins s σ H _ I h) fun v s1 ⟨x,H1,I1,r1,q1⟩=>test_link (thn (hb pins s1 σ H1 _ I1 q1) fun u s2 ⟨y,H2,I2,r2,q2⟩=>
    thn (ho pins s2 σ H2 x y v u _ I2 r1 r2 q2) fun d s3 ⟨z,H3,I3,r3,k,e,q3⟩=>?_)) hm
  subst e
  cases r3
  refine wpAny_truthy_bool ?_
  cases k with
  | false=>
    obtain⟨k',e',q'⟩:=q3
    cases e'
    exact ite_ff ⟨H3,I3,q'⟩
  | true=>
    refine ite_tt (test_last (thn (hc pins s3 σ H3 _ I3 q3) fun w' s4 ⟨z',H4,I4,r4,q4⟩=>thn (ho' pins s4 σ H4 y z' u w' _ I4 r2 r4 q4) fun d' s5 ⟨z2,H5,I5,r5,k2,e2,q5⟩=>?_))
    subst e2
    cases r5
    exact wpAny_truthy_bool ⟨H5,I5,q5⟩
theorem line63:(sizeLine:Nat) < 2 ^ 63:=by rw[sizeLine_eq];decide
theorem c0t:OpR X (binaryOp .Add) (fun x y H Q=>∃i j,x=.str i∧y=.str j∧i.length+j.length≤sizeLine∧Q (.str (i++j)) H):=by
  intro pins s σ H x y v u Q I rx ry h
  obtain⟨i,j,rfl,rfl,hz,q⟩:=h
  obtain⟨t,rfl⟩:=rx
  obtain⟨t',rfl⟩:=ry
  exact add_str (fun t' tk=>⟨.str (i++j),H,I.tok _,⟨_,rfl⟩,q⟩) hz
theorem vals1{x:V}{us:List Value}(r:Vals [x] us):∃u,us=[u]∧RelV x u:=by
  cases r with
  | cons r1 r2=>cases r2;exact⟨_,rfl,r1⟩
theorem l0e:CallR X (.builtin "abs") (fun xs H Q=>∃i,xs=[.int i]∧Q (.int (if i < 0 then -i else i)) H):=by
  intro pins s σ H xs us Q I r h
  obtain⟨i,rfl,q⟩:=h
  obtain⟨u,rfl,t,rfl⟩:=vals1 r
  exact call_abs_int fun u tk=>⟨.int (if i < 0 then -i else i),H,I.tok _,⟨_,rfl⟩,q⟩
theorem call_int1:CallR X (.type "int") (fun xs H Q=>(∃i,xs=[.int i]∧Q (.int i) H)∨∃k,xs=[.bl k]∧Q (.int (if k then 1 else 0)) H):=by
  intro pins s σ H xs us Q I r h
  rcases h with ⟨i,rfl,q⟩ | ⟨k,rfl,q⟩
  · obtain⟨u,rfl,t,rfl⟩:=vals1 r
    exact call_int_int ⟨.int i,H,I,⟨_,rfl⟩,q⟩
  · obtain⟨u,rfl,r1⟩:=vals1 r
    cases r1
    exact call_int_bool ⟨.int (if k then 1 else 0),H,I.tok _,⟨_,rfl⟩,q⟩
theorem d0c:CallR X (.type "str") (fun xs H Q=>∃i,xs=[.int i]∧i.natAbs.log2 < 1920∧Q (.str (toString i)) H):=by
  intro pins s σ H xs us Q I r h
  obtain⟨i,rfl,hz,q⟩:=h
  obtain⟨u,rfl,t,rfl⟩:=vals1 r
  exact PySem.P.str_of_int hz ⟨.str _,H,I.tok _,⟨_,rfl⟩,q⟩
def LenV(K:PySem.W.Frag)(x:V)(H:Hp)(n:Nat):Prop:=
  match x with
  | .str y=>y.length≤sizeLine∧n=y.length
  | .byt y=>y.size≤sizeLine∧n=y.size
  | .ref p=>(∃xs,SqL K H p xs∧n=xs.length)∨∃xs,SqT K H p xs∧n=xs.length
  | _=>False
theorem b0u:CallR X (.builtin "len") (fun xs H Q=>∃x n,xs=[x]∧LenV X.K x H n∧Q (.int n) H):=by
  intro pins s σ H xs us Q I r h
  obtain⟨x,n,rfl,e,q⟩:=h
  obtain⟨u,rfl,rx⟩:=vals1 r
  have hl:=line63
  have hs:sizeLine=16777216:=sizeLine_eq
  cases x with
  | str y=>
    obtain⟨t,rfl⟩:=rx
    obtain⟨hy,e'⟩:y.length≤sizeLine∧n=y.length:=e
    subst e'
    exact len_str (by omega) ⟨.int _,H,I.tok _,⟨_,rfl⟩,q⟩
  | byt y=>
    obtain⟨t,rfl⟩:=rx
    obtain⟨hy,e'⟩:y.size≤sizeLine∧n=y.size:=e
    subst e'
    exact PySem.W.len_bytes (by omega) ⟨.int _,H,I.tok _,⟨_,rfl⟩,q⟩
  | ref p=>
    cases rx
    have e':(∃xs,SqL X.K H p xs∧n=xs.length)∨∃xs,SqT X.K H p xs∧n=xs.length:=e
    rcases e' with ⟨xs,hx,e'⟩ | ⟨xs,hx,e'⟩
    · subst e'
      obtain⟨its,r',pl,hz⟩:=I.list hx
      have hlen:=r'.length
      exact Calls.call_len_list pl.isList (by simp only[List.size_toArray];omega) ⟨.int xs.length,H,I.tok _,⟨_,by simp only[List.size_toArray];rw[hlen]⟩,q⟩
    · subst e'
      obtain⟨its,r',pl,hz⟩:=I.tuple hx
      have hlen:=r'.length
      exact len_tuple pl (by simp only[List.size_toArray];omega) ⟨.int xs.length,H,I.tok _,⟨_,by simp only[List.size_toArray];rw[hlen]⟩,q⟩
  | _=>exact(show False from e).elim
end
end L2
namespace L2
open PySem PySem.Spec PyProof.Rows
structure ObjM(h:Heap)(x dx C:Addr)(mA:Str→Option Value):Prop where
  obj:h.get? x=some (PySem.W.instObj C dx)
  ns:h.Ns1 dx mA
  ne:dx≠x
theorem lookIn_ns{h:Heap}{dx:Addr}{mA:Str→Option Value}(n:h.Ns1 dx mA):∃od,h.get? dx=some od∧∀name,PySem.W.lookIn name od=some (mA name):=by
  obtain⟨o,es,ep,ho,hd,hk,_,hm⟩:=n
  refine⟨o,ho,fun name=>?_⟩
  have e:=hm name
  unfold nsFind findBy at e
  rw[← Array.find?_toList]at e
  unfold PySem.W.lookIn
  rw[hd]
  dsimp only
  split
  · rename_i y q
    rw[q]at e
    exact congrArg some e
  · rename_i q
    rw[q]at e
    have a:es.toList.any (·.refKey)=false:=by
      rw[List.any_eq_false]
      intro y hy
      obtain⟨z,t,hkey⟩:=hk y (Array.mem_toList_iff.mp hy)
      simp[DictEntry.refKey,hkey]
    have a':¬es.toList.any (·.refKey)=true:=by rw[a];exact Bool.false_ne_true
    rw[if_neg a']
    exact congrArg some e
theorem ObjM.look{h:Heap}{x dx C:Addr}{mA:Str→Option Value}(I:ObjM h x dx C mA):∃od,PySem.W.InstAt h x (PySem.W.instObj C dx) C (some od)∧∀name,PySem.W.lookIn name od=some (mA name):=
  let⟨od,ho,hl⟩:=lookIn_ns I.ns
  ⟨od,⟨I.obj,rfl,rfl,ho⟩,hl⟩
section
variable{prog:Program}{w:World}{A:Around}{E:Value→Shared→Prop}{s:Shared}{K:PySem.W.Frag}{x dx C f:Addr}{mA:Str→Option Value}{name:Str}{v:Value}
theorem get_map{expr:Bool}{Q:Value→Shared→Prop}(X:K.In s.heap)(I:ObjM s.heap x dx C mA)(hg:PySem.W.plainGet K C name=true)(hh:PySem.W.hasDictIn K C=true)
    (ha:PySem.W.findIn K (.ref C) name=some none) (hv:mA name=some v) (hv':PySem.W.handedIn v=true) (h:Q v { s with toks:=s.toks+1 }) :
    wpAny (model prog w) A (getAttr (.ref x) name expr) Q E s:=by
  obtain⟨od,J,hl⟩:=I.look
  exact PySem.W.get_value X J (PySem.W.plainGet_of hg).1 (PySem.W.findObj_own hh ha rfl (by rw[hl,hv])) hv' h
theorem get_meth{pl:Sem Bool}{Q:Value × List Value→Shared→Prop}(X:K.In s.heap)(I:ObjM s.heap x dx C mA)(hg:PySem.W.plainGet K C name=true)
    (hf:PySem.W.findIn K (.ref C) name=some (some (.ref f))) (ht:PySem.W.isFn K (.ref f)=true) (hv:mA name=none) (h:Q (.ref f,[.ref x]) s) :
    wpAny (model prog w) A (getMethod (.ref x) name pl) Q E s:=by
  obtain⟨od,J,hl⟩:=I.look
  exact PySem.W.method_fn X J (PySem.W.plainGet_of hg).1 (PySem.W.plainGet_of hg).2 hf (beq_iff_eq.mp ht) (by show(PySem.W.lookIn name od).map (·.isSome)=some false;rw[hl,hv];rfl) h
theorem set_map{ns:List Str}{Q:Unit→Shared→Prop}(X:K.In s.heap)(I:ObjM s.heap x dx C mA)
    (hs:PySem.W.findIn K (.ref C) "__setattr__"=some (some (.builtin "object.__setattr__"))) (hp:PySem.W.plainOver K C=true) (ht:PySem.W.takerIn K C name=some none) (hh:PySem.W.hasDictIn K C=true)
    (hw:PySem.Within mA ns) (hsz:ns.length≤sizeLine)
    (h:∀h',ObjM h' x dx C (fun y=>if y=name then some v else mA y)→Heap.SameBut dx s.heap h'→Q () { s with heap:=h',toks:=s.toks+2 }) :
    wpAny (model prog w) A (setAttr (.ref x) name v) Q E s:=by
  obtain⟨od,J,hl⟩:=I.look
  refine PySem.W.set_plain X J hs (PySem.W.osa_open (s:={ s with toks:=s.toks+1 }) (r:=none) X J hp ht fun b=>?_)
  obtain⟨cd,hc,hd'⟩:=PySem.W.any_some hh
  have hx:s.heap.get? x=some ⟨.ref C,some dx,.plain,#[]⟩:=I.obj
  refine wpAny_bind (wpAny_pure (wpAny_bind (wpAny_bind (wpAny_loadPart hx (wpAny_bind (PySem.W.Looks.here (s:={ s with toks:=s.toks+1 }) (PySem.W.looks_clsIn X hc) ?_))))))
  rw[hd']
  refine wpAny_pure (a:=some dx) (wpAny_bind (wpAny_pure (wpAny_bind ?_)))
  refine wpAny_nsSet1 (s:={ s with toks:=s.toks+1 }) I.ns fun h' hn2 hs2=>?_
  obtain⟨oD,esD,epD,hoD,hdD,hcD⟩:=hn2.count (PySem.Within.cons name v hw)
  refine wpAny_bind (wpAny_lookBehind hoD (by rw[hdD];exact pastItsLine_dict (Nat.le_trans hcD (by rw[List.length_cons];omega))) ?_)
  exact wpAny_pure (h _ ⟨(hs2.2 _ (Ne.symm I.ne)).trans I.obj,hn2,I.ne⟩ hs2)
theorem make_map{R:Result→Shared→Prop}{vs:List Value}{kw:List (Str × Value)}(X:K.In s.heap)(hm:PySem.W.makesIn K C=true)
    (hi:PySem.W.findIn K (.ref C) "__init__"=some (some (.ref f))) (hf:PySem.W.typeIn K (.ref f)=some (.type "function"))
    (h:codeAny (model prog w) (A.under (.builtin "type.__call__" ⟨.ref C::vs,kw⟩)) (.call (.ref f) ⟨.ref (s.heap.objs.size+1)::vs,kw⟩) (PySem.W.InitBack (s.heap.objs.size+1) R)
      { s with heap:=(s.heap.push PySem.W.emptyDict).push (PySem.W.instObj C s.heap.objs.size) }) :
    codeAny (model prog w) A (.call (.ref C) ⟨vs,kw⟩) R s:=by
  obtain⟨hh,g,d,t,os⟩:=s
  exact PySem.W.make_core (PySem.W.makes_of X hm) (PySem.W.looks_findIn X hi) (fun self=>PySem.W.bind_fn X self hf) (.inl rfl) h
theorem make_map0{R:Result→Shared→Prop}(X:K.In s.heap)(hm:PySem.W.makesIn K C=true)
    (hi:PySem.W.findIn K (.ref C) "__init__"=some (some (.builtin "object.__init__")))
    (hb:∀self,PySem.W.Looks (model prog w) s.heap (bindSpecial (.builtin "object.__init__") self) (.builtin "object.__init__",[self]))
    (h:codeAny (model prog w) (A.under (.builtin "type.__call__" ⟨[.ref C],[]⟩)) (.call (.builtin "object.__init__") ⟨[.ref (s.heap.objs.size+1)],[]⟩) (PySem.W.InitBack (s.heap.objs.size+1) R)
      { s with heap:=(s.heap.push PySem.W.emptyDict).push (PySem.W.instObj C s.heap.objs.size) }) :
    codeAny (model prog w) A (.call (.ref C) ⟨[],[]⟩) R s:=by
  obtain⟨hh,g,d,t,os⟩:=s
  exact PySem.W.make_core (PySem.W.makes_of X hm) (PySem.W.looks_findIn X hi) hb (.inr ⟨rfl,rfl⟩) h
end
def putF(f:Str)(v:V):List (Str × V)→List (Str × V)
  | []=>[(f,v)]
  | (g,x)::r=>if g=f then(g,v)::r else(g,x)::putF f v r
theorem f0j(f g:Str)(v:V):∀fs:List (Str × V),(putF f v fs).lookup g=if g=f then some v else fs.lookup g
  | []=>by
    show List.lookup g [(f,v)]=_
    by_cases h:g=f
    · have hb:(g == f)=true:=beq_iff_eq.mpr h
      simp only[List.lookup,hb,if_pos h]
    · have hb:(g == f)=false:=beq_eq_false_iff_ne.mpr h
      simp only[List.lookup,hb,if_neg h]
  | (k,x)::r=>by
    have ih:=f0j f g v r
    rw[show putF f v ((k,x)::r)=(if k=f then(k,v)::r else(k,x)::putF f v r)from rfl]
    by_cases hk:k=f
    · rw[if_pos hk]
      by_cases h:g=k
      · have hb:(g == k)=true:=beq_iff_eq.mpr h
        simp only[List.lookup,hb,if_pos (h.trans hk)]
      · have hb:(g == k)=false:=beq_eq_false_iff_ne.mpr h
        simp only[List.lookup,hb,if_neg (fun e:g=f=>h (e.trans hk.symm))]
    · rw[if_neg hk]
      by_cases h:g=k
      · have hb:(g == k)=true:=beq_iff_eq.mpr h
        simp only[List.lookup,hb,if_neg (fun e:g=f=>hk (h.symm.trans e))]
      · have hb:(g == k)=false:=beq_eq_false_iff_ne.mpr h
        simp only[List.lookup,hb]
        exact ih
theorem i0d(f:Str)(v:V):∀fs:List (Str × V),f∈(putF f v fs).map (·.1)∧∀g,g∈fs.map (·.1)→g∈(putF f v fs).map (·.1)
  | []=>⟨by simp[putF],fun g h=>by simp at h⟩
  | (k,x)::r=>by
    obtain⟨i1,i2⟩:=i0d f v r
    rw[show putF f v ((k,x)::r)=(if k=f then(k,v)::r else(k,x)::putF f v r)from rfl]
    by_cases hk:k=f
    · rw[if_pos hk]
      subst hk
      exact⟨by simp,fun g h=>by simpa using h⟩
    · rw[if_neg hk]
      refine⟨?_,fun g h=>?_⟩
      · rw[List.map_cons]
        exact List.mem_cons_of_mem _ i1
      · rw[List.map_cons]at h ⊢
        rcases List.mem_cons.mp h with e | e
        · exact List.mem_cons.mpr (.inl e)
        · exact List.mem_cons_of_mem _ (i2 g e)
theorem i0c(f:Str)(v:V):∀fs:List (Str × V),(putF f v fs).length≤fs.length+1
  | []=>by simp[putF]
  | (k,x)::r=>by
    have ih:=i0c f v r
    rw[show putF f v ((k,x)::r)=(if k=f then(k,v)::r else(k,x)::putF f v r)from rfl]
    by_cases hk:k=f
    · rw[if_pos hk,List.length_cons,List.length_cons];omega
    · rw[if_neg hk,List.length_cons,List.length_cons];omega
theorem RelO.some_of{v:V}{o:Option Value}(r:RelO (some v) o):∃u,o=some u∧RelV v u:=by
  cases o with
  | none=>exact(show False from r).elim
  | some u=>exact⟨u,rfl,r⟩
theorem RelO.none_of{o:Option Value}(r:RelO none o):o=none:=by
  cases o with
  | none=>rfl
  | some u=>exact(show False from r).elim
theorem handed_of{v:V}{u:Value}(r:RelV v u):PySem.W.handedIn u=true:=by
  cases v with
  | non=>cases (show u=Value.none from r);rfl
  | bl b=>cases (show u=Value.bool b from r);rfl
  | int i=>obtain⟨t,e⟩:=(show ∃t,u=Value.int i t from r);cases e;rfl
  | str x=>obtain⟨t,e⟩:=(show ∃t,u=Value.str x t from r);cases e;rfl
  | byt b=>obtain⟨t,e⟩:=(show ∃t,u=Value.bytes b t from r);cases e;rfl
  | flt b=>obtain⟨t,e⟩:=(show ∃t,u=Value.float b t from r);cases e;rfl
  | ref a=>cases (show u=Value.ref a from r);rfl
  | ty n=>cases (show u=Value.type n from r);rfl
section
variable{P:Program}{w:World}{H H':Hp}{h h':Heap}{a C dx:Addr}{fs fs':List (Str × V)}
theorem k0x(hok:HOk P w H h)(e:H a=some (.ins C dx fs)):∃mA,ObjM h a dx C mA∧(∀f,RelO (fs.lookup f) (mA f))∧PySem.Within mA (fs.map (·.1))∧fs.length≤1000∧H dx=some (.own a):=by
  obtain⟨d,z,ne,ob,mA,n,r,q⟩:=(show ObjOk P w H h a (.ins C dx fs)from hok a _ e)
  exact⟨mA,⟨ob,n,ne⟩,r,q,z,d⟩
end
structure Cls(K:PySem.W.Frag)(C:Addr):Prop where
  pg:PySem.W.plainGet K C Str.empty=true
  hd:PySem.W.hasDictIn K C=true
  po:PySem.W.plainOver K C=true
  sa:PySem.W.findIn K (.ref C) "__setattr__"=some (some (.builtin "object.__setattr__"))
theorem Cls.get{K:PySem.W.Frag}{C:Addr}(c:Cls K C)(f:Str):PySem.W.plainGet K C f=true:=c.pg
def NoAttr(K:PySem.W.Frag)(C:Addr)(f:Str):Prop:=PySem.W.findIn K (.ref C) f=some none
theorem NoAttr.taker{K:PySem.W.Frag}{C:Addr}{f:Str}(n:NoAttr K C f):PySem.W.takerIn K C f=some none:=by
  unfold PySem.W.takerIn
  rw[show PySem.W.findIn K (.ref C) f=some none from n]
  rfl
structure Con(K:PySem.W.Frag)(C:Addr)(f:Str)(v:V)(u:Value):Prop where
  at_:PySem.W.findIn K (.ref C) f=some (some u)
  rel:RelV v u
  get:PySem.W.specialIn K u "__get__"=some none
  cp:PySem.W.copiedNames.contains f=false
structure Meth(K:PySem.W.Frag)(C:Addr)(m:Str)(f:Addr):Prop where
  at_:PySem.W.findIn K (.ref C) m=some (some (.ref f))
  fn:PySem.W.isFn K (.ref f)=true
  kp:PySem.W.keepIn K (.ref f)=true
section
variable{X:Cx}{pins:List (Addr × Obj)}{σ:St}{H:Hp}{s:Shared}{a C dx:Addr}{fs:List (Str × V)}{f:Str}{v:V}{A:Around}{E:Value→Shared→Prop}
theorem getattr_ok{b:Bool}{Q:Value→Shared→Prop}(I:Inv X pins σ H s)(e:H a=some (.ins C dx fs))(c:Cls X.K C)(n:NoAttr X.K C f)(l:fs.lookup f=some v)
    (h:∀u s',Inv X pins σ H s'→RelV v u→Q u s'):wpAny (model X.prog X.w) A (getAttr (.ref a) f b) Q E s:=by
  obtain⟨mA,O,r,_,_,_⟩:=k0x I.hok e
  obtain⟨u,hu,ru⟩:=RelO.some_of (v:=v) (o:=mA f) (by rw[← l];exact r f)
  exact get_map I.kIn O (c.get f) c.hd n hu (handed_of ru) (h u _ (I.tok _) ru)
theorem j0h{m:Str}{g:Addr}{pl:Sem Bool}{Q:Value × List Value→Shared→Prop}(I:Inv X pins σ H s)(e:H a=some (.ins C dx fs))(c:Cls X.K C)(k:Meth X.K C m g)(l:fs.lookup m=none)
    (h:Q (.ref g,[.ref a]) s):wpAny (model X.prog X.w) A (getMethod (.ref a) m pl) Q E s:=by
  obtain⟨mA,O,r,_,_,_⟩:=k0x I.hok e
  have hn:mA m=none:=RelO.none_of (by rw[← l];exact r m)
  exact get_meth I.kIn O (c.get m) k.at_ k.fn hn h
theorem setattr_ok{y:V}{u:Value}{Q:Unit→Shared→Prop}(I:Inv X pins σ H s)(e:H a=some (.ins C dx fs))(c:Cls X.K C)(n:NoAttr X.K C f)(hl:fs.length < 1000)(ry:RelV y u)
    (h:∀s',Inv X pins σ (upd H a (.ins C dx (putF f y fs))) s'→Q () s'):wpAny (model X.prog X.w) A (setAttr (.ref a) f u) Q E s:=by
  obtain⟨mA,O,r,wi,_,ho⟩:=k0x I.hok e
  have hz:(fs.map (·.1)).length≤sizeLine:=by rw[List.length_map,sizeLine_eq];omega
  refine set_map I.kIn O c.sa c.po n.taker c.hd wi hz fun h' O' sb=>h _ ?_
  have hd:∃o,h'.get? dx=some o:=let⟨o,_,_,e',_⟩:=O'.ns;⟨o,e'⟩
  refine I.write (x:=a) (e:=dx) (by rw[e];exact True.intro) (.inr ho) (fun b q hb z=>(sb.2 b hb).trans z) hd ?_
  refine⟨by rw[a0v O.ne];exact ho,?_,O.ne,O'.obj,_,O'.ns,fun g=>?_,fun g hg=>?_⟩
  · have:=i0c f y fs;omega
  · show RelO ((putF f y fs).lookup g) (if g=f then some u else mA g)
    rw[f0j]
    by_cases q:g=f
    · rw[if_pos q,if_pos q];exact ry
    · rw[if_neg q,if_neg q];exact r g
  · by_cases q:g=f
    · rw[q];exact(i0d f y fs).1
    · refine(i0d f y fs).2 g (wi g fun z=>hg ?_)
      show(if g=f then some u else mA g)=none
      rw[if_neg q];exact z
theorem Inv.made(I:Inv X pins σ H s):Inv X pins σ (upd (upd H s.heap.objs.size (.own (s.heap.objs.size+1))) (s.heap.objs.size+1) (.ins C s.heap.objs.size []))
    { s with heap:=(s.heap.push PySem.W.emptyDict).push (PySem.W.instObj C s.heap.objs.size) }:=by
  have e1:(s.heap.push PySem.W.emptyDict).get? s.heap.objs.size=some PySem.W.emptyDict:=Heap.get?_push_size s.heap rfl
  have e2:((s.heap.push PySem.W.emptyDict).push (PySem.W.instObj C s.heap.objs.size)).get? (s.heap.objs.size+1)=some (PySem.W.instObj C s.heap.objs.size):=by
    have:=Heap.get?_push_size (s.heap.push PySem.W.emptyDict) (o:=PySem.W.instObj C s.heap.objs.size) rfl
    rwa [Heap.size_push]at this
  have e3:(s.heap.push PySem.W.emptyDict).Ns s.heap.objs.size (fun _=>none):=⟨PySem.W.emptyDict,#[],_,e1,rfl,(fun e he=>absurd he (by simp)),fun _=>rfl⟩
  have I1:=I.laid (a:=s.heap.objs.size) (o:=.own (s.heap.objs.size+1)) (h':=s.heap.push PySem.W.emptyDict) (t':=s.toks) (fun b u q=>Heap.get?_push_of_some _ q) (Nat.le_refl _) ⟨_,e1⟩
  refine I1.laid (a:=s.heap.objs.size+1) (o:=.ins C s.heap.objs.size []) (t':=s.toks) (fun b u q=>Heap.get?_push_of_some _ q) (Nat.le_of_eq (Heap.size_push _ _)) ?_
  have ne:s.heap.objs.size≠s.heap.objs.size+1:=Nat.ne_of_lt (Nat.lt_succ_self _)
  refine⟨by rw[a0v ne,a0b],Nat.zero_le _,ne,e2,fun _=>none,(Heap.Ns1.of_empty e3).at fun o q=>Heap.get?_push_of_some _ q,fun _=>True.intro,fun y hy=>absurd rfl hy⟩
theorem attr_of{prog:Program}{w:World}{env:Env}{e:Expr}{f:Str}{pos:Pos}{s:Shared}{Q:Value→Shared→Prop}(hb:attributeBase e f env (eval e env)=eval e env)
    (h:wpAny (model prog w) A (eval e env) (fun o s₁=>wpAny (model prog w) A (getAttr o f true) Q E s₁) E s):wpAny (model prog w) A (eval (.Attribute e f pos) env) Q E s:=
  Attribute_any_ h (by rw[arm_eval_Attribute,hb])
end
def tFld(K:PySem.W.Frag)(ta:TE)(f:Str):TE:=fun σ H Q=>ta σ H fun x H1=>∃a C dx fs v,x=.ref a∧H1 a=some (.ins C dx fs)∧Cls K C∧NoAttr K C f∧fs.lookup f=some v∧Q v H1
def sFld(K:PySem.W.Frag)(ta tv:TE)(f:Str):TS:=fun D σ H=>tv σ H fun y H1=>ta σ H1 fun x H2=>∃a C dx fs,x=.ref a∧H2 a=some (.ins C dx fs)∧Cls K C∧NoAttr K C f∧fs.length < 1000∧
  D.nx σ (upd H2 a (.ins C dx (putF f y fs)))
section
variable{X:Cx}{o e value:Expr}{f:Str}{pos pos' tpos:Pos}{ta tv:TE}
theorem pe_fld(he:PE X e ta)(hb:attributeBase e f X.env (eval e X.env)=eval e X.env):PE X (.Attribute e f pos) (tFld X.K ta f):=by
  intro pins s σ H Q I h
  refine attr_of hb (thn (he pins s σ H _ I h) fun u s1 ⟨x,H1,I1,rx,a,C,dx,fs,v,ex,ea,c,n,l,q⟩=>?_)
  subst ex
  obtain rfl:u=Value.ref a:=rx
  exact getattr_ok I1 ea c n l fun u' s2 I2 ru=>⟨v,H1,I2,ru,q⟩
theorem ps_fld(ha:PE X o ta)(hv:PE X value tv)(hs:swapsWith value (some (.Attribute o f pos')) pos.line X.env=pure false):PS X (.Assign [.Attribute o f pos'] value pos) (sFld X.K ta tv f):=by
  intro pins s σ H D I h
  refine plainObj_wpAny_Assign_Attribute (thn (hv pins s σ H _ I h) fun u s1 ⟨y,H1,I1,ry,q⟩=>thn (ha pins s1 σ H1 _ I1 q) fun ov s2 ⟨x,H2,I2,rx,a,C,dx,fs,ex,ea,c,n,l,q2⟩=>?_) hs
  subst ex
  obtain rfl:ov=Value.ref a:=rx
  exact setattr_ok I2 ea c n l ry fun s3 I3=>⟨σ,_,I3,q2⟩
end
section
variable{X:Cx}{pins:List (Addr × Obj)}{σ:St}{H:Hp}{s:Shared}{A:Around}{E:Value→Shared→Prop}{Q:Value→Shared→Prop}{c:Value}{b:Bool}
inductive TyOf(K:PySem.W.Frag)(H:Hp):V→Value→Prop where
  | non:TyOf K H .non (.type "NoneType")
  | bl (x:Bool):TyOf K H (.bl x) (.type "bool")
  | int (i:Int):TyOf K H (.int i) (.type "int")
  | str (x:Str):TyOf K H (.str x) (.type "str")
  | flt (x:UInt64):TyOf K H (.flt x) (.type "float")
  | lst {a:Addr} {xs:List V} (e:H a=some (.lst xs)):TyOf K H (.ref a) (.type "list")
  | frz {a:Addr} {o:Obj} {xs:List V} (e:H a=some (.frz o (.lst xs))):TyOf K H (.ref a) (.type "list")
  | tup {a:Addr} {xs:List V} (e:H a=some (.tup xs)):TyOf K H (.ref a) (.type "tuple")
  | dK {a:Addr} {kvs:List (Key × V)} (e:H a=some (.dK kvs)):TyOf K H (.ref a) (.type "dict")
  | dT {a:Addr} {kvs:List (List Key × V)} (e:H a=some (.dT kvs)):TyOf K H (.ref a) (.type "dict")
  | ins {a C dx:Addr} {fs:List (Str × V)} (e:H a=some (.ins C dx fs)) (cl:Cls K C) (ha:PySem.W.findIn K (.ref C) "__class__"=some (some (.builtin "object.__class__")))
      (hn:PySem.W.specialIn K (.builtin "object.__class__") "__get__"=some (some (.builtin "getset_descriptor.__get__"))) (htk:PySem.W.takesIn K (.builtin "object.__class__")=some true)
      (hm:PySem.W.mroIn K C (.type "object")=some true):TyOf K H (.ref a) (.ref C)
theorem isinst_ok{x:V}{u t:Value}(I:Inv X pins σ H s)(rx:RelV x u)(ty:TyOf X.K H x t)(e:PySem.W.kitOne X.K t c=some b)(h:∀tk,Q (.bool b) { s with toks:=tk }) :
    wpAny (model X.prog X.w) A (call (.builtin "isinstance") [u,c]) Q E s:=by
  cases ty with
  | non=>cases (show u=Value.none from rx);exact PySem.W.kia_one PySem.W.kitx_none I.kIn True.intro e (fun z=>nomatch z) h
  | bl y=>cases (show u=Value.bool y from rx);exact PySem.W.kia_one PySem.W.kitx_bool I.kIn True.intro e (fun z=>nomatch z) h
  | int i=>obtain⟨t,q⟩:=(show ∃t,u=Value.int i t from rx);cases q;exact PySem.W.kia_one PySem.W.kitx_int I.kIn True.intro e (fun z=>nomatch z) h
  | str y=>obtain⟨t,q⟩:=(show ∃t,u=Value.str y t from rx);cases q;exact PySem.W.kia_one PySem.W.kitx_str I.kIn True.intro e (fun z=>nomatch z) h
  | flt y=>obtain⟨t,q⟩:=(show ∃t,u=Value.float y t from rx);cases q;exact PySem.W.kia_one PySem.W.kitx_float I.kIn True.intro e (fun z=>nomatch z) h
  | @lst a xs ea=>
    cases (show u=Value.ref a from rx)
    obtain⟨_,_,n,_,h1⟩:=(show ObjOk X.prog X.w H s.heap a (.lst xs)from I.hok a _ ea)
    exact PySem.W.kia_one PySem.W.kitx_list I.kIn ⟨_,h1,rfl⟩ e (fun z=>nomatch z) h
  | @frz a ob xs ea=>
    cases (show u=Value.ref a from rx)
    obtain⟨_,_,_,n,_,h1⟩:=(show ObjOk X.prog X.w H s.heap a (.frz ob (.lst xs))from I.hok a _ ea)
    exact PySem.W.kia_one PySem.W.kitx_list I.kIn ⟨_,h1,rfl⟩ e (fun z=>nomatch z) h
  | @tup a xs ea=>
    cases (show u=Value.ref a from rx)
    obtain⟨_,_,_,p,_⟩:=(show ObjOk X.prog X.w H s.heap a (.tup xs)from I.hok a _ ea)
    obtain⟨o,h1,h2,_⟩:=p
    exact PySem.W.kia_one PySem.W.kitx_tuple I.kIn ⟨o,h1,h2⟩ e (fun z=>nomatch z) h
  | @dK a kvs ea=>
    cases (show u=Value.ref a from rx)
    obtain⟨_,_,vs,_,p⟩:=(show ObjOk X.prog X.w H s.heap a (.dK kvs)from I.hok a _ ea)
    obtain⟨o,es,ep,h1,h2,_⟩:=p
    exact PySem.W.kia_one PySem.W.kitx_dict I.kIn ⟨o,h1,h2.1⟩ e (fun z=>nomatch z) h
  | @dT a kvs ea=>
    cases (show u=Value.ref a from rx)
    obtain⟨_,_,xs,_,o,es,ep,h1,h2,_⟩:=(show ObjOk X.prog X.w H s.heap a (.dT kvs)from I.hok a _ ea)
    exact PySem.W.kia_one PySem.W.kitx_dict I.kIn ⟨o,h1,h2.1⟩ e (fun z=>nomatch z) h
  | @ins a C dx fs ea cl ha hn htk hm=>
    cases (show u=Value.ref a from rx)
    obtain⟨mA,O,_⟩:=k0x I.hok ea
    obtain⟨od,J,_⟩:=O.look
    exact PySem.W.kia_one (PySem.W.kitx_own (cl.get _) cl.hd ha hn htk hm) I.kIn J e (fun z=>nomatch z) h
end
end L2
namespace L2
open PySem PySem.Spec PyProof.Rows
structure Room(k:Nat)(A:Around):Prop where
  hd:A.handled=none
  dp:A.depth+3 * k+5 < recursionLimit
  un:A.units+16 * k+200 < cLine
theorem Room.mono{j k:Nat}{A:Around}(r:Room k A)(h:j≤k):Room j A:=⟨r.hd,by have:=r.dp;omega,by have:=r.un;omega⟩
theorem Room.deeper{k:Nat}{A:Around}(r:Room (k+1) A)(env:Env):Room k (A.deeper env):=
  ⟨r.hd,by have:=r.dp;show A.depth+1+3 * k+5 < _;omega,by have:=r.un;show A.units+3+16 * k+200 < _;omega⟩
theorem Room.in1{k:Nat}{A:Around}(r:Room (k+1) A):Room k A.in1:=
  ⟨r.hd,by have:=r.dp;show A.depth+3 * k+5 < _;omega,by have:=r.un;show A.units+1+16 * k+200 < _;omega⟩
theorem make_depth{A:Around}{C:Addr}{us:List Value}{kw:List (Str × Value)}:(A.under (.builtin "type.__call__" ⟨.ref C::us,kw⟩)).depth=A.depth+1:=by
  first | rfl | simp[Around.under,Code.weight,Code.isCreation,Code.isGuard,Code.isCaller,Code.frames,Code.isFrame,guardIds]
theorem make_units{A:Around}{C:Addr}{us:List Value}{kw:List (Str × Value)}:(A.under (.builtin "type.__call__" ⟨.ref C::us,kw⟩)).units=A.units+1:=by
  first | rfl | simp[Around.under,Code.cUnits,Code.frames,Code.isFrame]
theorem Room.make{k:Nat}{A:Around}(r:Room (k+1) A)(C:Addr)(us:List Value)(kw:List (Str × Value)):Room k (A.under (.builtin "type.__call__" ⟨.ref C::us,kw⟩)):=
  ⟨r.hd,by have:=r.dp;rw[make_depth];omega,by have:=r.un;rw[make_units];omega⟩
theorem Room.depth{k:Nat}{A:Around}(r:Room k A):A.depth < recursionLimit:=by have:=r.dp;omega
theorem Room.units{k:Nat}{A:Around}(r:Room k A):A.units+64 < cLine:=by have:=r.un;omega
def tNil:TA:=fun _ H Q=>Q [] H
def tCons(ta:TE)(tr:TA):TA:=fun σ H Q=>ta σ H fun x H1=>tr σ H1 fun xs H2=>Q (x::xs) H2
section
variable{X:Cx}{e:Expr}{es:List Expr}{te:TE}{t:TA}{pos:Pos}
theorem a0e:PA X [] tNil:=fun _ _ _ _ H Q I h=>Calls.spliced_nil ⟨[],H,I,.nil,h⟩
theorem a0a(ha:PE X e te)(hr:PA X es t)(hs:starEach (e::es) X.env=(false,eval e X.env)::starEach es X.env:=by rfl):PA X (e::es) (tCons te t):=by
  intro pos pins s σ H Q I h
  rw[hs]
  show wpAny _ _ (spliced ((false,eval e X.env)::backTo pos (starEach es X.env))) _ _ s
  refine Calls.spliced_cons (thn (ha pins s σ H _ I h) fun u s1 ⟨x,H1,I1,r1,q1⟩=>?_)
  exact thn (hr pos pins s1 σ H1 _ I1 q1) fun us s2 ⟨xs,H2,I2,r2,q2⟩=>⟨x::xs,H2,I2,.cons r1 r2,q2⟩
def tTup(t:TA):TE:=fun σ H Q=>t σ H fun xs H1=>xs.length≤sizeLine∧∀p,H1 p=none→Q (.ref p) (upd H1 p (.tup xs))
def tLst(t:TA):TE:=fun σ H Q=>t σ H fun xs H1=>xs.length≤sizeLine∧∀p,H1 p=none→Q (.ref p) (upd H1 p (.lst xs))
theorem b0i{x1}(h:PA X es t):PE X (.Tuple es x1 pos) (tTup t):=by
  intro pins s σ H Q I hq
  refine wpAny_Tuple_spliced (thn (h pos pins s σ H _ I hq) fun us s1 ⟨xs,H1,I1,r,z,q⟩=>⟨by rw[← r.length];exact z,?_⟩)
  have hf:H1 s1.heap.objs.size=none:=I1.hok.fresh (Nat.le_refl _)
  refine⟨.ref s1.heap.objs.size,upd H1 s1.heap.objs.size (.tup xs),I1.laid (t':=s1.toks) (fun b u e=>Heap.get?_push_of_some _ e) (Nat.le_refl _) ?_,rfl,q _ hf⟩
  exact⟨z,us,r,⟨_,Heap.get?_push_size _ rfl,rfl,_,rfl⟩,fun _=>⟨_,Heap.get?_push_size _ rfl,rfl⟩⟩
theorem a0y(h:PA X es t):PE X (.List es pos) (tLst t):=by
  intro pins s σ H Q I hq
  refine wpAny_List_spliced (thn (h pos pins s σ H _ I hq) fun us s1 ⟨xs,H1,I1,r,z,q⟩=>⟨by rw[← r.length];exact z,?_⟩)
  have hf:H1 s1.heap.objs.size=none:=I1.hok.fresh (Nat.le_refl _)
  refine⟨.ref s1.heap.objs.size,upd H1 s1.heap.objs.size (.lst xs),I1.laid (t':=s1.toks) (fun b u e=>Heap.get?_push_of_some _ e) (Nat.le_refl _) ?_,rfl,q _ hf⟩
  exact⟨z,us,0,r,Heap.get?_push_size _ rfl⟩
end
abbrev Sp:=List V→Hp→VK→XK→Prop
abbrev CXT:=List Env→Hp→Shared→XK→Value→Shared→Prop
structure Env0(P:Program)(w:World)(K:PySem.W.Frag)(mg:Str→Option Value)(base:Heap)(A:Around)(outer:List Env)(s:Shared)(H:Hp):Prop where
  frames:A.frames=some outer
  mod:Mod K mg base
  bs:∀b o,base.get? b=some o→s.heap.get? b=some o∧H b=none
  bsz:base.objs.size≤s.heap.objs.size
  funs:s.heap.FunFrames base outer
  frf:∀b∈frs outer,H b=none
  hok:HOk P w H s.heap
  bare:AllBare s.gens
def CE(outer:List Env)(P:Program)(w:World)(H:Hp)(s:Shared)(Q:VK)(u:Value)(s':Shared):Prop:=
  ∃v H',s'.os=s.os∧AllBare s'.gens∧Un (frs outer) [] H H' s.heap s'.heap∧HOk P w H' s'.heap∧RelV v u∧Q v H'
def CR(CX:CXT)(outer:List Env)(P:Program)(w:World)(H:Hp)(s:Shared)(Q:VK)(E:XK)(r:Result)(s':Shared):Prop:=
  match r with
  | .ok (.ret u)=>CE outer P w H s Q u s'
  | .ok _=>False
  | .error e=>CX outer H s E e s'
structure FnOk(P:Program)(w:World)(K:PySem.W.Frag)(mg:Str→Option Value)(base:Heap)(CX:CXT)(k:Nat)(f:Addr)(fd:FuncData)(ps:List Str)(sp:Sp):Prop where
  len:∀vs H Q E,sp vs H Q E→vs.length=ps.length
  run:∀(A:Around) (outer:List Env) (s:Shared) (H:Hp) (args:Args) (us:List Value) (vs:List V) (Q:VK) (E:XK),Room k A→Env0 P w K mg base A outer s H→BindsTo s fd args (ps.zip us)→Vals vs us→sp vs H Q E→
    codeAny (model P w) A (.call (.ref f) args) (CR CX outer P w H s Q E) s
theorem FnOk.mono{P:Program}{w:World}{K:PySem.W.Frag}{mg:Str→Option Value}{base:Heap}{CX:CXT}{j k:Nat}{f:Addr}{fd:FuncData}{ps:List Str}{sp:Sp}(F:FnOk P w K mg base CX j f fd ps sp)(h:j≤k) :
    FnOk P w K mg base CX k f fd ps sp:=⟨F.len,fun A outer s H args us vs Q E hr=>F.run A outer s H args us vs Q E (hr.mono h)⟩
theorem FnOk.imp{P:Program}{w:World}{K:PySem.W.Frag}{mg:Str→Option Value}{base:Heap}{CX:CXT}{k:Nat}{f:Addr}{fd:FuncData}{ps:List Str}{sp sp':Sp}(F:FnOk P w K mg base CX k f fd ps sp)
    (h:∀vs H Q E,sp' vs H Q E→sp vs H Q E):FnOk P w K mg base CX k f fd ps sp':=
  ⟨fun vs H Q E q=>F.len vs H Q E (h _ _ _ _ q),fun A outer s H args us vs Q E hr he hb hv hs=>F.run A outer s H args us vs Q E hr he hb hv (h _ _ _ _ hs)⟩
theorem Env0.make{P:Program}{w:World}{K:PySem.W.Frag}{mg:Str→Option Value}{base:Heap}{A:Around}{outer:List Env}{s:Shared}{H:Hp}(e:Env0 P w K mg base A outer s H)(C:Addr)(us:List Value)(kw:List (Str × Value)) :
    Env0 P w K mg base (A.under (.builtin "type.__call__" ⟨.ref C::us,kw⟩)) outer s H:=⟨by first | exact e.frames | (simpa [Around.under,Code.envs,Code.isFrame,pushEnvs] using e.frames),e.mod,e.bs,e.bsz,e.funs,e.frf,e.hok,e.bare⟩
theorem Env0.in1{P:Program}{w:World}{K:PySem.W.Frag}{mg:Str→Option Value}{base:Heap}{A:Around}{outer:List Env}{s:Shared}{H:Hp}(e:Env0 P w K mg base A outer s H) :
    Env0 P w K mg base A.in1 outer s H:=⟨e.frames,e.mod,e.bs,e.bsz,e.funs,e.frf,e.hok,e.bare⟩
section
variable{X:Cx}{pins:List (Addr × Obj)}{σ:St}{H:Hp}{s s':Shared}
theorem Inv.env0(I:Inv X pins σ H s):Env0 X.prog X.w X.K X.mg X.base X.A X.stack s H:=
  ⟨I.ok.frames,I.ok.mod,I.bs,Nat.le_trans I.ok.bsz I.sz,I.stack,I.stkFree,I.hok,I.bare⟩
theorem Inv.after{Q:VK}{u:Value}(I:Inv X pins σ H s)(h:CE X.stack X.prog X.w H s Q u s'):EP X pins σ Q u s':=by
  obtain⟨v,H',os,bare,un,hok,r,q⟩:=h
  obtain⟨hh,g,d,t,os'⟩:=s'
  obtain rfl:os'=s.os:=os
  exact⟨v,H',I.call (h':=hh) (g':=g) (d':=d) (t':=t) (ch:=[]) un hok bare (fun b z=>absurd z (by simp)),r,q⟩
end
def tCall(sp:Sp)(dvs:List V)(E:XK)(t:TA):TE:=fun σ H Q=>t σ H fun vs H1=>sp (vs++dvs) H1 Q E
def tMeth(C:Addr)(m:Str)(sp:Sp)(dvs:List V)(E:XK)(ta:TE)(t:TA):TE:=fun σ H Q=>ta σ H fun x H1=>∃a dx fs,x=.ref a∧H1 a=some (.ins C dx fs)∧fs.lookup m=none∧
  t σ H1 fun vs H2=>sp (x::(vs++dvs)) H2 Q E
def tMake(C:Addr)(sp:Sp)(dvs:List V)(E:XK)(t:TA):TE:=fun σ H Q=>t σ H fun vs H1=>∀x dx,H1 x=none→H1 dx=none→dx≠x→
  sp (.ref x::(vs++dvs)) (upd (upd H1 dx (.own x)) x (.ins C dx [])) (fun v H2=>v=.non∧Q (.ref x) H2) E
def Binds(K:PySem.W.Frag)(fd:FuncData)(ps:List Str)(ds:List Value):Prop:=
  ∀(s:Shared) (us:List Value),K.In s.heap→(us++ds).length=ps.length→BindsTo s fd ⟨us,[]⟩ (ps.zip (us++ds))
theorem Binds.all{K:PySem.W.Frag}{fd:FuncData}{ps:List Str}(h:∀us:List Value,us.length=ps.length→bindArgs fd ⟨us,[]⟩=pure (ps.zip us)):Binds K fd ps []:=fun s us _ hl=>by
  rw[List.append_nil]at hl ⊢
  exact .of_eq (h us hl)
def j0p(CX:CXT)(X:Cx)(E:XK):Prop:=∀(pins:List (Addr × Obj)) (σ:St) (H:Hp) (s:Shared) (e:Value) (s':Shared),Inv X pins σ H s→CX X.stack H s E e s'→X.xe e s'
section
variable{X:Cx}{CX:CXT}{k:Nat}{f C:Addr}{fd:FuncData}{ps:List Str}{sp:Sp}{dvs:List V}{ds:List Value}{E:XK}{x m:Str}{p pos apos:Pos}{e o:Expr}{es:List Expr}{ta:TE}{t:TA}
theorem run_fn{pins:List (Addr × Obj)}{σ:St}{H:Hp}{s:Shared}{Q:VK}{us:List Value}{vs:List V}(F:FnOk X.prog X.w X.K X.mg X.base CX k f fd ps sp)(hr:Room k X.A)(hb:Binds X.K fd ps ds)(hd:Vals dvs ds)(hx:j0p CX X E)
    (I:Inv X pins σ H s) (r:Vals vs us) (h:sp (vs++dvs) H Q E):wpAny (model X.prog X.w) X.A (call (.ref f) us) (EP X pins σ Q) X.xe s:=by
  have r2:Vals (vs++dvs) (us++ds):=r.append hd
  have hl:(us++ds).length=ps.length:=by rw[← r2.length];exact F.len _ _ _ _ h
  refine wpAny_call (codeAny_mono (F.run X.A X.stack s H ⟨us,[]⟩ (us++ds) (vs++dvs) Q E hr I.env0 (hb s us I.kIn hl) r2 h) fun r s' hq=>?_)
  cases r with
  | error e=>exact hx pins σ H s e s' I hq
  | ok fl=>
    cases fl with
    | ret u=>exact I.after hq
    | next=>exact False.elim hq
    | brk=>exact False.elim hq
    | cont=>exact False.elim hq
theorem a0n(F:FnOk X.prog X.w X.K X.mg X.base CX k f fd ps sp)(hr:Room k X.A)(hg:Gl X x)(hm:X.mg x=some (.ref f))(hk:PySem.W.keepIn X.K (.ref f)=true)(hb:Binds X.K fd ps ds)(hd:Vals dvs ds)(hx:j0p CX X E)
    (ha:PA X (e::es) t) (hdb:(x == ("__debug__":Str))=false:=by decide) (he:starEach (e::es) X.env=(false,eval e X.env)::starEach es X.env:=by rfl) (hpl:(backTo pos (starEach es X.env)).any (·.1)=false:=by rfl) :
    PE X (.Call (.Name x p) (e::es) [] pos) (tCall sp dvs E t):=by
  intro pins s σ H Q I h
  refine wpAny_Call_Name_kw (e0o I hg hm ?_ hdb)
  refine PySem.W.callWith_K (h₀:=X.base) I.ok.mod.kin hk (thn (ha pos pins s σ H _ I h) fun us s1 ⟨vs,H1,I1,r,q⟩=>⟨I1.kIn,?_⟩) he hpl
  exact run_fn F hr hb hd hx I1 r q
theorem pe_meth{pl:Sem Bool}(he:PE X o ta)(c:Cls X.K C)(hm:Meth X.K C m f)(F:FnOk X.prog X.w X.K X.mg X.base CX k f fd ps sp)(hr:Room k X.A)(hb:Binds X.K fd ps ds)(hd:Vals dvs ds)(hx:j0p CX X E)(ha:PA X (e::es) t)
    (hst:starEach (e::es) X.env=(false,eval e X.env)::starEach es X.env:=by rfl) (hpl:(backTo pos (starEach es X.env)).any (·.1)=false:=by rfl)
    (ht:eval (.Call (.Attribute o m apos) (e::es) [] pos) X.env=(do
      let ov ← eval o X.env
      standAt apos.atName
      let(f,first) ← holding [ov] (getMethod ov m pl)
      callWith pos f first (backTo pos (starEach (e::es) X.env)) (backToKw pos (keywordEach [] X.env))):=by rfl) :
    PE X (.Call (.Attribute o m apos) (e::es) [] pos) (tMeth C m sp dvs E ta t):=by
  intro pins s σ H Q I h
  refine PySem.W.methodCall_KW (pl:=pl) (thn (he pins s σ H _ I h) fun u s1 ⟨x,H1,I1,rx,a,dx,fs,ex,ea,l,q⟩=>?_) ht
  subst ex
  obtain rfl:u=Value.ref a:=rx
  refine j0h I1 ea c hm l ?_
  refine PySem.W.callWith_K (first:=[.ref a]) (h₀:=X.base) I.ok.mod.kin hm.kp (thn (ha pos pins s1 σ H1 _ I1 q) fun us s2 ⟨vs,H2,I2,r,q2⟩=>⟨I2.kIn,?_⟩) hst hpl
  exact run_fn (us:=.ref a::us) (vs:=.ref a::vs) F hr hb hd hx I2 (.cons rfl r) q2
structure Mk(K:PySem.W.Frag)(C f:Addr):Prop where
  makes:PySem.W.makesIn K C=true
  init:PySem.W.findIn K (.ref C) "__init__"=some (some (.ref f))
  fn:PySem.W.isFn K (.ref f)=true
  kp:PySem.W.keepIn K (.ref C)=true
theorem run_make{pins:List (Addr × Obj)}{σ:St}{H:Hp}{s:Shared}{Q:VK}{us:List Value}{vs:List V}(M:Mk X.K C f)(F:FnOk X.prog X.w X.K X.mg X.base CX k f fd ps sp)(hr:Room (k+1) X.A)(hb:Binds X.K fd ps ds)(hd:Vals dvs ds)
    (hx:j0p CX X E) (I:Inv X pins σ H s) (r:Vals vs us)
    (h:∀x dx,H x=none→H dx=none→dx≠x→sp (.ref x::(vs++dvs)) (upd (upd H dx (.own x)) x (.ins C dx [])) (fun v H2=>v=.non∧Q (.ref x) H2) E) :
    wpAny (model X.prog X.w) X.A (call (.ref C) us) (EP X pins σ Q) X.xe s:=by
  have hq:=h (s.heap.objs.size+1) s.heap.objs.size (I.hok.fresh (Nat.le_succ _)) (I.hok.fresh (Nat.le_refl _)) (Nat.ne_of_lt (Nat.lt_succ_self _))
  have I2:=Inv.made (C:=C) I
  have r2:Vals (V.ref (s.heap.objs.size+1)::(vs++dvs)) (Value.ref (s.heap.objs.size+1)::(us++ds)):=.cons rfl (r.append hd)
  have hl:(Value.ref (s.heap.objs.size+1)::us++ds).length=ps.length:=by
    have e:=r2.length
    rw[F.len _ _ _ _ hq]at e
    exact e.symm
  refine wpAny_call (make_map (f:=f) I.kIn M.makes M.init (beq_iff_eq.mp M.fn) (codeAny_mono (F.run _ X.stack _ _ ⟨Value.ref (s.heap.objs.size+1)::us,[]⟩ (Value.ref (s.heap.objs.size+1)::(us++ds)) _ _ E (hr.make C us [])
    (I2.env0.make C us []) (hb _ (Value.ref (s.heap.objs.size+1)::us) I2.kIn hl) r2 hq) fun r s' hq'=>?_))
  cases r with
  | error e=>exact hx pins σ _ _ e s' I2 hq'
  | ok fl=>
    cases fl with
    | ret u=>
      obtain⟨v,H',I3,rv,ev,q3⟩:=I2.after hq'
      subst ev
      exact⟨rv,⟨V.ref (s.heap.objs.size+1),H',I3,rfl,q3⟩⟩
    | next=>exact False.elim hq'
    | brk=>exact False.elim hq'
    | cont=>exact False.elim hq'
theorem pe_make(M:Mk X.K C f)(F:FnOk X.prog X.w X.K X.mg X.base CX k f fd ps sp)(hr:Room (k+1) X.A)(hg:Gl X x)(hm:X.mg x=some (.ref C))(hb:Binds X.K fd ps ds)(hd:Vals dvs ds)(hx:j0p CX X E)
    (ha:PA X (e::es) t) (hdb:(x == ("__debug__":Str))=false:=by decide) (he:starEach (e::es) X.env=(false,eval e X.env)::starEach es X.env:=by rfl) (hpl:(backTo pos (starEach es X.env)).any (·.1)=false:=by rfl) :
    PE X (.Call (.Name x p) (e::es) [] pos) (tMake C sp dvs E t):=by
  intro pins s σ H Q I h
  refine wpAny_Call_Name_kw (e0o I hg hm ?_ hdb)
  refine PySem.W.callWith_K (h₀:=X.base) I.ok.mod.kin M.kp (thn (ha pos pins s σ H _ I h) fun us s1 ⟨vs,H1,I1,r,q⟩=>⟨I1.kIn,?_⟩) he hpl
  exact run_make M F hr hb hd hx I1 r q
end
section
variable{X:Cx}{CX:CXT}{k:Nat}{f C:Addr}{fd:FuncData}{ps ks:List Str}{sp:Sp}{E:XK}{x m:Str}{p pos apos kpos:Pos}{e o:Expr}{es:List Expr}{kws:List Keyword}{te ta:TE}{t tk:TA}{nm:Option Str}
structure KBinds(K:PySem.W.Frag)(fd:FuncData)(ps ks:List Str)(g:List Value→List Value→List Value)(gV:List V→List V→List V):Prop where
  to:∀(s:Shared) (us ws:List Value),K.In s.heap→(g us ws).length=ps.length→BindsTo s fd ⟨us,ks.zip ws⟩ (ps.zip (g us ws))
  rel:∀{vs:List V} {us:List Value} {zs:List V} {ws:List Value},Vals vs us→Vals zs ws→Vals (gV vs zs) (g us ws)
variable{g:List Value→List Value→List Value}{gV:List V→List V→List V}
end
structure a0r(N P:List Str)(sc:Scope):Prop where
  kind:sc.kind=.function
  co:sc.isCoroutine=false
  gen:sc.isGenerator=false
  nd:N.Nodup
  pre:N.take P.length=P
  par:∀x∈P,sc.names.lookup x=some .local∨sc.names.lookup x=some .cell
  nofree:∀y∈sc.names,y.2≠.free
theorem bindL_out{kindOf:Str→Option NameKind}{x:Str}:∀{binds:List (Str × Value)} {m:Str→Option Value},(∀v,(x,v) ∉ binds)→bindL kindOf binds m x=m x
  | [],_,_=>rfl
  | (n,v)::r,m,h=>by
    unfold bindL
    rw[bindL_out fun w hw=>h w (List.mem_cons_of_mem _ hw)]
    split
    · have:x≠n:=by rintro rfl;exact h v List.mem_cons_self
      simp[this]
    · rfl
theorem bindC_out{kindOf:Str→Option NameKind}{x:Str}:∀{binds:List (Str × Value)} {m:Str→Option Value},(∀v,(x,v) ∉ binds)→bindC kindOf binds m x=m x
  | [],_,_=>rfl
  | (n,v)::r,m,h=>by
    unfold bindC
    rw[bindC_out fun w hw=>h w (List.mem_cons_of_mem _ hw)]
    split
    · rfl
    · have:x≠n:=by rintro rfl;exact h v List.mem_cons_self
      simp[this]
theorem bindL_get{kindOf:Str→Option NameKind}{x:Str}{v:Value}:∀{P:List Str} {vs:List Value} {i:Nat} {m:Str→Option Value},P.Nodup→P[i]? = some x→vs[i]? = some v→kindOf x=some .local→
    bindL kindOf (P.zip vs) m x=some v
  | [],_,_,_,_,h,_,_=>by simp at h
  | _::_,[],_,_,_,_,h,_=>by simp at h
  | p::P,w::vs,0,m,nd,h1,h2,hk=>by
    simp at h1 h2;subst h1;subst h2
    show bindL kindOf ((p,w)::P.zip vs) m p=_
    unfold bindL
    rw[bindL_out fun v hv=>(List.nodup_cons.mp nd).1 (List.of_mem_zip hv).1,if_pos hk]
    simp
  | p::P,w::vs,i+1,m,nd,h1,h2,hk=>by
    show bindL kindOf ((p,w)::P.zip vs) m x=_
    unfold bindL
    exact bindL_get (i:=i) (List.nodup_cons.mp nd).2 (by simpa using h1) (by simpa using h2) hk
theorem bindC_get{kindOf:Str→Option NameKind}{x:Str}{v:Value}:∀{P:List Str} {vs:List Value} {i:Nat} {m:Str→Option Value},P.Nodup→P[i]? = some x→vs[i]? = some v→kindOf x≠some .local→
    bindC kindOf (P.zip vs) m x=some v
  | [],_,_,_,_,h,_,_=>by simp at h
  | _::_,[],_,_,_,_,h,_=>by simp at h
  | p::P,w::vs,0,m,nd,h1,h2,hk=>by
    simp at h1 h2;subst h1;subst h2
    show bindC kindOf ((p,w)::P.zip vs) m p=_
    unfold bindC
    rw[bindC_out fun v hv=>(List.nodup_cons.mp nd).1 (List.of_mem_zip hv).1,if_neg hk]
    simp
  | p::P,w::vs,i+1,m,nd,h1,h2,hk=>by
    show bindC kindOf ((p,w)::P.zip vs) m x=_
    unfold bindC
    exact bindC_get (i:=i) (List.nodup_cons.mp nd).2 (by simpa using h1) (by simpa using h2) hk
def j0t(N:List Str)(vs:List V):St:=vs.map some++List.replicate (N.length - vs.length) none
def cxOf(CX:CXT)(P:Program)(w:World)(K:PySem.W.Frag)(mg:Str→Option Value)(base:Heap)(N:List Str)(qual:Str)(scope:Scope)(f:Addr)(cd:Value)(A:Around)(outer:List Env)(s:Shared)(H:Hp)(E:XK):Cx where
  prog:=P
  w:=w
  K:=K
  mg:=mg
  base:=base
  A:=A.deeper (envOfC qual scope s.heap.objs.size f cd)
  N:=N
  s₀:=s
  H₀:=H
  env:=envOfC qual scope s.heap.objs.size f cd
  outer:=outer
  stack:=envOfC qual scope s.heap.objs.size f cd::outer
  ex:=[]
  calm:=true
  fn:=fun _=>true
  pn:=[]
  xe:=fun e s'=>wpAny (model P w) (A.deeper (envOfC qual scope s.heap.objs.size f cd)) (leaving (envOfC qual scope s.heap.objs.size f cd) e) (fun _ s''=>CX outer H s E e s'') (fun e' s''=>CX outer H s E e' s'') s'
theorem cell_has{sc:Scope}{n:Nat}{x:Str}(h:sc.names.lookup x=some .cell):∃c,(cellsFrom n sc.names []).lookup x=some c:=by
  have q:=PySem.W.cellsFrom_some sc.names n [] (.inl h)
  exact Option.isSome_iff_exists.mp q
theorem inv_start{CX:CXT}{P:Program}{w:World}{K:PySem.W.Frag}{mg:Str→Option Value}{base:Heap}{N ps:List Str}{qual:Str}{scope:Scope}{f:Addr}{cd:Value}{A:Around}{outer:List Env}{s s1:Shared}{H:Hp}{E:XK}{us:List Value}{vs:List V}
    (S:a0r N ps scope) (hd:A.handled=none) (e0:Env0 P w K mg base A outer s H) (hl:vs.length=ps.length) (r:Vals vs us)
    (x:InCallC s s.heap.objs.size (bindL (envOfC qual scope s.heap.objs.size f cd).kindOf (ps.zip us) fun _=>none) (cellsFrom (s.heap.objs.size+1) scope.names []) (bindC (envOfC qual scope s.heap.objs.size f cd).kindOf (ps.zip us) fun _=>none) s1) :
    Inv (cxOf CX P w K mg base N qual scope f cd A outer s H E) [] (j0t N vs) H s1:=by
  have hpl:ps.length≤N.length:=by have:=congrArg List.length S.pre;rw[List.length_take]at this;omega
  obtain⟨h1,tk,rfl,hk⟩:=x.done
  have noA:∀b:Addr,b ∉ (cxOf CX P w K mg base N qual scope f cd A outer s H E).ex:=fun b z=>absurd (show b∈([]:List Addr)from z) (by simp)
  refine⟨⟨e0.mod,S.kind,rfl,rfl,Nat.le_refl _,fun y z c h1 h2=>?_,fun y hy=>?_,fun y c _ h=>?_,fun _=>hd,Around.frames_deeper e0.frames,.inr ⟨rfl,rfl⟩,fun b z=>absurd z (noA b),e0.bs,e0.bsz,fun b _ _=>noA b,fun b z=>absurd z (noA b),e0.funs,e0.frf⟩,
    rfl,e0.bare,Un.kept hk,⟨_,x.toInCall.ns,fun i y v h1 h2 h3=>?_⟩,fun y c h=>⟨_,x.cell y c h⟩,e0.hok.fresh (Nat.le_refl _),fun y c h=>?_,fun p hp=>absurd (show p∈([]:List (Addr × Obj))from hp) (by simp),e0.hok.kept hk,?_⟩
  · exact name_of_addr x.apart (PySem.mem_of_lookup h1) (PySem.mem_of_lookup h2)
  · have hy:scope.names.lookup y=some .cell∨scope.names.lookup y=some .free:=hy
    rcases hy with hy | hy
    · exact cell_has hy
    · exact absurd rfl (S.nofree _ (PySem.mem_of_lookup hy))
  · exact Nat.le_of_lt (x.above y c (PySem.mem_of_lookup h))
  · have hi:i < vs.length:=by
      unfold j0t at h2
      by_cases hi:i < vs.length
      · exact hi
      · rw[List.getElem?_append_right (by simpa using hi)]at h2
        rw[List.getElem?_replicate]at h2
        split at h2 <;>cases h2
    have ha:vs[i]? = some v:=by
      unfold j0t at h2
      rw[List.getElem?_append_left (by simpa using hi),List.getElem?_map]at h2
      cases e:vs[i]? with
      | none=>rw[e]at h2;cases h2
      | some a=>rw[e]at h2;cases h2;rfl
    obtain⟨u,hu,rv⟩:=r.get ha
    have hp:ps[i]? = some y:=by
      rw[← S.pre,List.getElem?_take_of_lt (by omega)];exact h1
    have ndP:ps.Nodup:=by rw[← S.pre];exact S.nd.sublist (List.take_sublist _ _)
    refine⟨u,rv,?_⟩
    rcases S.par y (List.mem_of_getElem? hp)with k | k
    · exact .inl ⟨k,bindL_get ndP hp hu k⟩
    · obtain⟨c,e⟩:=cell_has (n:=s.heap.objs.size+1) k
      refine .inr ⟨.inl k,c,e,?_⟩
      have q:=x.cell y c e
      rw[bindC_get ndP hp hu (by show scope.names.lookup y≠_;rw[k];decide)]at q
      exact q
  · exact e0.hok.fresh (Nat.le_of_lt (x.above y c (PySem.mem_of_lookup h)))
  · unfold j0t
    show _=N.length
    rw[List.length_append,List.length_map,List.length_replicate]
    omega
theorem fn_of{CX:CXT}{P:Program}{w:World}{K:PySem.W.Frag}{mg:Str→Option Value}{base:Heap}{k:Nat}{f:Addr}{name qual:Str}{params:Arguments}{body:List Stmt}{scope:Scope}{dV kV doc pm cdv ct oc:Value}{an od:Option Addr}
    {osl:Array (Option Value)} {N ps:List Str} {sp:Sp} (lk:K.lookup f=some ⟨oc,od,.func (PySem.W.fnOf name qual params body scope dV kV doc pm an cdv ct),osl⟩) (hcd:PySem.W.codeIn K cdv qual=true) (S:a0r N ps scope)
    (len:∀vs H Q E,sp vs H Q E→vs.length=ps.length)
    (hbody:∀(A:Around) (outer:List Env) (s:Shared) (H:Hp) (vs:List V) (Q:VK) (E:XK),Room k (A.deeper (envOfC qual scope s.heap.objs.size f cdv))→sp vs H Q E→
      ∃t,PSs (cxOf CX P w K mg base N qual scope f cdv A outer s H E) body t∧t { nx:=fun _ H'=>Q .non H',rt:=Q } (j0t N vs) H) :
    FnOk P w K mg base CX (k+1) f (PySem.W.fnOf name qual params body scope dV kV doc pm an cdv ct) ps sp:=by
  refine⟨len,fun A outer s H args us vs Q E hr e0 hb r hsp=>?_⟩
  have hl:=len _ _ _ _ hsp
  have KX:K.In s.heap:=e0.mod.kin.keeps fun b o e=>(e0.bs b o e).1
  have lim:s.heap.NoLimit:=e0.mod.nolimit.keeps fun b o e=>(e0.bs b o e).1
  have hkind:∀y∈ps.zip us,scope.names.lookup y.1=some .local∨(scope.names.lookup y.1=some .cell∧((cellsFrom (s.heap.objs.size+1) scope.names []).lookup y.1).isSome=true):=fun⟨n,v⟩ hy=>by
    rcases S.par n (List.of_mem_zip hy).1 with q | q
    · exact .inl q
    · exact .inr ⟨q,PySem.W.cellsFrom_some _ _ _ (.inl q)⟩
  refine codeAny_call_function hr.depth (KX _ _ lk) rfl S.co S.gen rfl (PySem.W.codeRec_of KX hcd) (hb _ _ _ _ ?_)
  refine wpAny_newFunctionEnv_cells S.kind hkind fun env he s1 x=>?_
  subst he
  refine⟨lim.keeps x.toInCall.keep,codeAny_func ?_⟩
  obtain⟨t,ht,hq⟩:=hbody A outer s H vs Q E (hr.deeper _) hsp
  have I:Inv (cxOf CX P w K mg base N qual scope f cdv A outer s H E) [] (j0t N vs) H s1:=inv_start S hr.hd e0 hl r x
  refine wpAny_mono (ht [] s1 (j0t N vs) H _ I hq) (fun fl s' hs=>?_) fun e s' hs=>hs
  have fin:∀{σ':St} {H':Hp} {v:V} {u:Value},Inv (cxOf CX P w K mg base N qual scope f cdv A outer s H E) [] σ' H' s'→RelV v u→Q v H'→CE outer P w H s Q u s':=
    fun{σ' H' v u} J rv q=>⟨v,H',J.os,J.bare,J.base,J.hok,rv,q⟩
  cases fl with
  | ret u=>
    obtain⟨v,σ',H',J,rv,q⟩:=hs
    exact fin J rv q
  | next=>
    obtain⟨σ',H',J,q⟩:=hs
    exact fin (v:=V.non) (u:=Value.none) J rfl q
  | brk=>
    obtain⟨_,_,_,q⟩:=hs
    exact False.elim q
  | cont=>
    obtain⟨_,_,_,q⟩:=hs
    exact False.elim q
end L2
namespace L2
open PySem PySem.Spec PyProof.Rows
section
variable{X:Cx}{x:Str}{p pos:Pos}{e:Expr}{es:List Expr}{t:TA}{id T:String}{r:List V→Hp→VK→Prop}
def tCB(r:List V→Hp→VK→Prop)(t:TA):TE:=fun σ H Q=>t σ H fun vs H1=>r vs H1 Q
theorem a0x(hc:CallR X (.builtin id) r)(hg:Gl X x)(hm:X.mg x=none)(hv:bootBuiltins x=some (.builtin id))(ha:PA X (e::es) t)(hn:x≠"__name__":=by decide)(hdb:(x == ("__debug__":Str))=false:=by decide)
    (he:starEach (e::es) X.env=(false,eval e X.env)::starEach es X.env:=by rfl) (hpl:(backTo pos (starEach es X.env)).any (·.1)=false:=by rfl):PE X (.Call (.Name x p) (e::es) [] pos) (tCB r t):=by
  intro pins s σ H Q I h
  refine wpAny_Call_Name_kw (g0y I hg hm hv ?_ hn hdb)
  exact PyProof.Rows.callWith_builtin1 (thn (ha pos pins s σ H _ I h) fun us s1 ⟨vs,H1,I1,r1,q1⟩=>hc pins s1 σ H1 vs us Q I1 r1 q1) he hpl
theorem b0y(hc:CallR X (.type T) r)(hg:Gl X x)(hm:X.mg x=none)(hv:bootBuiltins x=some (.type T))(ha:PA X (e::es) t)(hn:x≠"__name__":=by decide)(hdb:(x == ("__debug__":Str))=false:=by decide)
    (he:starEach (e::es) X.env=(false,eval e X.env)::starEach es X.env:=by rfl) (hpl:(backTo pos (starEach es X.env)).any (·.1)=false:=by rfl):PE X (.Call (.Name x p) (e::es) [] pos) (tCB r t):=by
  intro pins s σ H Q I h
  refine wpAny_Call_Name_kw (g0y I hg hm hv ?_ hn hdb)
  exact PyProof.Rows.callWith_type1 (thn (ha pos pins s σ H _ I h) fun us s1 ⟨vs,H1,I1,r1,q1⟩=>hc pins s1 σ H1 vs us Q I1 r1 q1) he hpl
end
end L2
namespace HT
open PySem PyProof.Rows
section
open PySem.SeqAt
open PySem.AutoSeq1 (wpAny_loadPart')
open PySem.MeetsSeq PySem.MeetsSeq2 PySem.MeetsSeq3
end
section
variable{prog:Program}{w:World}{A:Around}{E:Value→Shared→Prop}{s:Shared}
theorem cat_tup{t b:Addr}{vs ws:List Value}{Q:Value→Shared→Prop}(ht:IsTup s.heap t vs.toArray)(hb:IsTup s.heap b ws.toArray)(hv:vs≠[])
    (h1:ws=[]→Q (.ref t) s) (h2:ws≠[]→Q (.ref s.heap.objs.size) { s with heap:=s.heap.push { cls:=.type "tuple",data:=.seq (vs++ws).toArray } })
    (hsz:vs.length+ws.length≤sizeLine):wpAny (model prog w) A (binaryOp .Add (.ref t) (.ref b)) Q E s:=by
  obtain⟨⟨cls,dd,data,sl⟩,ho,hc,n,hd⟩:=id ht
  obtain⟨⟨cls2,dd2,data2,sl2⟩,ho2,hc2,n2,hd2⟩:=id hb
  simp only at hc hd hc2 hd2
  subst hc hd hc2 hd2
  have e:vs.toArray++ws.toArray=(vs++ws).toArray:=by simp
  by_cases hw:ws=[]
  · exact concat_meets ⟨_,ho,rfl⟩ ⟨_,ho2,rfl⟩ noFill_tuple_add seq_tuple_add PySem.F.slot_tuple_add PySem.F.entry_tuple_add (PySem.F.args_tuple_add_2 _ _)
      (tuple_addW1 t b vs.toArray ws.toArray n n2 dd dd2 sl sl2 (by simpa using hv) (by simp[hw])) ⟨ho,ho2,h1 hw⟩
  · refine concat_meets ⟨_,ho,rfl⟩ ⟨_,ho2,rfl⟩ noFill_tuple_add seq_tuple_add PySem.F.slot_tuple_add PySem.F.entry_tuple_add (PySem.F.args_tuple_add_2 _ _)
      (tuple_addW2 t b vs.toArray ws.toArray n n2 dd dd2 sl sl2 (by simpa using hv) (by simpa using hw) (by rw[List.size_toArray,List.size_toArray];exact hsz)) ⟨ho,ho2,?_⟩
    rw[e]
    exact h2 hw
def sIx(n d:Nat):Option Int→Nat
  | none=>d
  | some v=>if v < 0 then(v+(n:Int)).toNat else min v.toNat n
theorem h0d(n d:Nat):sIx n d none=d:=rfl
theorem g0j(n d k:Nat):sIx n d (some (k:Int))=min k n:=by
  show(if(k:Int) < 0 then((k:Int)+(n:Int)).toNat else min (k:Int).toNat n)=min k n
  rw[if_neg (by omega),Int.toNat_natCast]
theorem sIx_le(n d:Nat)(hd:d≤n)(o:Option Int):sIx n d o≤n:=by
  cases o with
  | none=>exact hd
  | some v=>
    show(if v < 0 then(v+(n:Int)).toNat else min v.toNat n)≤n
    by_cases hv:v < 0
    · rw[if_pos hv];omega
    · rw[if_neg hv];exact Nat.min_le_right _ _
theorem clip_eq(v:Int)(n d:Nat):(if v < 0 then max (v+(n:Int)) 0 else min v (n:Int))=((sIx n d (some v):Nat):Int):=by
  show(if v < 0 then max (v+(n:Int)) 0 else min v (n:Int))=(((if v < 0 then(v+(n:Int)).toNat else min v.toNat n):Nat):Int)
  by_cases hv:v < 0
  · simp only[if_pos hv];omega
  · simp only[if_neg hv];omega
theorem adjust_gen(lo hi:Option Int)(n:Nat):Builtin.Slice.sliceAdjust lo hi 1 (n:Int)=(((sIx n 0 lo:Nat):Int),((sIx n n hi:Nat):Int)):=by
  have h1:¬((1:Int) < 0):=by omega
  unfold Builtin.Slice.sliceAdjust
  simp only[h1,if_false]
  refine Prod.ext ?_ ?_
  · cases lo with
    | none=>rfl
    | some v=>exact clip_eq v n 0
  · cases hi with
    | none=>rfl
    | some v=>exact clip_eq v n n
theorem places_gen(i j:Nat):Builtin.Slice.slicePlaces (i:Int) (j:Int) 1=j - i:=by
  unfold Builtin.Slice.slicePlaces
  have h1:(1:Int) > 0:=by omega
  simp only[h1,if_true,Int.ediv_one]
  split <;>omega
theorem j0b{v:Value}{o:Option Int}{Q:Option Int→Shared→Prop}(p:IsPart v o)(h:Q o s):wpAny (model prog w) A (Builtin.Slice.slicePartIndex v) Q E s:=by
  cases p with
  | none=>exact slicePart_none h
  | int i t=>exact slicePart_int h
theorem d0u{sl:Addr}{vl vu:Value}{lo hi:Option Int}{n:Nat}{Q:Int × Int × Nat→Shared→Prop}(hs:s.heap.IsSliceOf sl vl vu .none)(pl:IsPart vl lo)(pu:IsPart vu hi)
    (h:Q (((sIx n 0 lo:Nat):Int),1,sIx n n hi - sIx n 0 lo) s):wpAny (model prog w) A (Builtin.Slice.sliceApplied (.ref sl) (pure (n:Int))) Q E s:=by
  obtain⟨os,hos,hcs,hds⟩:=id hs
  unfold Builtin.Slice.sliceApplied Builtin.Slice.sliceFields
  refine wpAny_bind (wpAny_bind (wpAny_field hos hds (x:=vl) rfl (wpAny_bind (wpAny_field hos hds (x:=vu) rfl (wpAny_bind (wpAny_field hos hds (x:=.none) rfl (wpAny_pure ?_)))))))
  refine wpAny_bind (slicePart_none ?_)
  show wpAny _ _ (if((1:Int) == 0)=true then _ else _) _ _ s
  rw[if_neg (by decide)]
  refine wpAny_bind (j0b pl (wpAny_bind (j0b pu (wpAny_bind (wpAny_pure ?_)))))
  show wpAny _ _ (match Builtin.Slice.sliceAdjust lo hi 1 (n:Int)with | (lo,hi)=>pure (lo,(1:Int),Builtin.Slice.slicePlaces lo hi 1)) _ _ s
  rw[adjust_gen lo hi n]
  show wpAny _ _ (pure (((sIx n 0 lo:Nat):Int),(1:Int),Builtin.Slice.slicePlaces ((sIx n 0 lo:Nat):Int) ((sIx n n hi:Nat):Int) 1)) _ _ s
  rw[places_gen]
  exact wpAny_pure h
theorem pick_gen(xs:Array Value)(i k:Nat):((List.range k).filterMap fun(m:Nat)=>xs[((i:Int)+(m:Int) * 1).toNat]?).toArray=((xs.toList.drop i).take k).toArray:=by
  have e:(fun(m:Nat)=>xs[((i:Int)+(m:Int) * 1).toNat]?)=fun m=>xs[i+m]? := by
    funext m
    have:((i:Int)+(m:Int) * 1).toNat=i+m:=by omega
    rw[this]
  rw[e]
  have:=pick_run xs i k
  rw[List.filterMap_map]at this
  have e2:((fun x=>xs[x]?) ∘ fun x=>i+x)=fun m=>xs[i+m]? := rfl
  rw[e2]at this
  rw[this]
theorem g0r{t sl:Addr}{items:Array Value}{vl vu:Value}{lo hi:Option Int}{Q:Value→Shared→Prop}(ht:IsTup s.heap t items)(hs:s.heap.IsSliceOf sl vl vu .none)(pl:IsPart vl lo)(pu:IsPart vu hi)
    (hw:¬(sIx items.size 0 lo=0∧sIx items.size items.size hi=items.size))
    (h:Q (.ref s.heap.objs.size) { s with heap:=s.heap.push { cls:=.type "tuple",data:=.seq ((items.toList.drop (sIx items.size 0 lo)).take (sIx items.size items.size hi - sIx items.size 0 lo)).toArray } })
    (hsz:items.size≤sizeLine):wpAny (model prog w) A (getItem (.ref t) (.ref sl)) Q E s:=by
  have htake:sizeOk (.seq ((items.toList.drop (sIx items.size 0 lo)).take (sIx items.size items.size hi - sIx items.size 0 lo)).toArray):=by
    show((items.toList.drop (sIx items.size 0 lo)).take (sIx items.size items.size hi - sIx items.size 0 lo)).toArray.size≤sizeLine
    rw[List.size_toArray,List.length_take,List.length_drop,Array.length_toList]
    omega
  have hj:sIx items.size items.size hi≤items.size:=sIx_le _ _ (Nat.le_refl _) hi
  obtain⟨os,hos,hcs,hds⟩:=id hs
  have hTs:s.TypeIs (.ref sl) "slice":=⟨os,hos,hcs⟩
  unfold getItem
  try with_reducible refine wpAny_holding ?_
  first | refine wpAny_bind (wpAny_pure ?_) | skip
  refine wpAny_bind (wpAny_sequenceKey ht.typeIs (by decide) ?_)
  refine wpAny_bind (wpAny_callSpecial?_slot (name:=Str.ofString "__getitem__") ht.typeIs PyProof.Rows.slot_tuple_getitem
    (wpAny_call_entry PyProof.Rows.slot_tuple_getitem ht.typeIs entry_tuple_getitem ?_ (args_tuple_getitem _ _)))
  show wpAny _ _ (Builtin.Tuple.tupleItemsOf (.ref t) >>= _) _ _ s
  refine wpAny_bind (tupleItemsOf_ ht ?_)
  refine wpAny_bind (wpAny_typeOf hTs ?_)
  rw[if_pos (by decide)]
  refine wpAny_bind (d0u hs pl pu ?_)
  have hno:¬((((sIx items.size 0 lo:Nat):Int) == 0 && (1:Int) == 1 && (sIx items.size items.size hi - sIx items.size 0 lo) == items.size)=true):=by
    intro q
    rw[Bool.and_eq_true,Bool.and_eq_true]at q
    have q1:((sIx items.size 0 lo:Nat):Int)=0:=eq_of_beq q.1.1
    have q2:sIx items.size items.size hi - sIx items.size 0 lo=items.size:=eq_of_beq q.2
    exact hw ⟨by omega,by omega⟩
  show wpAny _ _ (if(((sIx items.size 0 lo:Nat):Int) == 0 && (1:Int) == 1 && (sIx items.size items.size hi - sIx items.size 0 lo) == items.size)=true then _ else _) _ _ s
  rw[if_neg hno,pick_gen]
  first
    | exact wpAny_bind (m:=Builtin.Tuple.tupleExact _) (wpAny_newObj_type (wpAny_pure ⟨_,rfl,wpAny_pure h⟩) htake)
    | exact wpAny_bind (m:=Builtin.Tuple.tupleExact _) (wpAny_newObj_type (wpAny_bind (wpAny_pure (wpAny_pure ⟨_,rfl,wpAny_pure h⟩))) htake)
    | exact wpAny_bind (wpAny_bind (m:=Builtin.Tuple.tupleExact _) (wpAny_newObj_type (wpAny_pure (wpAny_pure ⟨_,rfl,wpAny_pure h⟩)) htake))
    | exact wpAny_bind (wpAny_bind (m:=Builtin.Tuple.tupleExact _) (wpAny_newObj_type (wpAny_pure ⟨_,rfl,wpAny_pure h⟩) htake))
end
end HT
namespace L2
open PySem PySem.Spec PyProof.Rows
abbrev TO:=St→Hp→(Option Int→Hp→Prop)→Prop
def PO(X:Cx)(e:Option Expr)(t:TO):Prop:=
  ∀(pins:List (Addr × Obj)) (s:Shared) (σ:St) (H:Hp) (Q:Option Int→Hp→Prop),Inv X pins σ H s→t σ H Q→
    wpAny (model X.prog X.w) X.A (evalPart e X.env) (fun u s'=>∃o H',Inv X pins σ H' s'∧IsPart u o∧Q o H') X.xe s
def tNoPart:TO:=fun _ H Q=>Q none H
def tPart(t:TE):TO:=fun σ H Q=>t σ H fun x H1=>∃i,x=.int i∧Q (some i) H1
section
variable{X:Cx}{e:Expr}{te:TE}{lo hi:Option Expr}{tl th:TO}{pos p2:Pos}
theorem b0j:PO X none tNoPart:=by
  intro pins s σ H Q I h
  rw[evalPart_none]
  exact wpAny_pure ⟨none,H,I,.none,h⟩
theorem b0g(h:PE X e te):PO X (some e) (tPart te):=by
  intro pins s σ H Q I hw
  rw[evalPart_some]
  refine thn (h pins s σ H _ I hw) fun u s1 ⟨x,H1,I1,r1,q1⟩=>?_
  obtain⟨i,rfl,q⟩:=q1
  obtain⟨t,rfl⟩:=r1
  exact⟨some i,H1,I1,.int i t,q⟩
def SlR(X:Cx)(r:V→Option Int→Option Int→Hp→VK→Prop):Prop:=
  ∀(pins:List (Addr × Obj)) (s:Shared) (σ:St) (H:Hp) (x:V) (v vl vu:Value) (lo hi:Option Int) (sl:Addr) (Q:VK),Inv X pins σ H s→RelV x v→s.heap.IsSliceOf sl vl vu .none→IsPart vl lo→IsPart vu hi→r x lo hi H Q→
    ∃T id,typeLookup (.type T) "__getitem__"=pure (some (.builtin id))∧s.TypeIs v T∧wpAny (model X.prog X.w) X.A (getItem v (.ref sl)) (EP X pins σ Q) X.xe s
theorem SlR.or{r r':V→Option Int→Option Int→Hp→VK→Prop}(h:SlR X r)(h':SlR X r'):SlR X (fun x lo hi H Q=>r x lo hi H Q∨r' x lo hi H Q):=by
  intro pins s σ H x v vl vu lo hi sl Q I rx hs pl pu q
  rcases q with q | q
  · exact h pins s σ H x v vl vu lo hi sl Q I rx hs pl pu q
  · exact h' pins s σ H x v vl vu lo hi sl Q I rx hs pl pu q
def tSl(r:V→Option Int→Option Int→Hp→VK→Prop)(te:TE)(tl th:TO):TE:=fun σ H Q=>te σ H fun x H1=>tl σ H1 fun l H2=>th σ H2 fun u H3=>r x l u H3 Q
theorem b0c{r:V→Option Int→Option Int→Hp→VK→Prop}(hr:SlR X r)(he:PE X e te)(hl:PO X lo tl)(hu:PO X hi th):PE X (.Subscript e (.Slice lo hi none p2) pos) (tSl r te tl th):=by
  intro pins s σ H Q I h
  refine Subscript_ (thn (he pins s σ H _ I h) fun v s1 ⟨x,H1,I1,r1,q1⟩=>?_)
  refine wpAny_Slice (thn (hl pins s1 σ H1 _ I1 q1) fun vl s2 ⟨l,H2,I2,pl,q2⟩=>thn (hu pins s2 σ H2 _ I2 q2) fun vu s3 ⟨u,H3,I3,pu,q3⟩=>?_)
  rw[evalPart_none]
  refine wpAny_pure ?_
  have I4:Inv X pins σ H3 { s3 with heap:=s3.heap.push { cls:=.type "slice",data:=.fields #[vl,vu,.none] } }:=I3.kept (t':=s3.toks) fun b ob q=>Heap.get?_push_of_some _ q
  obtain⟨T,id,hT,ht,hg⟩:=hr pins { s3 with heap:=s3.heap.push { cls:=.type "slice",data:=.fields #[vl,vu,.none] } } σ H3 x v vl vu l u s3.heap.objs.size Q I4 r1 (Heap.IsSliceOf.new ..) pl pu q3
  show wpAny (model X.prog X.w) X.A (subscriptTail e (.Slice lo hi none p2) v (.ref s3.heap.objs.size)) (EP X pins σ Q) X.xe { s3 with heap:=s3.heap.push { cls:=.type "slice",data:=.fields #[vl,vu,.none] } }
  exact tail_any (ops:=[.ref s3.heap.objs.size,v]) ht hT hg (by with_unfolding_all rfl)
def cutV(xs:List V)(lo hi:Option Int):List V:=(xs.drop (HT.sIx xs.length 0 lo)).take (HT.sIx xs.length xs.length hi - HT.sIx xs.length 0 lo)
theorem i0h(xs:List V)(lo hi:Option Int):(cutV xs lo hi).length≤xs.length:=by
  unfold cutV
  rw[List.length_take,List.length_drop]
  omega
def rSlT(K:PySem.W.Frag):V→Option Int→Option Int→Hp→VK→Prop:=fun x lo hi H Q=>∃a xs,x=.ref a∧SqT K H a xs∧
  ¬(HT.sIx xs.length 0 lo=0∧HT.sIx xs.length xs.length hi=xs.length)∧∀p,H p=none→Q (.ref p) (upd H p (.tup (cutV xs lo hi)))
theorem sl_tup:SlR X (rSlT X.K):=by
  intro pins s σ H x v vl vu lo hi sl Q I rx hs pl pu h
  obtain⟨a,xs,rfl,hx,hw,q⟩:=h
  cases rx
  obtain⟨its,r,ht,hz⟩:=I.tuple hx
  have hlen:its.toArray.size=xs.length:=by rw[List.size_toArray];exact r.length.symm
  refine⟨"tuple",_,PyProof.Rows.slot_tuple_getitem.lookup,ht.typeIs,?_⟩
  refine HT.g0r ht hs pl pu (by rw[hlen];exact hw) ?_ (by rw[hlen];exact hz)
  rw[hlen]
  refine⟨.ref s.heap.objs.size,_,I.laid (t':=s.toks) (o:=.tup (cutV xs lo hi)) (fun b ob q=>Heap.get?_push_of_some _ q) (Nat.le_refl _) ?_,rfl,q _ (I.hok.fresh (Nat.le_refl _))⟩
  exact⟨Nat.le_trans (i0h xs lo hi) hz,_,(r.drop (HT.sIx xs.length 0 lo)).take (HT.sIx xs.length xs.length hi - HT.sIx xs.length 0 lo),IsTup.new _ _,fun _=>⟨_,Heap.get?_push_size _ rfl,rfl⟩⟩
def rCatT(K:PySem.W.Frag):R2:=fun x y H Q=>∃a b xs ys,x=.ref a∧y=.ref b∧SqT K H a xs∧SqT K H b ys∧xs≠[]∧xs.length+ys.length≤sizeLine∧
  (ys=[]→Q (.ref a) H)∧(ys≠[]→∀p,H p=none→Q (.ref p) (upd H p (.tup (xs++ys))))
theorem Vals.nil_iff{xs:List V}{us:List Value}(r:Vals xs us):us=[]↔xs=[]:=by
  cases r with
  | nil=>simp
  | cons _ _=>simp
theorem op_catT:OpR X (binaryOp .Add) (rCatT X.K):=by
  intro pins s σ H x y v u Q I rx ry h
  obtain⟨a,b,xs,ys,rfl,rfl,ha,hb,hx,hz,q1,q2⟩:=h
  cases rx
  cases ry
  obtain⟨its,r1,p1,_⟩:=I.tuple ha
  obtain⟨its2,r2,p2,_⟩:=I.tuple hb
  refine HT.cat_tup p1 p2 (fun z=>hx (r1.nil_iff.mp z)) (fun z=>⟨.ref a,H,I,rfl,q1 (r2.nil_iff.mp z)⟩) (fun z=>?_) (by rw[← r1.length,← r2.length];exact hz)
  refine⟨.ref s.heap.objs.size,_,I.laid (t':=s.toks) (o:=.tup (xs++ys)) (fun b ob q=>Heap.get?_push_of_some _ q) (Nat.le_refl _) ?_,rfl,q2 (fun w=>z (r2.nil_iff.mpr w)) _ (I.hok.fresh (Nat.le_refl _))⟩
  exact⟨by rw[List.length_append];exact hz,_,r1.append r2,IsTup.new _ _,fun _=>⟨_,Heap.get?_push_size _ rfl,rfl⟩⟩
end
end L2
namespace L2
open PySem PySem.Spec PyProof.Rows
def ixN(n:Nat)(i:Int):Option Nat:=if 0≤i then(if i < n then some i.toNat else none)else if -(n:Int)≤i then some (i+n).toNat else none
def atI{α:Type}(xs:List α)(i:Int):Option α:=(ixN xs.length i).bind fun j=>xs[j]?
theorem ixN_seq{n:Nat}{i:Int}{j:Nat}(h:ixN n i=some j):seqIndex? i n=some j∧j < n∧-(n:Int)≤i∧i < n:=by
  unfold ixN at h
  by_cases h0:0≤i
  · rw[if_pos h0]at h
    by_cases h1:i < n
    · rw[if_pos h1]at h
      have e:i.toNat=j:=Option.some.inj h
      exact⟨by rw[seqIndex_of h0 h1,e],by omega,by omega,h1⟩
    · rw[if_neg h1]at h;cases h
  · rw[if_neg h0]at h
    by_cases h1:-(n:Int)≤i
    · rw[if_pos h1]at h
      have e:(i+n).toNat=j:=Option.some.inj h
      exact⟨by rw[seqIndex_neg (by omega) h1,e],by omega,h1,by omega⟩
    · rw[if_neg h1]at h;cases h
theorem atI_get{α:Type}{xs:List α}{i:Int}{v:α}(h:atI xs i=some v):∃j,seqIndex? i xs.length=some j∧xs[j]? = some v∧j < xs.length∧-(xs.length:Int)≤i∧i < xs.length:=by
  unfold atI at h
  cases e:ixN xs.length i with
  | none=>rw[e]at h;cases h
  | some j=>
    rw[e]at h
    obtain⟨h1,h2,h3,h4⟩:=ixN_seq e
    exact⟨j,h1,h,h2,h3,h4⟩
theorem c0e{α:Type}{xs:List α}{j:Nat}{v:α}(h:xs[j]? = some v):atI xs (j:Int)=some v:=by
  have hj:j < xs.length:=(List.getElem?_eq_some_iff.mp h).1
  have e:ixN xs.length (j:Int)=some j:=by
    unfold ixN
    rw[if_pos (by omega),if_pos (by omega)];simp
  unfold atI;rw[e];exact h
theorem atI_last{α:Type}(xs:List α)(v:α):atI (xs++[v]) (-1)=some v:=by
  have hl:(xs++[v]).length=xs.length+1:=by simp
  have e:ixN (xs++[v]).length (-1)=some xs.length:=by
    unfold ixN
    rw[hl,if_neg (by decide),if_pos (by omega)]
    congr 1
    omega
  unfold atI
  rw[e]
  show(xs++[v])[xs.length]? = some v
  simp
def PlainIx(b:Expr):Prop:=∀o i,subscripted b false o i=operate [o,i] (getItem o i)
def IxR(X:Cx)(r:R2):Prop:=
  ∀(value slice:Expr) (pins:List (Addr × Obj)) (s:Shared) (σ:St) (H:Hp) (x y:V) (v u:Value) (Q:VK),Inv X pins σ H s→RelV x v→RelV y u→r x y H Q→
    subscripted slice false v u=operate [v,u] (getItem v u)→wpAny (model X.prog X.w) X.A (subscriptTail value slice v u) (EP X pins σ Q) X.xe s
def MtR(X:Cx)(id:String)(r:V→List V→Hp→VK→Prop):Prop:=
  ∀(pins:List (Addr × Obj)) (s:Shared) (σ:St) (H:Hp) (x:V) (xs:List V) (v:Value) (us:List Value) (Q:VK),Inv X pins σ H s→RelV x v→Vals xs us→r x xs H Q→
    wpAny (model X.prog X.w) X.A (call (.builtin id) (v::us)) (EP X pins σ Q) X.xe s
section
variable{X:Cx}{a b:Expr}{ta tb:TE}{pos:Pos}
theorem IxR.or{r r':R2}(h:IxR X r)(h':IxR X r'):IxR X (fun x y H Q=>r x y H Q∨r' x y H Q):=by
  intro value slice pins s σ H x y v u Q I rx ry q hs
  rcases q with q | q
  · exact h value slice pins s σ H x y v u Q I rx ry q hs
  · exact h' value slice pins s σ H x y v u Q I rx ry q hs
theorem MtR.or{id:String}{r r':V→List V→Hp→VK→Prop}(h:MtR X id r)(h':MtR X id r'):MtR X id (fun x xs H Q=>r x xs H Q∨r' x xs H Q):=by
  intro pins s σ H x xs v us Q I rx rs q
  rcases q with q | q
  · exact h pins s σ H x xs v us Q I rx rs q
  · exact h' pins s σ H x xs v us Q I rx rs q
theorem b0b{r:R2}(hr:IxR X r)(ha:PE X a ta)(hb:PE X b tb)(hs:PlainIx b):PE X (.Subscript a b pos) (tOp r ta tb):=by
  intro pins s σ H Q I h
  exact Subscript_ (binT ha hb I h fun v u s2 x y H2 I2 rx ry q=>hr a b pins s2 σ H2 x y v u Q I2 rx ry q (hs _ _))
def rIxL(K:PySem.W.Frag):R2:=fun x y H Q=>∃p xs i v,x=.ref p∧y=.int i∧SqL K H p xs∧atI xs i=some v∧Q v H
def rIxT(K:PySem.W.Frag):R2:=fun x y H Q=>∃p xs i v,x=.ref p∧y=.int i∧SqT K H p xs∧atI xs i=some v∧Q v H
def rIxS:R2:=fun x y H Q=>∃z i c,x=.str z∧y=.int i∧z.length≤sizeLine∧atI z.cps.toList i=some c∧Q (.str ⟨#[c]⟩) H
theorem b0h:IxR X (rIxL X.K):=by
  intro value slice pins s σ H x y v u Q I rx ry h hs
  obtain⟨p,xs,i,z,rfl,rfl,hq,he,q⟩:=h
  cases rx
  obtain⟨t,rfl⟩:=ry
  obtain⟨its,r,pl,hz⟩:=I.list hq
  obtain⟨j,h1,h2,h3,h4,h5⟩:=atI_get he
  obtain⟨w,ew,rw'⟩:=r.get h2
  have hl:=r.length
  have hn:=line63
  have fin:EP X pins σ Q w s:=⟨z,H,I,rw',q⟩
  by_cases h0:0≤i
  · have hj:i.toNat=j:=by
      rw[seqIndex_of h0 h5]at h1
      exact Option.some.inj h1
    exact item_listR pl.isList h0 (by omega) (by rw[hj];simpa using ew) fin hs
  · have hj:(i+(its.toArray.size:Int)).toNat=j:=by
      rw[seqIndex_neg (by omega) h4]at h1
      rw[List.size_toArray,← hl]
      exact Option.some.inj h1
    exact subscriptTail_builtinR (x:=w) pl.isList.typeIs slot_list_getitem.lookup
      (wpAny_getItem_list_neg (Q:=fun r s'=>r=w∧EP X pins σ Q r s') pl.isList (by omega) (by rw[List.size_toArray] <;>omega) (by omega) (by rw[hj];simpa using ew) ⟨rfl,fin⟩) hs
theorem b0e:IxR X (rIxT X.K):=by
  intro value slice pins s σ H x y v u Q I rx ry h hs
  obtain⟨p,xs,i,z,rfl,rfl,hq,he,q⟩:=h
  cases rx
  obtain⟨t,rfl⟩:=ry
  obtain⟨its,r,pl,hz⟩:=I.tuple hq
  obtain⟨j,h1,h2,h3,h4,h5⟩:=atI_get he
  obtain⟨w,ew,rw'⟩:=r.get h2
  have hl:=r.length
  have hn:=line63
  have fin:EP X pins σ Q w s:=⟨z,H,I,rw',q⟩
  exact subscriptTail_builtinR (x:=w) pl.typeIs slot_tuple_getitem.lookup
    (getItem_tuple (j:=j) (Q:=fun r s'=>r=w∧EP X pins σ Q r s') pl (by omega) (by omega) (by rw[List.size_toArray,← hl];exact h1) (by simpa using ew) ⟨rfl,fin⟩) hs
theorem j0g:IxR X rIxS:=by
  intro value slice pins s σ H x y v u Q I rx ry h hs
  obtain⟨z,i,c,rfl,rfl,hz,he,q⟩:=h
  obtain⟨t,rfl⟩:=rx
  obtain⟨t',rfl⟩:=ry
  obtain⟨j,h1,h2,h3,h4,h5⟩:=atI_get he
  have hl:z.cps.toList.length=z.length:=by simp[Str.length]
  rw[hl]at h1 h4 h5
  have hn:=line63
  exact tail_any (typeIs_str s z t) slot_str_getitem.lookup (getItem_str (c:=c) (by
    have e1:decide (i < -(2 ^ 63:Int))=false:=decide_eq_false (by omega)
    have e2:decide (i ≥ 2 ^ 63)=false:=decide_eq_false (by omega)
    rw[e1,e2,Bool.or_false]) (by rw[h1];simpa using h2) ⟨.str ⟨#[c]⟩,H,I.tok _,⟨_,rfl⟩,q⟩) hs
theorem mapSeq_set(its:List Value)(n j:Nat)(u:Value):Obj.mapSeq (·.setIfInBounds j u) { cls:=.type "list",data:=.seq its.toArray n }={ cls:=.type "list",data:=.seq (its.set j u).toArray n }:=by
  simp[Obj.mapSeq]
theorem Inv.lst{pins:List (Addr × Obj)}{σ:St}{H:Hp}{s:Shared}{p:Addr}{xs:List V}(I:Inv X pins σ H s)(h:H p=some (.lst xs)) :
    ∃(its:List Value) (n:Nat),Vals xs its∧s.heap.get? p=some { cls:=.type "list",data:=.seq its.toArray n }∧xs.length≤sizeLine:=by
  obtain⟨z,its,n,r,e⟩:=I.hok p _ h
  exact⟨its,n,r,e,z⟩
theorem Inv.lstUpd{pins:List (Addr × Obj)}{σ:St}{H:Hp}{s:Shared}{p:Addr}{xs ys:List V}{its its':List Value}{n n':Nat}{f:Obj→Obj}(I:Inv X pins σ H s)(h:H p=some (.lst xs))
    (ho:s.heap.get? p=some { cls:=.type "list",data:=.seq its.toArray n }) (hf:f { cls:=.type "list",data:=.seq its.toArray n }={ cls:=.type "list",data:=.seq its'.toArray n' }) (r:Vals ys its') (hz:ys.length≤sizeLine) (t:Nat) :
    Inv X pins σ (upd H p (.lst ys)) { s with heap:=s.heap.update p f,toks:=t }:=by
  have e:(s.heap.update p f).get? p=some { cls:=.type "list",data:=.seq its'.toArray n' }:=by
    rw[Heap.get?_update_self f ho (by rw[hf] <;>rfl),hf]
  refine I.write (x:=p) (e:=p) (by rw[h];trivial) (.inl rfl) (fun b u hb q=>(Heap.get?_update_other _ _ (Ne.symm hb)).trans q) ⟨_,e⟩ ?_
  exact⟨hz,its',n',r,e⟩
def rSetL:V→V→V→Hp→(Hp→Prop)→Prop:=fun o i v H Q=>∃p xs k j,o=.ref p∧i=.int k∧H p=some (.lst xs)∧ixN xs.length k=some j∧Q (upd H p (.lst (xs.set j v)))
theorem set_list:PSet X rSetL:=by
  intro pins s σ H o i v ov iv u Q I ro ri rv h
  obtain⟨p,xs,k,j,rfl,rfl,hp,hj,q⟩:=h
  cases ro
  obtain⟨t,rfl⟩:=ri
  obtain⟨its,n,r,ho,hz⟩:=I.lst hp
  obtain⟨h1,h2,h3,h4⟩:=ixN_seq hj
  have hl:=r.length
  have hn:=line63
  have I':Inv X pins σ (upd H p (.lst (xs.set j v))) { s with heap:=s.heap.update p (Obj.mapSeq (·.setIfInBounds j u)) }:=
    I.lstUpd hp ho (mapSeq_set its n j u) (r.set rv j) (by rw[List.length_set];exact hz) s.toks
  by_cases h0:0≤k
  · have hk:k.toNat=j:=by
      rw[seqIndex_of h0 h4]at h1
      exact Option.some.inj h1
    exact PySem.W.ki_setAt ho h0 (by omega) (by rw[List.size_toArray,← hl];exact h4) (by rw[hk];exact⟨_,I',q⟩)
  · have hk:(k+(its.toArray.size:Int)).toNat=j:=by
      rw[seqIndex_neg (by omega) h3]at h1
      rw[List.size_toArray,← hl]
      exact Option.some.inj h1
    exact PySem.W.ki_setBack ho (by omega) (by rw[List.size_toArray,← hl];exact h3) (by omega) (by rw[hk];exact⟨_,I',q⟩)
theorem slice_bounds(lo hi:Option Int)(n:Nat):(sliceBounds lo hi none n).1=((HT.sIx n 0 lo:Nat):Int)∧(sliceBounds lo hi none n).2.1=((HT.sIx n n hi:Nat):Int)∧(sliceBounds lo hi none n).2.2=1:=by
  refine⟨?_,?_,rfl⟩
  · cases lo with
    | none=>simp[sliceBounds,HT.sIx]
    | some i=>
      simp only[sliceBounds,HT.sIx,Option.getD_none,show(1:Int) > 0 by decide,if_true]
      by_cases h:i < 0
      · simp only[h,if_true] <;>omega
      · simp only[h,if_false] <;>omega
  · cases hi with
    | none=>simp[sliceBounds,HT.sIx]
    | some i=>
      simp only[sliceBounds,HT.sIx,Option.getD_none,show(1:Int) > 0 by decide,if_true]
      by_cases h:i < 0
      · simp only[h,if_true] <;>omega
      · simp only[h,if_false] <;>omega
theorem j0v(its:List Value)(lo hi:Option Int):slicePick its.toArray lo hi none=((its.drop (HT.sIx its.length 0 lo)).take (HT.sIx its.length its.length hi - HT.sIx its.length 0 lo)).toArray:=by
  obtain⟨h1,h2,h3⟩:=slice_bounds lo hi its.toArray.size
  unfold slicePick
  rw[h1,h2,h3]
  simp only[sliceRange_one,pick_run,List.size_toArray] <;>rfl
def rSlL(K:PySem.W.Frag):V→Option Int→Option Int→Hp→VK→Prop:=fun x lo hi H Q=>∃a xs,x=.ref a∧SqL K H a xs∧∀p,H p=none→Q (.ref p) (upd H p (.lst (cutV xs lo hi)))
theorem c0k:SlR X (rSlL X.K):=by
  intro pins s σ H x v vl vu lo hi sl Q I rx hs pl pu h
  obtain⟨a,xs,rfl,hx,q⟩:=h
  cases rx
  obtain⟨its,r,ht,hz⟩:=I.list hx
  have hlen:=r.length
  refine⟨"list",_,slot_list_getitem.lookup,ht.isList.typeIs,?_⟩
  refine wpAny_getItem_list_slice ht.isList hs pl pu .none (by simp) ?_ (by rw[List.size_toArray] <;>omega)
  rw[j0v,← hlen]
  refine⟨.ref s.heap.objs.size,_,I.laid (t':=s.toks) (o:=.lst (cutV xs lo hi)) (fun b ob q=>Heap.get?_push_of_some _ q) (Nat.le_refl _) ?_,rfl,q _ (I.hok.fresh (Nat.le_refl _))⟩
  exact⟨Nat.le_trans (i0h xs lo hi) hz,_,0,(r.drop (HT.sIx xs.length 0 lo)).take (HT.sIx xs.length xs.length hi - HT.sIx xs.length 0 lo),Heap.get?_push_size _ rfl⟩
def flatV:V→Bool
  | .non=>true
  | .bl _=>true
  | .int _=>true
  | .str _=>true
  | _=>false
def eqV:V→V→Bool
  | .non,.non=>true
  | .bl a,.bl b=>a == b
  | .bl a,.int b=>(if a then 1 else 0) == b
  | .int a,.bl b=>a == (if b then 1 else 0)
  | .int a,.int b=>a == b
  | .str a,.str b=>a == b
  | _,_=>false
theorem eqAt_V{A:Around}{s:Shared}{y x:V}{u v:Value}(ry:RelV y u)(rx:RelV x v)(fy:flatV y=true)(fx:flatV x=true):SeqAt.EqAt A s u v (eqV y x):=by
  cases y with
  | non=>
    cases ry
    cases x with
    | non=>cases rx;exact SeqAt.EqAt.same _
    | bl b=>cases rx;exact SeqAt.EqAt.none_bool b
    | int b=>obtain⟨t,rfl⟩:=rx;exact SeqAt.EqAt.none_int b t
    | str b=>obtain⟨t,rfl⟩:=rx;exact SeqAt.EqAt.none_str b t
    | _=>exact absurd (show false=true from fx) Bool.false_ne_true
  | bl a=>
    cases ry
    cases x with
    | non=>cases rx;exact SeqAt.EqAt.bool_none a
    | bl b=>cases rx;exact SeqAt.EqAt.bool_bool a b
    | int b=>obtain⟨t,rfl⟩:=rx;exact SeqAt.EqAt.bool_int a b t
    | str b=>obtain⟨t,rfl⟩:=rx;exact SeqAt.EqAt.bool_str a b t
    | _=>exact absurd (show false=true from fx) Bool.false_ne_true
  | int a=>
    obtain⟨t',rfl⟩:=ry
    cases x with
    | non=>cases rx;exact SeqAt.EqAt.int_none a t'
    | bl b=>cases rx;exact SeqAt.EqAt.int_bool a t' b
    | int b=>obtain⟨t,rfl⟩:=rx;exact SeqAt.EqAt.int_int a t' b t
    | str b=>obtain⟨t,rfl⟩:=rx;exact SeqAt.EqAt.int_str a t' b t
    | _=>exact absurd (show false=true from fx) Bool.false_ne_true
  | str a=>
    obtain⟨t',rfl⟩:=ry
    cases x with
    | non=>cases rx;exact SeqAt.EqAt.str_none a t'
    | bl b=>cases rx;exact SeqAt.EqAt.str_bool a t' b
    | int b=>obtain⟨t,rfl⟩:=rx;exact SeqAt.EqAt.str_int a t' b t
    | str b=>obtain⟨t,rfl⟩:=rx;exact SeqAt.EqAt.str_str a t' b t
    | _=>exact absurd (show false=true from fx) Bool.false_ne_true
  | _=>exact absurd (show false=true from fy) Bool.false_ne_true
def eqU(x:V)(u:Value):Bool:=match u with
  | .none=>eqV .non x
  | .bool b=>eqV (.bl b) x
  | .int i _=>eqV (.int i) x
  | .str z _=>eqV (.str z) x
  | _=>false
theorem eqU_of{x y:V}{u:Value}(r:RelV y u)(f:flatV y=true):eqU x u=eqV y x:=by
  cases y with
  | non=>cases r;rfl
  | bl b=>cases r;rfl
  | int i=>obtain⟨t,rfl⟩:=r;rfl
  | str z=>obtain⟨t,rfl⟩:=r;rfl
  | _=>exact absurd (show false=true from f) Bool.false_ne_true
theorem any_eqU{x:V}:∀{xs:List V} {us:List Value},Vals xs us→xs.all flatV=true→us.any (eqU x)=xs.any fun y=>eqV y x
  | _,_,.nil,_=>rfl
  | y::xs,u::us,.cons r t,f=>by
    rw[List.all_cons,Bool.and_eq_true]at f
    rw[List.any_cons,List.any_cons,eqU_of r f.1,any_eqU t f.2]
theorem k0k{A:Around}{s:Shared}{x:V}{v:Value}(rx:RelV x v)(fx:flatV x=true):∀{xs:List V} {us:List Value},Vals xs us→xs.all flatV=true→∀u∈us,SeqAt.EqAt A s u v (eqU x u)
  | _,_,.nil,_=>fun u hu=>by cases hu
  | y::xs,u::us,.cons r t,f=>fun u' hu=>by
    rw[List.all_cons,Bool.and_eq_true]at f
    rcases List.mem_cons.mp hu with rfl | hu
    · rw[eqU_of r f.1];exact eqAt_V r rx f.1 fx
    · exact k0k rx fx t f.2 u' hu
def inV(x:V)(xs:List V):Bool:=xs.any fun y=>eqV y x
def rIn(K:PySem.W.Frag)(neg:Bool):R2:=fun x y H Q=>∃p xs,y=.ref p∧(SqL K H p xs∨SqT K H p xs)∧flatV x=true∧xs.all flatV=true∧Q (.bl (if neg then !inV x xs else inV x xs)) H
theorem op_notIn_seq:OpR X (compareOp .NotIn) (rIn X.K true):=by
  intro pins s σ H x y v u Q I rx ry h
  obtain⟨p,xs,rfl,hq,fx,fs,q⟩:=h
  cases ry
  rcases hq with hq | hq
  · obtain⟨its,r,pl,hz⟩:=I.list hq
    refine SeqAt.notIn_listAt (eqU x) pl.isList (fun w hw=>k0k rx fx r fs w (by simpa using hw)) ⟨.bl _,H,I,rfl,?_⟩
    rw[show its.toArray.any (eqU x)=its.any (eqU x) by simp,any_eqU r fs]
    exact q
  · obtain⟨its,r,pl,hz⟩:=I.tuple hq
    refine SeqAt.notIn_tupleAt (eqU x) pl (fun w hw=>k0k rx fx r fs w (by simpa using hw)) ⟨.bl _,H,I,rfl,?_⟩
    rw[show its.toArray.any (eqU x)=its.any (eqU x) by simp,any_eqU r fs]
    exact q
theorem e0j:OpR X (compareOp .NotIn) (fun x y H Q=>∃i j,x=.str i∧y=.str j∧Q (.bl (!(!(Builtin.Str.occurrences j i 0 j.length 1).isEmpty))) H):=by
  intro pins s σ H x y v u Q I rx ry h
  obtain⟨i,j,rfl,rfl,q⟩:=h
  obtain⟨t,rfl⟩:=rx
  obtain⟨t',rfl⟩:=ry
  exact notIn_str ⟨.bl _,H,I,rfl,q⟩
theorem CallR.or{f:Value}{r r':List V→Hp→VK→Prop}(h:CallR X f r)(h':CallR X f r'):CallR X f (fun xs H Q=>r xs H Q∨r' xs H Q):=by
  intro pins s σ H xs us Q I rs q
  rcases q with q | q
  · exact h pins s σ H xs us Q I rs q
  · exact h' pins s σ H xs us Q I rs q
theorem f0z:CallR X (.type "tuple") (fun xs H Q=>∃p ys,xs=[.ref p]∧((SqL X.K H p ys∧∀l,H l=none→Q (.ref l) (upd H l (.tup ys)))∨(SqT X.K H p ys∧Q (.ref p) H))):=by
  intro pins s σ H xs us Q I r h
  obtain⟨p,ys,rfl,h⟩:=h
  obtain⟨u,rfl,rx⟩:=vals1 r
  cases rx
  rcases h with ⟨hq,q⟩ | ⟨hq,q⟩
  · obtain⟨its,r',pl,hz⟩:=I.list hq
    have hlen:=r'.length
    refine call_tuple_list pl.isList (fun h' kp=>?_) (by simp only[List.size_toArray] <;>omega)
    have I1:Inv X pins σ H { s with heap:=h' }:=I.kept (t':=s.toks) kp
    have I2:Inv X pins σ (upd H h'.objs.size (.tup ys)) { s with heap:=h'.push { cls:=.type "tuple",data:=.seq its.toArray } }:=
      I1.laid (t':=s.toks) (fun b o e=>Heap.get?_push_of_some _ e) (Nat.le_refl _) (show ObjOk X.prog X.w _ _ _ (.tup ys)from⟨hz,its,r',IsTup.new _ _,fun _=>⟨_,Heap.get?_push_size _ rfl,rfl⟩⟩)
    exact⟨.ref h'.objs.size,_,I2,rfl,q _ (I1.hok.fresh (Nat.le_refl _))⟩
  · obtain⟨its,r',pl,hz⟩:=I.tuple hq
    exact call_tuple_same pl ⟨.ref p,H,I,rfl,q⟩
def tyV(K:PySem.W.Frag)(T:String)(x:V)(H:Hp):Prop:=match x with
  | .str _=>T="str"
  | .int _=>T="int"
  | .ref p=>(T="list"∧∃xs,SqL K H p xs)∨(T="tuple"∧∃o,K.lookup p=some o∧o.cls=.type "tuple"∧o.dict=none)∨
      (T="dict"∧((∃kvs,H p=some (.dK kvs))∨∃kvs,H p=some (.dT kvs)))∨(T="set"∧∃S n,H p=some (.set S n))
  | _=>False
theorem tyV_is{pins:List (Addr × Obj)}{σ:St}{H:Hp}{s:Shared}{T:String}{x:V}{v:Value}(I:Inv X pins σ H s)(r:RelV x v)(ty:tyV X.K T x H) :
    s.TypeIs v T∧∀a,v=.ref a→∃ob,s.heap.get? a=some ob∧ob.dict=none:=by
  cases x with
  | str z=>
    obtain⟨t,rfl⟩:=r
    cases (show T="str" from ty)
    exact⟨typeIs_str s z t,fun _ e=>nomatch e⟩
  | int i=>
    obtain⟨t,rfl⟩:=r
    cases (show T="int" from ty)
    exact⟨typeIs_int s i t,fun _ e=>nomatch e⟩
  | ref p=>
    cases r
    rcases ty with ⟨rfl,xs,hq⟩ | ⟨rfl,o,hk,hc,hd⟩ | ⟨rfl,hk⟩ | ⟨rfl,S,n,hk⟩
    · obtain⟨its,_,pl,_⟩:=I.list hq
      refine⟨pl.isList.typeIs,fun a e=>?_⟩
      cases e
      obtain⟨o,n,e,c,hd,_⟩:=pl
      exact⟨o,e,hd⟩
    · refine⟨⟨o,I.kIn p o hk,hc⟩,fun a e=>?_⟩
      cases e
      exact⟨o,I.kIn _ o hk,hd⟩
    · have z:∃o,s.heap.get? p=some o∧o.ExactDict:=by
        rcases hk with ⟨kvs,hk⟩ | ⟨kvs,hk⟩
        · obtain⟨_,_,_,_,o,_,_,e,ex,_⟩:=I.hok p _ hk
          exact⟨o,e,ex⟩
        · obtain⟨_,_,_,_,o,_,_,e,ex,_⟩:=I.hok p _ hk
          exact⟨o,e,ex⟩
      obtain⟨o,e,ex⟩:=z
      refine⟨⟨o,e,ex.1⟩,fun a e2=>?_⟩
      cases e2
      exact⟨o,e,ex.2.1⟩
    · obtain⟨o,_,_,_,e,ex,_⟩:=I.hok p _ hk
      refine⟨⟨o,e,ex.1⟩,fun a e2=>?_⟩
      cases e2
      exact⟨o,e,ex.2.1⟩
  | _=>exact False.elim ty
def tBM0(K:PySem.W.Frag)(T:String)(r:V→List V→Hp→VK→Prop)(to:TE):TE:=fun σ H Q=>to σ H fun x H1=>tyV K T x H1∧r x [] H1 Q
def tBM(K:PySem.W.Frag)(T:String)(r:V→List V→Hp→VK→Prop)(to:TE)(t:TA):TE:=fun σ H Q=>to σ H fun x H1=>tyV K T x H1∧t σ H1 fun xs H2=>r x xs H2 Q
variable{o e:Expr}{es:List Expr}{to:TE}{t:TA}{name:Str}{apos cpos:Pos}{T id:String}{r:V→List V→Hp→VK→Prop}
theorem pe_bm0(pa:PlainAttrs T)(slot:Slot T name id)(hty:typeOf (.builtin id)=pure (.type "method_descriptor"))(hm:MtR X id r)(ho:PE X o to)
    (hbase:attributeBase o name X.env (eval o X.env)=eval o X.env:=by rfl) (hline:(apos.endLine == cpos.line)=true:=by rfl):PE X (.Call (.Attribute o name apos) [] [] cpos) (tBM0 X.K T r to):=by
  intro pins s σ H Q I h
  refine wpAny_Call_method0_late hbase hline (thn (ho pins s σ H _ I h) fun v s1 ⟨x,H1,I1,r1,ty,q1⟩=>?_)
  obtain⟨h1,h2⟩:=tyV_is I1 r1 ty
  exact⟨T,id,pa,slot,hty,h1,h2,Calls.callWith_builtin rfl (PySem.evalArgs_none (hm pins s1 σ H1 x [] v [] Q I1 r1 .nil q1))⟩
theorem g0k(pa:PlainAttrs T)(slot:Slot T name id)(hty:typeOf (.builtin id)=pure (.type "method_descriptor"))(hm:MtR X id r)(ho:PE X o to)(ha:PA X (e::es) t)
    (hbase:attributeBase o name X.env (eval o X.env)=eval o X.env:=by rfl)
    (hfew:((backTo cpos (starEach (e::es) X.env)).all (fun x=>!x.1) && (backToKw cpos (keywordEach [] X.env)).all (fun x=>x.1.isSome)
      && decide ((e::es).length+([]:List Keyword).length+(if([]:List Keyword).isEmpty then 0 else 1) < 30))=true:=by rfl)
    (hline:(apos.endLine == cpos.line)=true:=by rfl) (hs:starEach (e::es) X.env=(false,eval e X.env)::starEach es X.env:=by rfl) (hplain:(backTo cpos (starEach es X.env)).any (·.1)=false:=by rfl) :
    PE X (.Call (.Attribute o name apos) (e::es) [] cpos) (tBM X.K T r to t):=by
  intro pins s σ H Q I h
  refine wpAny_Call_method_late hbase hfew hline rfl (thn (ho pins s σ H _ I h) fun v s1 ⟨x,H1,I1,r1,ty,q1⟩=>?_)
  obtain⟨h1,h2⟩:=tyV_is I1 r1 ty
  refine⟨T,id,pa,slot,hty,h1,h2,?_⟩
  have hA:=ha cpos pins s1 σ H1 _ I1 q1
  rw[hs]at hA ⊢
  refine Calls.callWith_builtin (by show(false || (backTo cpos (starEach es X.env)).any (·.1))=false;rw[hplain] <;>rfl) (Calls.evalArgs_plain ?_)
  exact thn hA fun us s2 ⟨vs,H2,I2,r2,q2⟩=>hm pins s2 σ H2 x vs v us Q I2 r1 r2 q2
end
end L2
namespace L2
open PySem PySem.Spec PyProof.Rows
def MtM(X:Cx)(id:String)(r:V→List V→Hp→VK→Prop):Prop:=
  ∀(pins:List (Addr × Obj)) (s:Shared) (σ:St) (H:Hp) (x:V) (xs:List V) (v:Value) (us:List Value) (Q:VK),Inv X pins σ H s→RelV x v→Vals xs us→r x xs H Q→
    wpAny (model X.prog X.w) X.A (call (.builtin id) (v::us)) (EP X pins σ Q) X.xe s
theorem Vals.one:∀{x:V} {us:List Value},Vals [x] us→∃u,us=[u]∧RelV x u
  | _,_,.cons r .nil=>⟨_,rfl,r⟩
theorem Vals.two:∀{x y:V} {us:List Value},Vals [x,y] us→∃u v,us=[u,v]∧RelV x u∧RelV y v
  | _,_,_,.cons r (.cons q .nil)=>⟨_,_,rfl,r,q⟩
theorem Vals.zero:∀{us:List Value},Vals [] us→us=[]
  | _,.nil=>rfl
theorem Vals.dropLast{xs:List V}{us:List Value}(h:Vals xs us):Vals xs.dropLast us.dropLast:=by
  induction h with
  | nil=>exact .nil
  | cons r t ih=>
    cases t with
    | nil=>exact .nil
    | cons q t'=>exact .cons r ih
theorem Vals.eraseIdx:∀{xs:List V} {us:List Value} (i:Nat),Vals xs us→Vals (xs.eraseIdx i) (us.eraseIdx i)
  | _,_,_,.nil=>.nil
  | _,_,0,.cons _ t=>t
  | _,_,i+1,.cons r t=>.cons r (Vals.eraseIdx i t)
theorem Vals.reverse{xs:List V}{us:List Value}(h:Vals xs us):Vals xs.reverse us.reverse:=by
  induction h with
  | nil=>exact .nil
  | cons r t ih=>rw[List.reverse_cons,List.reverse_cons];exact Vals.append ih (.cons r .nil)
theorem Vals.rep{xs:List V}{us:List Value}(h:Vals xs us):∀k:Nat,Vals (List.replicate k xs).flatten (List.replicate k us).flatten
  | 0=>.nil
  | k+1=>by
    rw[List.replicate_succ,List.replicate_succ,List.flatten_cons,List.flatten_cons]
    exact Vals.append h (Vals.rep h k)
theorem erase_last{α:Type}(l:List α):l.eraseIdx (l.length - 1)=l.dropLast:=by
  induction l with
  | nil=>rfl
  | cons a r ih=>
    cases r with
    | nil=>rfl
    | cons b r=>
      have e:(a::b::r).length - 1=((b::r).length - 1)+1:=by
        have h1:(a::b::r).length=r.length+2:=rfl
        have h2:(b::r).length=r.length+1:=rfl
        omega
      rw[e,List.eraseIdx_cons_succ,ih]
      all_goals rfl
theorem len_erase{α:Type}:∀(l:List α) (i:Nat),(l.eraseIdx i).length≤l.length
  | [],_=>Nat.le_refl _
  | _::_,0=>Nat.le_succ _
  | _::r,i+1=>Nat.succ_le_succ (len_erase r i)
theorem foldl_rep(its:List Value):∀(k:Nat) (acc:List Value),
    List.foldl (fun x1 x2=>x1++x2) acc.toArray (List.replicate k its.toArray)=(acc++(List.replicate k its).flatten).toArray
  | 0,acc=>by simp
  | k+1,acc=>by
    have e:acc.toArray++its.toArray=(acc++its).toArray:=by simp
    have e2:(acc++its)++(List.replicate k its).flatten=acc++(List.replicate (k+1) its).flatten:=by
      rw[List.replicate_succ,List.flatten_cons,List.append_assoc]
    rw[← e2,← foldl_rep its k (acc++its),← e,List.replicate_succ,List.foldl_cons]
section
variable{X:Cx}{pins:List (Addr × Obj)}{σ:St}{H:Hp}{s:Shared}{l b:Addr}{xs ys zs:List V}
theorem Inv.lset{its its':List Value}{n:Nat}{f:Array Value→Array Value}{t':Nat}(I:Inv X pins σ H s)(hH:H l=some (.lst xs))
    (e:s.heap.get? l=some { cls:=.type "list",data:=.seq its.toArray n }) (hf:f its.toArray=its'.toArray) (hv:Vals ys its') (hz:ys.length≤sizeLine) :
    Inv X pins σ (upd H l (.lst ys)) { s with heap:=s.heap.update l (Obj.mapSeq f),toks:=t' }:=by
  have q:=PySem.IsL.update e f
  rw[hf]at q
  refine I.write (x:=l) (e:=l) (by rw[hH];exact trivial) (.inl rfl) (fun b' u hb hu=>(Heap.get?_update_other s.heap (Obj.mapSeq f) (Ne.symm hb)).trans hu) ⟨_,q⟩ ?_
  exact⟨hz,its',_,hv,q⟩
theorem Inv.lnew{its:List Value}{t':Nat}(I:Inv X pins σ H s)(hv:Vals ys its)(hz:ys.length≤sizeLine) :
    Inv X pins σ (upd H s.heap.objs.size (.lst ys)) { s with heap:=s.heap.push { cls:=.type "list",data:=.seq its.toArray },toks:=t' }:=
  I.laid (fun _ _ q=>Heap.get?_push_of_some _ q) (Nat.le_refl _) ⟨hz,its,0,hv,Heap.get?_push_size _ rfl⟩
theorem Inv.fresh(I:Inv X pins σ H s):H s.heap.objs.size=none:=I.hok.fresh (Nat.le_refl _)
theorem Inv.lstM(I:Inv X pins σ H s)(hH:H l=some (.lst xs)):xs.length≤sizeLine∧∃(its:List Value) (n:Nat),Vals xs its∧xs.length=its.length∧s.heap.get? l=some { cls:=.type "list",data:=.seq its.toArray n }:=by
  obtain⟨z,its,n,r,e⟩:=I.hok l _ hH
  exact⟨z,its,n,r,r.length,e⟩
theorem notLongL{n:Nat}(h:n≤sizeLine):Builtin.List.listTooLong n=false:=by
  unfold Builtin.List.listTooLong
  exact decide_eq_false (by omega)
end
section
variable{X:Cx}
def rAppend:V→List V→Hp→VK→Prop:=fun x vs H Q=>∃l xs y,x=.ref l∧vs=[y]∧H l=some (.lst xs)∧xs.length < sizeLine∧Q .non (upd H l (.lst (xs++[y])))
theorem h0w:MtM X "list.append" rAppend:=by
  intro pins s σ H x vs v us Q I rx rv h
  obtain⟨l,xs,y,rfl,rfl,hH,hz,q⟩:=h
  cases rx
  obtain⟨u,rfl,ru⟩:=rv.one
  obtain⟨z,its,n,r,hl,e⟩:=I.lstM hH
  refine call_meets F.slot_list_append ⟨_,e,rfl⟩ F.entry_list_append (F.args_list_append_2 _ _) (PySem.list_append l its.toArray n u (by rw[List.size_toArray];omega)) ⟨e,?_⟩
  refine⟨.non,_,I.lset (its':=its++[u]) hH e (by simp) (r.append (.cons ru .nil)) ?_,rfl,q⟩
  rw[List.length_append,List.length_singleton]
  omega
def rExtend:V→List V→Hp→VK→Prop:=fun x vs H Q=>∃l b xs zs,x=.ref l∧vs=[.ref b]∧H l=some (.lst xs)∧H b=some (.lst zs)∧xs.length+zs.length≤sizeLine∧Q .non (upd H l (.lst (xs++zs)))
theorem mt_extend:MtM X "list.extend" rExtend:=by
  intro pins s σ H x vs v us Q I rx rv h
  obtain⟨l,b,xs,zs,rfl,rfl,hH,hB,hz,q⟩:=h
  cases rx
  obtain⟨u,rfl,ru⟩:=rv.one
  cases ru
  obtain⟨z,its,n,r,hl,e⟩:=I.lstM hH
  obtain⟨z2,its2,n2,r2,hl2,e2⟩:=I.lstM hB
  have hsz:its.toArray.size+its2.toArray.size≤sizeLine:=by rw[List.size_toArray,List.size_toArray];omega
  have hlong:¬(!its.toArray.isEmpty && Builtin.List.listTooLong (its.toArray.size+its2.toArray.size))=true:=by
    rw[notLongL hsz,Bool.and_false]
    exact Bool.false_ne_true
  refine call_meets F.slot_list_extend ⟨_,e,rfl⟩ F.entry_list_extend (F.args_list_extend_2 _ _)
    (AutoSeq1.list_extend_list_list_0 l its.toArray n b its2.toArray n2 hlong (by rw[List.size_toArray];omega) (by omega)) ⟨e,e2,?_⟩
  refine⟨.non,_,I.lset (its':=its++its2) hH e (by simp) (r.append r2) ?_,rfl,q⟩
  rw[List.length_append]
  omega
def rPop:V→List V→Hp→VK→Prop:=fun x vs H Q=>∃l xs y,x=.ref l∧vs=[]∧H l=some (.lst xs)∧xs[xs.length - 1]? = some y∧Q y (upd H l (.lst xs.dropLast))
theorem mt_pop:MtM X "list.pop" rPop:=by
  intro pins s σ H x vs v us Q I rx rv h
  obtain⟨l,xs,y,rfl,rfl,hH,hy,q⟩:=h
  cases rx
  have hus:=rv.zero
  subst hus
  obtain⟨z,its,n,r,hl,e⟩:=I.lstM hH
  obtain⟨u,hu,ru⟩:=r.get hy
  have hy':its.toArray[its.toArray.size - 1]? = some u:=by
    show its.toArray[its.length - 1]? = some u
    rw[← Array.getElem?_toList,← hl]
    exact hu
  refine call_meets F.slot_list_pop ⟨_,e,rfl⟩ F.entry_list_pop (F.args_list_pop_1 _) (MeetsSeq.list_pop_last l its.toArray n u hy' (by rw[List.size_toArray];omega)) ⟨e,?_⟩
  refine⟨y,_,I.lset (its':=its.dropLast) hH e ?_ r.dropLast ?_,ru,q⟩
  · show its.toArray.eraseIdxIfInBounds (its.toArray.size - 1)=its.dropLast.toArray
    rw[List.size_toArray,List.eraseIdxIfInBounds_toArray,erase_last]
  · rw[List.length_dropLast]
    omega
def rPopAt:V→List V→Hp→VK→Prop:=fun x vs H Q=>∃l xs i k y,x=.ref l∧vs=[.int i]∧H l=some (.lst xs)∧-(2 ^ 63)≤i∧i < 2 ^ 63∧seqIndex? i xs.length=some k∧xs[k]? = some y∧Q y (upd H l (.lst (xs.eraseIdx k)))
theorem mt_popAt:MtM X "list.pop" rPopAt:=by
  intro pins s σ H x vs v us Q I rx rv h
  obtain⟨l,xs,i,k,y,rfl,rfl,hH,h1,h2,hk,hy,q⟩:=h
  cases rx
  obtain⟨u,rfl,ru⟩:=rv.one
  obtain⟨t,rfl⟩:=ru
  obtain⟨z,its,n,r,hl,e⟩:=I.lstM hH
  obtain⟨w,hw,rw'⟩:=r.get hy
  refine call_meets F.slot_list_pop ⟨_,e,rfl⟩ F.entry_list_pop (F.args_list_pop_2 _ _)
    (MeetsSeq.list_pop_at l its.toArray n i t k w (fitsIndex_both h1 h2) (by rw[List.size_toArray,← hl];exact hk) (by rw[← Array.getElem?_toList];exact hw) (by rw[List.size_toArray];omega)) ⟨e,?_⟩
  refine⟨y,_,I.lset (its':=its.eraseIdx k) hH e ?_ (r.eraseIdx k) ?_,rw',q⟩
  · show its.toArray.eraseIdxIfInBounds k=(its.eraseIdx k).toArray
    rw[List.eraseIdxIfInBounds_toArray]
  · have:=len_erase xs k
    omega
def rCat:R2:=fun x y H Q=>∃l b xs zs,x=.ref l∧y=.ref b∧H l=some (.lst xs)∧H b=some (.lst zs)∧xs.length+zs.length≤sizeLine∧∀p,H p=none→Q (.ref p) (upd H p (.lst (xs++zs)))
theorem c0w:OpR X (binaryOp .Add) rCat:=by
  intro pins s σ H x y v u Q I rx ry h
  obtain⟨l,b,xs,zs,rfl,rfl,hH,hB,hz,q⟩:=h
  cases rx
  cases ry
  obtain⟨z,its,n,r,hl,e⟩:=I.lstM hH
  obtain⟨z2,its2,n2,r2,hl2,e2⟩:=I.lstM hB
  refine PySem.P.add_list e e2 ?_ (by rw[List.size_toArray,List.size_toArray];omega)
  have ea:its.toArray++its2.toArray=(its++its2).toArray:=by simp
  rw[ea]
  exact⟨.ref _,_,I.lnew (t':=s.toks) (r.append r2) (by rw[List.length_append];omega),rfl,q _ I.fresh⟩
def rRep:R2:=fun x y H Q=>∃l k xs,x=.ref l∧y=.int k∧H l=some (.lst xs)∧-(2 ^ 63)≤k∧k < 2 ^ 63∧xs.length * k.toNat≤sizeLine∧
  ∀p,H p=none→Q (.ref p) (upd H p (.lst (List.replicate k.toNat xs).flatten))
theorem k0u{α:Type}(xs:List α)(k:Nat):(List.replicate k xs).flatten.length=k * xs.length:=by
  induction k with
  | zero=>simp
  | succ k ih=>rw[List.replicate_succ,List.flatten_cons,List.length_append,ih,Nat.succ_mul,Nat.add_comm]
theorem op_rep:OpR X (binaryOp .Mult) rRep:=by
  intro pins s σ H x y v u Q I rx ry h
  obtain⟨l,k,xs,rfl,rfl,hH,h1,h2,hz,q⟩:=h
  cases rx
  obtain⟨t,rfl⟩:=ry
  obtain⟨z,its,n,r,hl,e⟩:=I.lstM hH
  have hlen:its.toArray.size * k.toNat≤sizeLine:=by rw[List.size_toArray,← hl];exact hz
  have hcap:¬its.toArray.size * k.toNat > (2 ^ 63 - 1) / 8:=by
    have:(sizeLine:Nat)≤(2 ^ 63 - 1) / 8:=by decide
    omega
  have hfit:¬(!Builtin.List.listFitsIndex k)=true:=by
    rw[fitsIndex_both h1 h2]
    exact Bool.false_ne_true
  have hlong:¬Builtin.List.listTooLong (its.toArray.size * k.toNat)=true:=by
    rw[notLongL hlen]
    exact Bool.false_ne_true
  have hnew:List.foldl (fun x1 x2=>x1++x2) #[] (List.replicate (if its.toArray.isEmpty=true then 0 else k.toNat) its.toArray)=(List.replicate k.toNat its).flatten.toArray:=by
    have f0:∀m:Nat,List.foldl (fun x1 x2=>x1++x2) #[] (List.replicate m its.toArray)=(List.replicate m its).flatten.toArray:=fun m=>by
      have:=foldl_rep its m []
      rw[List.nil_append]at this
      exact this
    rw[f0]
    cases its with
    | nil=>simp
    | cons a r'=>rw[if_neg (by simp)]
  refine wpAny_binaryOp_repeat_ref (T:="list") (U:="int") (by decide) ⟨_,e,rfl⟩ (fun s'=>typeIs_int s' k t) noFill_list_mul F.fills_int_mul F.slot_int_rmul repeat_list F.slot_int_index.lookup
    (call_meets F.slot_int_rmul (typeIs_int s k t) F.entry_int_rmul (F.args_int_rmul_2 _ _) (int___rmul___int_list k t l its.toArray n)
      ⟨e,rfl,⟨_,e,rfl⟩,call_meets F.slot_list_mul ⟨_,e,rfl⟩ F.entry_list_mul (F.args_list_mul_2 _ _) (AutoListH.list___mul___list_int_3 l its.toArray n k t hfit hcap hlong) ⟨e,?_⟩⟩)
  rw[hnew]
  exact⟨.ref _,_,I.lnew (t':=s.toks) (r.rep k.toNat) (by rw[k0u,Nat.mul_comm];exact hz),rfl,q _ I.fresh⟩
end
section
variable{prog:Program}{w:World}{A:Around}{E:Value→Shared→Prop}{s:Shared}
set_option maxRecDepth 100000 in
end
section
variable{X:Cx}
end
end L2
namespace Att
open PySem PySem.W PySem.Calls PyProof.Rows
theorem i0e{P:Params}{h:Heap}:∀(ns:List Int) (vs:List Value),WellAll P h vs (ns.map WData.int)→IntsAre vs ns:=by
  intro ns
  induction ns with
  | nil=>
    intro vs w
    rw[List.map_nil]at w
    cases w
    exact .nil
  | cons n ns ih=>
    intro vs w
    rw[List.map_cons]at w
    cases w with
    | cons a b=>
      cases a
      exact .cons _ _ (ih _ b)
theorem script_of{l:OpenLaw}{n:Nat}(hn:l.most=some n){P:Params}{h:Heap}{args:List WData}{vals:List Value}
    (hpre:l.row.toRowW.claim.pre args=true) (hwl:WellAll P h vals args) :
    ∃a vs ns,vals=[Value.ref a]∧args=[WData.list (ns.map WData.int)]∧h.get? a=some { cls:=.type "list",data:=.seq vs.toArray }∧IntsAre vs ns∧ns.length≤n:=by
  have hsh:WShape.hasAll [] args [.list .int]=true:=(pre_splitW hpre).1
  have hc:l.pre.holds [] { args:=args }=true:=(pre_splitW hpre).2
  obtain⟨d,r,rfl,h1,h2⟩:=hasAllW_cons hsh
  obtain rfl:=hasAllW_nil h2
  obtain⟨xs,rfl,h3⟩:=hasW_list h1
  obtain⟨ns,rfl⟩:=items_int h3
  have hlen:ns.length≤n:=by
    unfold OpenLaw.pre at hc
    have h4:(WTm.not (.lt (.lit (.int (n:Int))) (.len (.arg 0)))).holds [] { args:=[.list (ns.map .int)] }=true:=by
      have h4:=(holds_andW hc).1
      rw[hn]at h4
      exact h4
    have h5:=condW_of h4 (w_not (w_lt w_lit (w_len_list (w_arg rfl))))
    rw[List.length_map]at h5
    refine Nat.le_of_not_lt fun q=>?_
    have q':(n:Int) < ((ns.length:Nat):Int):=by omega
    first
      | (rw[decide_eq_true q']at h5;exact absurd h5 (by decide))
      | (simp at h5;omega)
  cases hwl with
  | cons w1 w2=>
    cases w2
    cases w1 with
    | list ho hall=>exact⟨_,_,ns,rfl,rfl,ho,i0e ns _ hall,hlen⟩
theorem post_true(l:OpenLaw)(args:List WData):l.row.toRowW.claim.post args (.bool true) args=true:=
  postW_of (r:=l.row.toRowW) (X:=(true == true))
    (show WShape.has [] (.bool true) .bool=true by first | rfl | decide | simp[WShape.has,WShape.arms,WShape.armsAll])
    (show(WTm.eq .res (.lit (.bool true))).value [] { args:=args,res:=some (.bool true),after:=args }=some (.bool (true == true))from w_eq_bool (w_res rfl) w_lit) rfl
theorem attach_call{l:OpenLaw}{n:Nat}{q:Program}{loose:List Str}{XP:(Str→Option Value)→Heap→Prop}{YP:World→Heap→Prop}{d:DefRec}
    (hn:l.most=some n) (hdf:d.params.defaults=[])
    (call:∀(w:World) (s₀ s₁:Shared) (mg mb:Str→Option Value) (fa:Addr) (o:Obj) (pm cd doc:Value) (a:Addr) (vs:List Value) (ns:List Int),
      Ground q loose [] XP w s₀ mg mb s₁.heap→YP w s₁.heap→
      s₁.heap.get? fa=some o→o.data=.func (docDef d.name d.params d.body d.scope pm cd doc)→s₁.heap.CodeRec cd d.name→mg d.name=some (.ref fa)→
      s₁.heap.get? a=some { cls:=.type "list",data:=.seq vs.toArray }→IntsAre vs ns→ns.length≤n→s₁.gens=#[]→
      codeAny (model l.prog w) callerA (.call (.ref fa) ⟨[.ref a],[]⟩) (fun r s'=>r=.ok (.ret (.bool true))∧OldK s₁.heap s'.heap∧s'.os=s₁.os∧AllBare s'.gens) s₁) :
    WalkO q loose XP YP l.row.toRowW d [] (fun f vs=>PySem.call f vs):=by
  intro w s₀ s₁ mg mb G Y fa o pm cd doc dV kV ho hd hcd hD hmg hg args vals as hpre hlay hrd hwl hlo
  obtain rfl:dV=.none:=Dflts.none hD hdf
  obtain rfl:kV=.none:=Dflts.noKw hD
  obtain⟨a,vs,ns,rfl,rfl,hobj,hints,hlen⟩:=script_of hn hpre hwl
  refine enter_call (codeAny_mono (call w s₀ s₁ mg mb fa o pm cd doc a vs ns G Y ho (fd_plain hd) hcd hmg hobj hints hlen hg) fun r s' hq=>?_)
  obtain⟨rfl,h2,h3,h4⟩:=hq
  exact⟨.inl ⟨.bool true,.bool true,[],rfl,fun _=>rfl,.bool true,post_true l _,fun _=>⟨List.Pairwise.nil,fun _ hm=>(nomatch hm)⟩⟩,h2,h3,h4⟩
section
variable{prog:Program}{w:World}{A:Around}{E:Value→Shared→Prop}{s:Shared}{K:Frag}
def ledger(h:Heap)(L d:Addr):List (Addr × Obj):=(List.range h.objs.size).filterMap fun a=>if a=L∨a=d then none else(h.get? a).map fun o=>(a,o)
end
end Att
namespace L2
open PySem PySem.Spec PyProof.Rows
theorem vals_ints:∀{vs:List Value} {ns:List Int},IntsAre vs ns→Vals (ns.map V.int) vs
  | _,_,.nil=>.nil
  | _,_,.cons n t h=>.cons ⟨t,rfl⟩ (vals_ints h)
def Only(H:Hp):Prop:=∀b,H b=none∨∃o xs,H b=some (.frz o (.lst xs))
theorem law_call{P:Program}{w:World}{K:PySem.W.Frag}{mg mb:Str→Option Value}{CX:CXT}{k:Nat}{fa a:Addr}{fd:FuncData}{x:Str}{sp:Sp}{s₁:Shared}{vs:List Value}{ns:List Int}
    (KX:K.In s₁.heap) (hns:s₁.heap.Ns mainGlobals mg) (hb:s₁.heap.Ns builtinsNs mb) (hbb:∀x:Str,x≠"__name__"→mb x=bootBuiltins x) (hlim:s₁.heap.NoLimit) (hsee:s₁.heap.NoSeer) (hg:s₁.gens=#[])
    (ha:s₁.heap.get? a=some { cls:=.type "list",data:=.seq vs.toArray }) (hi:IntsAre vs ns) (hl:ns.length≤sizeLine) (hr:Room k callerA)
    (F:∀base:Heap,K.In base→base.Ns mainGlobals mg→FnOk P w K mg base CX k fa fd [x] sp) (hbind:∀(s:Shared) (u:Value),BindsTo s fd ⟨[u],[]⟩ [(x,u)])
    (hsp:∀H:Hp,Only H→SqL K H a (ns.map V.int)→sp [.ref a] H (fun v _=>v=.bl true) fun _ _ _=>False)
    (hCX:∀H e s',CX [] H s₁ (fun _ _ _=>False) e s'→False) :
    codeAny (model P w) callerA (.call (.ref fa) ⟨[.ref a],[]⟩) (fun r s'=>r=.ok (.ret (.bool true))∧OldK s₁.heap s'.heap∧s'.os=s₁.os∧AllBare s'.gens) s₁:=by
  have rv:=vals_ints hi
  have lenV:=hi.length
  have core:∀H:Hp,Only H→SqL K H a (ns.map V.int)→HOk P w H s₁.heap→(∀b,H b≠none→b=a)→(H a≠none→K.lookup a=none)→
      codeAny (model P w) callerA (.call (.ref fa) ⟨[.ref a],[]⟩) (fun r s'=>r=.ok (.ret (.bool true))∧OldK s₁.heap s'.heap∧s'.os=s₁.os∧AllBare s'.gens) s₁:=by
    intro H hO hS hok hA hK
    have base_of:∀{b:Addr} {o:Obj},s₁.heap.get? b=some o→H b=none→(hidT s₁.heap H).get? b=some o:=fun e n=>hidT_get e n
    have noA:∀{b:Addr} {o:Obj} {es:Array DictEntry} {ep:Nat},s₁.heap.get? b=some o→o.data=.dict es ep→H b=none:=fun{b o es ep} e d=>by
      cases q:H b with
      | none=>rfl
      | some u=>
        have e':b=a:=hA b (by rw[q];simp)
        subst e'
        rw[ha]at e;cases e
        have d':Data.seq vs.toArray _=Data.dict es ep:=d
        cases d'
    have nsK:∀{b:Addr} {m:Str→Option Value},s₁.heap.Ns b m→(hidT s₁.heap H).Ns b m:=fun{b m} ⟨o,es,ep,e,d,r⟩=>⟨o,es,ep,base_of e (noA e d),d,r⟩
    have hKb:K.In (hidT s₁.heap H):=fun b o e=>base_of (KX b o e) (by
      cases q:H b with
      | none=>rfl
      | some u=>
        have e':b=a:=hA b (by rw[q];simp)
        subst e'
        rw[hK (by rw[q];simp)]at e;cases e)
    have hM:Mod K mg (hidT s₁.heap H):=⟨hKb,nsK hns,⟨mb,nsK hb,hbb⟩,let⟨mc,h1,h2⟩:=hlim;⟨mc,nsK h1,h2⟩,
      ⟨let⟨mc,h1,h2⟩:=hsee.statics;⟨mc,nsK h1,h2⟩,let⟨mc,h1,h2⟩:=hsee.mods;⟨mc,nsK h1,h2⟩,let⟨mc,h1,h2⟩:=hsee.imp;⟨mc,nsK h1,h2⟩,by
        obtain⟨mg',bm,ob,n1,n2,n3,n4,n5⟩:=hsee.main
        refine⟨mg',bm,ob,nsK n1,n2,base_of n3 ?_,n4,n5⟩
        cases q:H bm with
        | none=>rfl
        | some u=>
          have e':bm=a:=hA bm (by rw[q];simp)
          subst e'
          rw[ha]at n3;cases n3
          exact absurd (show Value.type "list"=Value.type "module" from n4) (fun z=>by injection z with z;exact absurd z (by decide))⟩⟩
    have e0:Env0 P w K mg (hidT s₁.heap H) callerA [] s₁ H:=⟨rfl,hM,fun b o e=>of_hidT e,Nat.le_of_eq (hidT_size _ _),trivial,fun b hb=>absurd (show b∈([]:List Addr)from hb) (by simp),hok,.of_eq hg⟩
    refine codeAny_mono ((F _ hKb (nsK hns)).run callerA [] s₁ H ⟨[.ref a],[]⟩ [.ref a] [.ref a] _ _ hr e0 (hbind s₁ (.ref a)) (.cons rfl .nil) (hsp H hO hS)) fun r s' h=>?_
    cases r with
    | error e=>exact(hCX H e s' h).elim
    | ok fl=>
      cases fl with
      | next=>exact False.elim h
      | brk=>exact False.elim h
      | cont=>exact False.elim h
      | ret u=>
        obtain⟨v,H',os,bare,un,hok',r',q⟩:=h
        have q':v=.bl true:=q
        subst q'
        obtain rfl:u=Value.bool true:=r'
        refine⟨rfl,OldK.of_keep fun b o e=>?_,os,bare⟩
        cases q:H b with
        | none=>exact un.keep b o e q (by intro z;exact absurd (show b∈([]:List Addr)from z) (by simp)) (by simp)
        | some u=>
          rcases hO b with z | ⟨ob,xs,z⟩
          · rw[q]at z;cases z
          · have z2:=un.frzs b ob _ z
            obtain⟨e1,_⟩:=hok b _ z
            obtain⟨e2,_⟩:=hok' b _ z2
            rw[e]at e1;cases e1
            exact e2
  cases hk:K.lookup a with
  | some o=>
    have e:=KX a o hk
    rw[ha]at e
    cases e
    refine core (fun _=>none) (fun _=>.inl rfl) (.inr ⟨_,vs.toArray,_,hk,rfl,rfl,rfl,by rw[List.size_toArray,lenV];exact hl,by simpa using rv⟩) (fun b u z=>by have z':(none:Option HO)=some u:=z;cases z') (fun b z=>absurd rfl z) fun z=>absurd rfl z
  | none=>
    refine core (fun b=>if b=a then some (.frz { cls:=.type "list",data:=.seq vs.toArray } (.lst (ns.map V.int)))else none) (fun b=>?_) (.inl (.inr ⟨{ cls:=.type "list",data:=.seq vs.toArray },if_pos rfl⟩)) (fun b u z=>?_) (fun b z=>?_) fun _=>hk
    · by_cases hb:b=a
      · exact .inr ⟨_,_,if_pos hb⟩
      · exact .inl (if_neg hb)
    · by_cases hb:b=a
      · have z':=(if_pos hb).symm.trans z
        cases z'
        subst hb
        exact⟨ha,by rw[List.length_map];exact hl,vs,_,rv,ha⟩
      · have z':=(if_neg hb).symm.trans z
        cases z'
    · by_cases hb:b=a
      · exact hb
      · exact absurd (if_neg hb) z
end L2
namespace L2
open PySem PySem.Spec PyProof.Rows
abbrev KOf{K:PySem.W.Frag}{h:Heap}(_:K.In h):PySem.W.Frag:=K
theorem walk_of{l:PySem.W.OpenLaw}{n k:Nat}{q:Program}{loose:List Str}{XP:(Str→Option Value)→Heap→Prop}{YP:World→Heap→Prop}{d:DefRec}{K:Params→PySem.W.Frag}{CX:World→CXT}{sp:World→Sp}{x:Str}
    (hn:l.most=some n) (hn2:n≤sizeLine) (hdf:d.params.defaults=[]) (hr:Room k callerA) (hq:importsNone q=true)
    (hY:∀(w:World) (h:Heap),YP w h→(K w.params).In h)
    (F:∀(w:World) (mg:Str→Option Value) (fa:Addr) (h:Heap),(K w.params).In h→h.Ns mainGlobals mg→mg d.name=some (.ref fa)→
      ∃fd:FuncData,(∀(s:Shared) (u:Value),BindsTo s fd ⟨[u],[]⟩ [(x,u)])∧
        ∀base:Heap,(K w.params).In base→base.Ns mainGlobals mg→FnOk l.prog w (K w.params) mg base (CX w) k fa fd [x] (sp w))
    (hsp:∀(w:World) (H:Hp) (a:Addr) (ns:List Int),ns.length≤n→Only H→SqL (K w.params) H a (ns.map V.int)→sp w [.ref a] H (fun v _=>v=.bl true) fun _ _ _=>False)
    (hCX:∀(w:World) (H:Hp) (s:Shared) (e:Value) (s':Shared),CX w [] H s (fun _ _ _=>False) e s'→False) :
    PySem.W.WalkO q loose XP YP l.row.toRowW d [] (fun f vs=>PySem.call f vs):=by
  refine Att.attach_call hn hdf fun w s₀ s₁ mg mb fa o pm cd doc a vs ns G Y ho hd hcd hmg hobj hints hlen hg=>?_
  have KX:=hY w _ Y
  obtain⟨fd,hb,hF⟩:=F w mg fa _ KX G.T.g hmg
  exact law_call KX G.T.g G.T.b G.T.builtins G.T.nolimit (G.T.seer hq) hg hobj hints (Nat.le_trans hlen hn2) hr hF hb (fun H hO hS=>hsp w H a ns hlen hO hS) fun H e s'=>hCX w H s₁ e s'
theorem walk_ofK{l:PySem.W.OpenLaw}{n k:Nat}{q:Program}{loose:List Str}{XP:(Str→Option Value)→Heap→Prop}{YP:World→Heap→Prop}{d:DefRec}{K:Params→PySem.W.Frag}{CX:CXT}{sp:PySem.W.Frag→Sp}{x:Str}
    (hn:l.most=some n) (hn2:n≤sizeLine) (hdf:d.params.defaults=[]) (hr:Room k callerA) (hq:importsNone q=true)
    (hY:∀(w:World) (h:Heap),YP w h→(K w.params).In h)
    (F:∀(w:World) (mg:Str→Option Value) (fa:Addr) (h:Heap),(K w.params).In h→h.Ns mainGlobals mg→mg d.name=some (.ref fa)→
      ∃fd:FuncData,(∀(s:Shared) (u:Value),BindsTo s fd ⟨[u],[]⟩ [(x,u)])∧
        ∀base:Heap,(K w.params).In base→base.Ns mainGlobals mg→FnOk l.prog w (K w.params) mg base CX k fa fd [x] (sp (K w.params)))
    (hsp:∀(K:PySem.W.Frag) (H:Hp) (a:Addr) (ns:List Int),ns.length≤n→Only H→SqL K H a (ns.map V.int)→sp K [.ref a] H (fun v _=>v=.bl true) fun _ _ _=>False)
    (hCX:∀(H:Hp) (s:Shared) (e:Value) (s':Shared),CX [] H s (fun _ _ _=>False) e s'→False) :
    PySem.W.WalkO q loose XP YP l.row.toRowW d [] (fun f vs=>PySem.call f vs):=
  walk_of (K:=K) (CX:=fun _=>CX) (sp:=fun w=>sp (K w.params)) hn hn2 hdf hr hq hY F (fun w H a ns h1 h2 h3=>hsp (K w.params) H a ns h1 h2 h3) fun _ H s e s'=>hCX H s e s'
end L2
namespace L2
open PySem PySem.Spec PyProof.Rows
def a0i(s:Stmt)(j:Nat):Stmt:=match s with
  | .ClassDef _ _ _ body _ _ _ _ _ _ _=>body.getD j (.Pass ⟨0,0,0,0⟩)
  | _=>.Pass ⟨0,0,0,0⟩
def c0h(s:Stmt):Arguments:=match s with
  | .FunctionDef _ a _ _ _ _ _ _ _ _=>a
  | _=>{ posonlyargs:=[],args:=[],vararg:=none,kwonlyargs:=[],kw_defaults:=[],kwarg:=none,defaults:=[] }
def c0a(s:Stmt):List Stmt:=match s with
  | .FunctionDef _ _ b _ _ _ _ _ _ _=>b
  | _=>[]
def a0k(s:Stmt):Scope:=match s with
  | .FunctionDef _ _ _ _ _ _ sc _ _ _=>sc
  | _=>{ kind:=.function,names:=[],isGenerator:=false,isCoroutine:=false }
abbrev CX0:CXT:=fun _ _ _ _ _ _=>False
abbrev E0:XK:=fun _ _ _=>False
theorem a0z{X:Cx}:j0p CX0 X E0:=fun _ _ _ _ _ _ _ h=>h.elim
structure Fun(K:PySem.W.Frag)(x qual:Str)(st:Stmt)(f:Addr)(fd:FuncData):Prop where
  ex:∃(oc:Value) (od:Option Addr) (kV doc pm:Value) (an:Option Addr) (cdv ct:Value) (osl:Array (Option Value)),
    fd=PySem.W.fnOf x qual (c0h st) (c0a st) (a0k st) .none kV doc pm an cdv ct∧K.lookup f=some ⟨oc,od,.func fd,osl⟩∧PySem.W.codeIn K cdv qual=true
  kp:PySem.W.keepIn K (.ref f)=true
section
variable{P:Program}{w:World}{K:PySem.W.Frag}{mg:Str→Option Value}{base:Heap}
theorem Fun.ok{x qual:Str}{st:Stmt}{f:Addr}{fd:FuncData}{N ps:List Str}{k:Nat}{sp:Sp}(F:Fun K x qual st f fd)(S:a0r N ps (a0k st))(len:∀vs H Q E,sp vs H Q E→vs.length=ps.length)
    (hbody:∀(cdv:Value) (A:Around) (outer:List Env) (s:Shared) (H:Hp) (vs:List V) (Q:VK) (E:XK),Room k (A.deeper (envOfC qual (a0k st) s.heap.objs.size f cdv))→sp vs H Q E→
      ∃t,PSs (cxOf CX0 P w K mg base N qual (a0k st) f cdv A outer s H E).nox (c0a st) t∧t { nx:=fun _ H'=>Q .non H',rt:=Q } (j0t N vs) H):FnOk P w K mg base CX0 (k+1) f fd ps sp:=by
  obtain⟨oc,od,kV,doc,pm,an,cdv,ct,osl,rfl,lk,hcd⟩:=F.ex
  refine fn_of lk hcd S len fun A outer s H vs Q E hr hsp=>?_
  obtain⟨t,h,q⟩:=hbody cdv A outer s H vs Q E hr hsp
  exact⟨t,h.nox,q⟩
theorem Fun.binds{x qual:Str}{st:Stmt}{f:Addr}{fd:FuncData}{ps:List Str}(F:Fun K x qual st f fd)
    (h:∀(kV doc pm:Value) (an:Option Addr) (cdv ct:Value) (us:List Value),us.length=ps.length→bindArgs (PySem.W.fnOf x qual (c0h st) (c0a st) (a0k st) .none kV doc pm an cdv ct) ⟨us,[]⟩=pure (ps.zip us)):Binds K fd ps []:=by
  obtain⟨oc,od,kV,doc,pm,an,cdv,ct,osl,rfl,lk,hcd⟩:=F.ex
  exact .all (h kV doc pm an cdv ct)
theorem fun_mk{x qual:Str}{st:Stmt}{f:Addr}{oc:Value}{od an:Option Addr}{osl:Array (Option Value)}{kV doc pm cdv ct:Value}(l:K.lookup f=some ⟨oc,od,.func (PySem.W.fnOf x qual (c0h st) (c0a st) (a0k st) .none kV doc pm an cdv ct),osl⟩)
    (c:PySem.W.codeIn K cdv qual=true) (k:PySem.W.keepIn K (.ref f)=true):Fun K x qual st f (PySem.W.fnOf x qual (c0h st) (c0a st) (a0k st) .none kV doc pm an cdv ct):=⟨⟨oc,od,kV,doc,pm,an,cdv,ct,osl,rfl,l,c⟩,k⟩
end
theorem hu_of{A:Around}{k:Nat}(hr:Room k A):A.units+1 < cLine:=Nat.lt_of_le_of_lt (Nat.add_le_add_left (by decide:1≤64) _) hr.units
section
variable{X:Cx}
theorem pv(i:Nat){x:Str}{pos:Pos}(hN:X.N[i]? = some x:=by rfl)(hv:Vis X.env.scope x:=by first | exact Or.inl rfl | exact Or.inr (Or.inl rfl) | exact Or.inr (Or.inr rfl))(hd:(x == ("__debug__":Str))=false:=by decide)
    (hcd:(x == ("__classdict__":Str))=false:=by decide):PE X (.Name x pos) (tVar i):=pe_var hN hv hd hcd
end
theorem iteF{A B:Prop}(h:B):if false=true then A else B:=by
  rw[if_neg Bool.false_ne_true]
  exact h
theorem iteT{A B:Prop}(h:A):if true=true then A else B:=by
  rw[if_pos rfl]
  exact h
def Same(H H':Hp):Prop:=∀b o,H b=some o→H' b=some o
theorem Same.refl(H:Hp):Same H H:=fun _ _ h=>h
theorem Same.trans{H H1 H2:Hp}(a:Same H H1)(b:Same H1 H2):Same H H2:=fun c o h=>b c o (a c o h)
theorem Same.free{H H':Hp}(e:Same H H'){l:Addr}(h:H' l=Option.none):H l=Option.none:=by
  cases q:H l with
  | none=>rfl
  | some o=>
    rw[e l o q]at h
    cases h
theorem Same.seq{K:PySem.W.Frag}{H H':Hp}{a:Addr}{xs:List V}(e:Same H H')(h:SqL K H a xs):SqL K H' a xs:=by
  rcases h with (h | ⟨o,h⟩) | h
  · exact .inl (.inl (e _ _ h))
  · exact .inl (.inr ⟨o,e _ _ h⟩)
  · exact .inr h
end L2
set_option maxHeartbeats 4000000
namespace L2
open PySem PySem.Spec PyProof.Rows PySem.SeqAt
section
variable{X:Cx}
def CDivB(_ j:Int):Prop:=j≠0∧j.natAbs.log2 < 9000
theorem d0r:OpR X (binaryOp .FloorDiv) (rI CDivB fun i j=>.int (i.fdiv j)):=opI fun _ _ _ _ _ _ _ hc q=>floordiv_int hc.1 q (Or.inl (PyProof.noPylong_of_log2 hc.2))
def rIsi(K:PySem.W.Frag):List V→Hp→VK→Prop:=fun xs H Q=>∃x n t b,xs=[x,.ty n]∧TyOf K H x t∧PySem.W.kitOne K t (.type n)=some b∧Q (.bl b) H
theorem g0a:CallR X (.builtin "isinstance") (rIsi X.K):=by
  intro pins s σ H xs us Q I r h
  obtain⟨x,n,t,b,rfl,ty,e,q⟩:=h
  cases r with
  | cons rx r1=>
    cases r1 with
    | cons ry r2=>
      cases r2
      cases ry
      exact isinst_ok I rx ty e fun tk=>⟨.bl b,H,I.tok _,rfl,q⟩
structure MkO(K:PySem.W.Frag)(C:Addr):Prop where
  makes:PySem.W.makesIn K C=true
  init:PySem.W.findIn K (.ref C) "__init__"=some (some (.builtin "object.__init__"))
  kp:PySem.W.keepIn K (.ref C)=true
def tMakeO(C:Addr):TE:=fun _ H Q=>∀x dx,H x=none→H dx=none→dx≠x→Q (.ref x) (upd (upd H dx (.own x)) x (.ins C dx []))
theorem k0d{C:Addr}{x:Str}{p pos:Pos}(M:MkO X.K C)(hg:Gl X x)(hm:X.mg x=some (.ref C))(hdb:(x == ("__debug__":Str))=false:=by decide):PE X (.Call (.Name x p) [] [] pos) (tMakeO C):=by
  intro pins s σ H Q I h
  refine wpAny_Call_Name_kw (e0o I hg hm ?_ hdb)
  refine PySem.W.callWith_K0 I.kIn M.kp ?_
  have hq:=h (s.heap.objs.size+1) s.heap.objs.size (I.hok.fresh (Nat.le_succ _)) (I.hok.fresh (Nat.le_refl _)) (Nat.ne_of_lt (Nat.lt_succ_self _))
  have I2:=Inv.made (C:=C) I
  have Y:=PySem.W.makes_of (M:=model X.prog X.w) I.kIn M.makes
  refine wpAny_call (make_map0 I.kIn M.makes M.init (fun self=>PySem.W.Looks.of_pure (PySem.W.oi_bind self)) ?_)
  have t1:PySem.W.Looks (model X.prog X.w) ((s.heap.push PySem.W.emptyDict).push (PySem.W.instObj C s.heap.objs.size)) (typeOf (.ref (s.heap.objs.size+1))) (.ref C):=
    (PySem.W.Looks.ld (o:=PySem.W.instObj C s.heap.objs.size) (by have e:((s.heap.push PySem.W.emptyDict).push (PySem.W.instObj C s.heap.objs.size)).get? (s.heap.push PySem.W.emptyDict).objs.size=some (PySem.W.instObj C s.heap.objs.size):=Heap.get?_push_size _ rfl;rw[Heap.size_push]at e;exact e)).andThen .now
  have t2:PySem.W.Looks (model X.prog X.w) ((s.heap.push PySem.W.emptyDict).push (PySem.W.instObj C s.heap.objs.size)) (isInstance (.ref (s.heap.objs.size+1)) (.type "object")) true:=
    t1.andThen (Y.top.keeps fun b o e=>Heap.get?_push_of_some _ (Heap.get?_push_of_some _ e))
  refine PySem.codeAny_call_builtin PySem.W.oi_plain PySem.W.entry_oi (@PySem.W.check_slot (model X.prog X.w) _ _ _ "object.__init__" "object" "__init__" (.ref (s.heap.objs.size+1)) [] [] _ PySem.W.oi_kind PySem.W.oi_split t2 (PySem.W.oi_args (.ref (s.heap.objs.size+1))) ?_)
  rw[PySem.W.oi_run]
  exact wpAny_pure (And.intro rfl ⟨V.ref (s.heap.objs.size+1),_,I2,rfl,hq⟩)
end
mutual
inductive Is(K:PySem.W.Frag)(H:Hp):V→PyData→Prop
  | non:Is K H .non .none
  | bl (b:Bool):Is K H (.bl b) (.bool b)
  | int (i:Int):Is K H (.int i) (.int i)
  | str (x:Str):Is K H (.str x) (.str x)
  | tup {a:Addr} {xs:List V} {ds:List PyData}:SqT K H a xs→IsAll K H xs ds→Is K H (.ref a) (.tuple ds)
  | lst {a:Addr} {xs:List V} {ds:List PyData}:SqL K H a xs→IsAll K H xs ds→Is K H (.ref a) (.list ds)
inductive IsAll(K:PySem.W.Frag)(H:Hp):List V→List PyData→Prop
  | nil:IsAll K H [] []
  | cons {v:V} {vs:List V} {d:PyData} {ds:List PyData}:Is K H v d→IsAll K H vs ds→IsAll K H (v::vs) (d::ds)
end
theorem Same.tup{K:PySem.W.Frag}{H H':Hp}{a:Addr}{xs:List V}(e:Same H H')(h:SqT K H a xs):SqT K H' a xs:=by
  rcases h with (h | ⟨o,h⟩) | h
  · exact .inl (.inl (e _ _ h))
  · exact .inl (.inr ⟨o,e _ _ h⟩)
  · exact .inr h
mutual
theorem Is.same{K:PySem.W.Frag}{H H':Hp}(e:Same H H'):∀{v:V} {d:PyData},Is K H v d→Is K H' v d
  | _,_,.non=>.non
  | _,_,.bl b=>.bl b
  | _,_,.int i=>.int i
  | _,_,.str x=>.str x
  | _,_,.tup h r=>.tup (e.tup h) (IsAll.same e r)
  | _,_,.lst h r=>.lst (e.seq h) (IsAll.same e r)
theorem IsAll.same{K:PySem.W.Frag}{H H':Hp}(e:Same H H'):∀{v:List V} {d:List PyData},IsAll K H v d→IsAll K H' v d
  | _,_,.nil=>.nil
  | _,_,.cons a r=>.cons (Is.same e a) (IsAll.same e r)
end
section
variable{X:Cx}{pins:List (Addr × Obj)}{σ:St}{H:Hp}{s:Shared}
mutual
theorem Is.reads(I:Inv X pins σ H s):∀{v:V} {d:PyData} {u:Value},Is X.K H v d→RelV v u→∃as,Reads s.heap u d as
  | _,_,_,.non,r=>by cases r;exact⟨_,.none⟩
  | _,_,_,.bl b,r=>by cases r;exact⟨_,.bool b⟩
  | _,_,_,.int i,r=>by obtain⟨t,rfl⟩:=r;exact⟨_,.int i t⟩
  | _,_,_,.str x,r=>by obtain⟨t,rfl⟩:=r;exact⟨_,.str x t⟩
  | _,_,_,.tup h a,r=>by
    cases r
    obtain⟨its,rv,⟨o,ho,hc,n,hd⟩,_⟩:=I.tuple h
    obtain⟨as,hr⟩:=IsAll.reads I a rv
    exact⟨as,.tuple ho hc hd (by simpa using hr)⟩
  | _,_,_,.lst h a,r=>by
    cases r
    obtain⟨its,rv,⟨o,n,ho,hc,_,hd⟩,_⟩:=I.list h
    obtain⟨as,hr⟩:=IsAll.reads I a rv
    exact⟨_,.list ho hc hd (by simpa using hr)⟩
theorem IsAll.reads(I:Inv X pins σ H s):∀{vs:List V} {ds:List PyData} {us:List Value},IsAll X.K H vs ds→Vals vs us→∃as,ReadsAll s.heap us ds as
  | _,_,_,.nil,.nil=>⟨_,.nil⟩
  | _,_,_,.cons a r,.cons q t=>by
    obtain⟨as,h1⟩:=Is.reads I a q
    obtain⟨bs,h2⟩:=IsAll.reads I r t
    exact⟨_,.cons h1 h2⟩
end
def rEqD(K:PySem.W.Frag):R2:=fun x y H Q=>∃d d',Is K H x d∧Is K H y d'∧shaped d=true∧shaped d'=true∧noMix d d'=true∧Q (.bl (PySem.Spec.same d d')) H
def rNeD(K:PySem.W.Frag):R2:=fun x y H Q=>∃d d',Is K H x d∧Is K H y d'∧shaped d=true∧shaped d'=true∧noMix d d'=true∧Q (.bl (!PySem.Spec.same d d')) H
theorem op_eqD(hu:X.A.units+64 < cLine):OpR X (compareOp .Eq) (rEqD X.K):=by
  intro pins s σ H x y v u Q I rx ry h
  obtain⟨d,d',hx,hy,sx,sy,nm,q⟩:=h
  obtain⟨as,ra⟩:=hx.reads I rx
  obtain⟨bs,rb⟩:=hy.reads I ry
  exact eq_dataH_same ra rb sx sy hu nm ⟨.bl _,H,I,rfl,q⟩
theorem op_neD(hu:X.A.units+64 < cLine):OpR X (compareOp .NotEq) (rNeD X.K):=by
  intro pins s σ H x y v u Q I rx ry h
  obtain⟨d,d',hx,hy,sx,sy,nm,q⟩:=h
  obtain⟨as,ra⟩:=hx.reads I rx
  obtain⟨bs,rb⟩:=hy.reads I ry
  exact ne_dataH_same ra rb sx sy hu nm ⟨.bl _,H,I,rfl,q⟩
end
theorem iteI{i j:Int}{A B:Prop}(h1:i=j→A)(h2:¬i=j→B):if decide (V.int i=V.int j)=true then A else B:=by
  by_cases h:i=j
  · rw[if_pos (decide_eq_true (congrArg V.int h))];exact h1 h
  · rw[if_neg (by simpa using h)];exact h2 h
theorem iteNI{i j:Int}{A B:Prop}(h1:¬i=j→A)(h2:i=j→B):if(!decide (V.int i=V.int j))=true then A else B:=by
  by_cases h:i=j
  · rw[if_neg (by simpa using h)];exact h2 h
  · rw[if_pos (by simpa using h)];exact h1 h
theorem iteP{p A B:Prop} [Decidable p](h1:p→A)(h2:¬p→B):if decide p=true then A else B:=by
  by_cases h:p
  · rw[if_pos (decide_eq_true h)];exact h1 h
  · rw[if_neg (by simpa using h)];exact h2 h
theorem a0d{H:Hp}{p:Addr}{o:HO}(h:H p=none):Same H (upd H p o):=fun b u e=>by
  rw[a0v (a0s e h)];exact e
end L2
namespace L2
open PySem PySem.Spec PyProof.Rows
section
variable{κ:Type} [DecidableEq κ]
def valV(kvs:List (κ × V))(k:κ):Option V:=(kvs.find? fun kv=>decide (kv.1=k)).map (·.2)
def putK(kvs:List (κ × V))(k:κ)(v:V):List (κ × V):=
  if(kvs.any fun kv=>decide (kv.1=k))=true then kvs.map (fun kv=>if kv.1=k then(kv.1,v)else kv)else kvs++[(k,v)]
def dropK(kvs:List (κ × V))(k:κ):List (κ × V):=kvs.filter fun kv=>decide (kv.1≠k)
theorem j0r{p:κ × V}{r:List (κ × V)}{k:κ}(e:p.1=k):valV (p::r) k=some p.2:=by simp[valV,List.find?_cons,e]
theorem f0l{p:κ × V}{r:List (κ × V)}{k:κ}(e:¬p.1=k):valV (p::r) k=valV r k:=by simp[valV,List.find?_cons,e]
theorem valV_any(k:κ):∀kvs:List (κ × V),(kvs.any fun kv=>decide (kv.1=k))=(valV kvs k).isSome
  | []=>rfl
  | p::r=>by
    rw[List.any_cons]
    by_cases e:p.1=k
    · simp only[j0r e,decide_eq_true e,Bool.true_or,Option.isSome_some]
    · rw[f0l e,decide_eq_false e,Bool.false_or];exact valV_any k r
theorem length_putK(kvs:List (κ × V))(k:κ)(v:V):(putK kvs k v).length≤kvs.length+1:=by
  unfold putK
  split
  · rw[List.length_map];omega
  · rw[List.length_append,List.length_cons,List.length_nil];omega
theorem RelO.isSome_eq{o:Option V}{u:Option Value}(r:RelO o u):o.isSome=u.isSome:=by
  cases o with
  | none=>cases u with
    | none=>rfl
    | some _=>exact(show False from r).elim
  | some _=>cases u with
    | none=>exact(show False from r).elim
    | some _=>rfl
theorem RelO.getD{o:Option V}{u:Option Value}{d:V}{d':Value}(r:RelO o u)(rd:RelV d d'):RelV (o.getD d) (u.getD d'):=by
  cases o with
  | none=>cases u with
    | none=>exact rd
    | some _=>exact(show False from r).elim
  | some _=>cases u with
    | none=>exact(show False from r).elim
    | some _=>exact r
theorem KV.val{kvs:List (κ × V)}{vs:List (κ × Value)}(r:KV kvs vs)(k:κ):RelO (valV kvs k) (valueAt vs k):=by
  unfold KV at r
  induction r with
  | nil=>exact True.intro
  | @cons p q ps qs h t ih=>
    obtain⟨h1,h2⟩:=h
    by_cases e:p.1=k
    · have e':q.1=k:=h1.symm.trans e
      have b:valueAt (q::qs) k=some q.2:=by simp[valueAt,List.find?_cons,e']
      rw[j0r e,b];exact h2
    · have e':¬q.1=k:=fun z=>e (h1.trans z)
      have b:valueAt (q::qs) k=valueAt qs k:=by simp[valueAt,List.find?_cons,e']
      rw[f0l e,b];exact ih
theorem KV.any{kvs:List (κ × V)}{vs:List (κ × Value)}(r:KV kvs vs)(k:κ):(kvs.any fun kv=>decide (kv.1=k))=vs.any fun kv=>decide (kv.1=k):=by
  unfold KV at r
  induction r with
  | nil=>rfl
  | cons h t ih=>rw[List.any_cons,List.any_cons,ih,h.1]
theorem KV.repl{kvs:List (κ × V)}{vs:List (κ × Value)}(r:KV kvs vs)(k:κ){y:V}{u:Value}(ry:RelV y u) :
    KV (kvs.map fun kv=>if kv.1=k then(kv.1,y)else kv) (vs.map fun kv=>if kv.1=k then(kv.1,u)else kv):=by
  unfold KV at r ⊢
  induction r with
  | nil=>exact .nil
  | @cons p q ps qs h t ih=>
    rw[List.map_cons,List.map_cons]
    refine .cons ?_ ih
    obtain⟨h1,h2⟩:=h
    by_cases e:p.1=k
    · rw[if_pos e,if_pos (h1.symm.trans e)];exact⟨h1,ry⟩
    · rw[if_neg e,if_neg (fun z=>e (h1.trans z))];exact⟨h1,h2⟩
theorem KV.put{kvs:List (κ × V)}{vs:List (κ × Value)}(r:KV kvs vs)(k:κ){y:V}{u:Value}(ry:RelV y u):KV (putK kvs k y) (stored vs k u):=by
  unfold putK stored
  rw[r.any k]
  by_cases e:(vs.any fun kv=>decide (kv.1=k))=true
  · rw[if_pos e,if_pos e];exact r.repl k ry
  · rw[if_neg e,if_neg e];exact Paired.snoc r ⟨rfl,ry⟩
theorem KV.drop{kvs:List (κ × V)}{vs:List (κ × Value)}(r:KV kvs vs)(k:κ):KV (dropK kvs k) (without vs k):=by
  unfold KV at r ⊢
  unfold dropK without
  induction r with
  | nil=>exact .nil
  | @cons p q ps qs h t ih=>
    obtain⟨h1,h2⟩:=h
    rw[List.filter_cons,List.filter_cons]
    by_cases e:p.1=k
    · have a:¬decide (p.1≠k)=true:=by simp[e]
      have b:¬decide (q.1≠k)=true:=by simp[h1.symm.trans e]
      rw[if_neg a,if_neg b];exact ih
    · have e':¬q.1=k:=fun z=>e (h1.trans z)
      have a:decide (p.1≠k)=true:=by simp[e]
      have b:decide (q.1≠k)=true:=by simp[e']
      rw[if_pos a,if_pos b];exact .cons ⟨h1,h2⟩ ih
theorem KV.keys{kvs:List (κ × V)}{vs:List (κ × Value)}(r:KV kvs vs):kvs.map (·.1)=vs.map (·.1):=by
  unfold KV at r
  induction r with
  | nil=>rfl
  | cons h t ih=>rw[List.map_cons,List.map_cons,ih,h.1]
theorem KV.length{kvs:List (κ × V)}{vs:List (κ × Value)}(r:KV kvs vs):kvs.length=vs.length:=Paired.length r
end
theorem kV_is{P:Program}{w:World}{k:Key}{u:Value}(r:RelV (kV k) u):(b0r P w).is k u=true:=by
  cases k with
  | inl i=>obtain⟨t,e⟩:=(show ∃t,u=Value.int i t from r);subst e;exact mixKind_int P w i t
  | inr x=>obtain⟨t,e⟩:=(show ∃t,u=Value.str x t from r);subst e;exact f0i P w x t
theorem items_are{P:Program}{w:World}:∀{ks:List Key} {us:List Value},Vals (ks.map kV) us→ItemsAre (b0r P w) ks us
  | [],_,r=>by rw[List.map_nil]at r;cases r;exact .nil
  | k::ks,_,r=>by
    rw[List.map_cons]at r
    cases r with
    | cons h t=>exact .cons (kV_is h) (items_are t)
abbrev KT(H:Hp):List (List Key × V)→List (List Key × Addr × Value)→Prop:=Paired fun p q=>p.1=q.1∧H q.2.1=some (.tup (p.1.map kV))∧RelV p.2 q.2.2
theorem KT.val{H:Hp}{kvs:List (List Key × V)}{xs:List (List Key × Addr × Value)}(r:KT H kvs xs)(k:List Key):RelO (valV kvs k) ((atKey xs k).map (·.2)):=by
  induction r with
  | nil=>exact True.intro
  | @cons p q ps qs h t ih=>
    obtain⟨h1,_,h2⟩:=h
    by_cases e:p.1=k
    · have e':q.1=k:=h1.symm.trans e
      have b:atKey (q::qs) k=some q.2:=by simp[atKey,List.find?_cons,e']
      rw[j0r e,b];exact h2
    · have e':¬q.1=k:=fun z=>e (h1.trans z)
      have b:atKey (q::qs) k=atKey qs k:=by simp[atKey,List.find?_cons,e']
      rw[f0l e,b];exact ih
theorem KT.repl{H:Hp}{kvs:List (List Key × V)}{xs:List (List Key × Addr × Value)}(r:KT H kvs xs)(k:List Key){y:V}{u:Value}(ry:RelV y u) :
    KT H (kvs.map fun kv=>if kv.1=k then(kv.1,y)else kv) (xs.map (putAt k u)):=by
  induction r with
  | nil=>exact .nil
  | @cons p q ps qs h t ih=>
    rw[List.map_cons,List.map_cons]
    refine .cons ?_ ih
    obtain⟨h1,h2,h3⟩:=h
    unfold putAt
    by_cases e:p.1=k
    · rw[if_pos e,if_pos (h1.symm.trans e)];exact⟨h1,h2,ry⟩
    · rw[if_neg e,if_neg (fun z=>e (h1.trans z))];exact⟨h1,h2,h3⟩
theorem KT.put{H:Hp}{kvs:List (List Key × V)}{xs:List (List Key × Addr × Value)}(r:KT H kvs xs)(k:List Key){b:Addr}{y:V}{u:Value}(hb:H b=some (.tup (k.map kV)))(ry:RelV y u) :
    KT H (putK kvs k y) (storedH xs k b u):=by
  have e:(kvs.any fun kv=>decide (kv.1=k))=(atKey xs k).isSome:=by
    rw[valV_any,(r.val k).isSome_eq,Option.isSome_map]
  unfold putK storedH
  rw[e]
  by_cases q:(atKey xs k).isSome=true
  · rw[if_pos q,if_pos q];exact r.repl k ry
  · rw[if_neg q,if_neg q];exact Paired.snoc r ⟨rfl,hb,ry⟩
theorem KT.keeps{H H':Hp}{kvs:List (List Key × V)}{xs:List (List Key × Addr × Value)}(r:KT H kvs xs)(ht:∀b ys,H b=some (.tup ys)→H' b=some (.tup ys)):KT H' kvs xs:=
  Paired.mapP r fun _ _ z=>⟨z.1,ht _ _ z.2.1,z.2.2⟩
section
variable{P:Program}{w:World}{H:Hp}{h:Heap}{a:Addr}
theorem rd_of{u:HO}(ok:HOk P w H h)(e:Rd H a u):ObjOk P w H h a u:=e.ok ok
theorem dk_rd{kvs:List (Key × V)}(ok:HOk P w H h)(e:Rd H a (.dK kvs)):kvs.length≤sizeLine∧(a == sysModules)=false∧∃vs,KV kvs vs∧h.DictOf (b0r P w) a vs:=
  show ObjOk P w H h a (.dK kvs)from rd_of ok e
theorem dk_of{kvs:List (Key × V)}(ok:HOk P w H h)(e:H a=some (.dK kvs)):kvs.length≤sizeLine∧(a == sysModules)=false∧∃vs,KV kvs vs∧h.DictOf (b0r P w) a vs:=dk_rd ok (.inl e)
theorem key_of{ks:List Key}(ok:HOk P w H h)(e:H a=some (.tup (ks.map kV))):(tupleKind (b0r P w)).is h ks a:=by
  obtain⟨_,its,r,⟨o,h1,h2,n,h3⟩,_⟩:=(show ObjOk P w H h a (.tup (ks.map kV))from ok a _ e)
  exact⟨o,its.toArray,n,h1,h2,h3,by simpa using items_are r⟩
theorem dt_rd{kvs:List (List Key × V)}(ok:HOk P w H h)(e:Rd H a (.dT kvs)):kvs.length≤sizeLine∧(a == sysModules)=false∧
    ∃xs,KT H kvs xs∧h.DictOfH (tupleKind (b0r P w)) a xs:=by
  obtain⟨z,y,xs,r,o,es,ep,h1,h2,h3,h4,h5⟩:=(show ObjOk P w H h a (.dT kvs)from rd_of ok e)
  refine⟨z,y,xs,r,o,es,ep,h1,h2,h3,h4,fun x hx=>?_,h5⟩
  have all:∀{l:List (List Key × V)} {m:List (List Key × Addr × Value)},KT H l m→∀x∈m,(tupleKind (b0r P w)).is h x.1 x.2.1:=by
    intro l m q
    induction q with
    | nil=>intro x hx;exact nomatch hx
    | @cons p q ps qs hq t ih=>
      intro x hx
      rcases List.mem_cons.mp hx with e | hx
      · subst e
        exact key_of ok (by rw[← hq.1];exact hq.2.1)
      · exact ih x hx
  exact all r x hx
end
def DGet(H:Hp)(a:Addr)(y:V)(r:Option V):Prop:=
  (∃kvs k,Rd H a (.dK kvs)∧y=kV k∧r=valV kvs k)∨∃kvs k b,Rd H a (.dT kvs)∧y=.ref b∧H b=some (.tup (k.map kV))∧r=valV kvs k
def DPut(H:Hp)(a:Addr)(y v:V)(H':Hp):Prop:=
  (∃kvs k,H a=some (.dK kvs)∧y=kV k∧kvs.length < sizeLine∧H'=upd H a (.dK (putK kvs k v)))∨
  ∃kvs k b,H a=some (.dT kvs)∧y=.ref b∧H b=some (.tup (k.map kV))∧kvs.length < sizeLine∧H'=upd H a (.dT (putK kvs k v))
theorem DGet.k{H:Hp}{a:Addr}{kvs:List (Key × V)}{k:Key}(e:H a=some (.dK kvs)):DGet H a (kV k) (valV kvs k):=.inl ⟨kvs,k,.inl e,rfl,rfl⟩
theorem DGet.t{H:Hp}{a b:Addr}{kvs:List (List Key × V)}{k:List Key}(e:H a=some (.dT kvs))(eb:H b=some (.tup (k.map kV))):DGet H a (.ref b) (valV kvs k):=.inr ⟨kvs,k,b,.inl e,rfl,eb,rfl⟩
theorem DPut.k{H:Hp}{a:Addr}{kvs:List (Key × V)}{k:Key}{v:V}(e:H a=some (.dK kvs))(hl:kvs.length < sizeLine):DPut H a (kV k) v (upd H a (.dK (putK kvs k v))):=.inl ⟨kvs,k,e,rfl,hl,rfl⟩
theorem DPut.t{H:Hp}{a b:Addr}{kvs:List (List Key × V)}{k:List Key}{v:V}(e:H a=some (.dT kvs))(eb:H b=some (.tup (k.map kV)))(hl:kvs.length < sizeLine) :
    DPut H a (.ref b) v (upd H a (.dT (putK kvs k v))):=.inr ⟨kvs,k,b,e,rfl,eb,hl,rfl⟩
section
variable{X:Cx}{pins:List (Addr × Obj)}{σ:St}{H:Hp}{s:Shared}{a:Addr}{y v:V}{u r:Value}{o:Option V}{A:Around}{E:Value→Shared→Prop}
theorem Inv.big(I:Inv X pins σ H s):sysModules < s.heap.objs.size:=by
  have h:mainGlobals < s.heap.objs.size:=(I.mod.glob.keeps I.bk).lt
  exact Nat.lt_trans (by decide) h
theorem d_getItem{Q:Value→Shared→Prop}(hu:A.units+1 < cLine)(I:Inv X pins σ H s)(g:DGet H a y (some v))(ry:RelV y u)(h:∀w' s',Inv X pins σ H s'→RelV v w'→Q w' s') :
    wpAny (model X.prog X.w) A (getItem (.ref a) u) Q E s:=by
  rcases g with ⟨kvs,k,e,ey,l⟩ | ⟨kvs,k,b,e,ey,eb,l⟩
  · subst ey
    obtain⟨z,hd,vs,rel,dd⟩:=dk_rd I.hok e
    obtain⟨w',hw,rw'⟩:=RelO.some_of (v:=v) (o:=valueAt vs k) (by rw[l];exact rel.val k)
    exact wpAny_getItem_of (kV_is ry) dd.mapOf hw (h w' _ (I.tok _) rw')
  · subst ey
    cases (show u=Value.ref b from ry)
    obtain⟨z,hd,xs,rel,dd⟩:=dt_rd I.hok e
    obtain⟨w',hw,rw'⟩:=RelO.some_of (v:=v) (o:=(atKey xs k).map (·.2)) (by rw[l];exact rel.val k)
    obtain⟨p,hp,hp2⟩:=Option.map_eq_some_iff.mp hw
    refine wpAny_getItem_heap (tupleKind_room_in1 hu) (key_of I.hok eb) dd hp ?_
    rw[hp2]
    exact h w' _ (I.tok _) rw'
theorem d_write{h':Heap}{t':Nat}{ob:HO}(I:Inv X pins σ H s)(mu:Mut (H a))(hs:Heap.SameBut a s.heap h')(he:∃q,h'.get? a=some q)(new:ObjOk X.prog X.w (upd H a ob) h' a ob) :
    Inv X pins σ (upd H a ob) { s with heap:=h',toks:=t' }:=
  I.write (x:=a) (e:=a) mu (.inl rfl) (fun b q hb z=>(hs.2 b hb).trans z) he new
theorem dk_new{P:Program}{w:World}{H':Hp}{h':Heap}{kvs:List (Key × V)}{vs:List (Key × Value)}(z:kvs.length≤sizeLine)(hd:(a == sysModules)=false)(rel:KV kvs vs)(dd:h'.DictOf (b0r P w) a vs) :
    ObjOk P w H' h' a (.dK kvs):=⟨z,hd,vs,rel,dd⟩
end
section
variable{X:Cx}{pins:List (Addr × Obj)}{σ:St}{H:Hp}{s:Shared}{a:Addr}{kvs:List (Key × V)}{k:Key}{u:Value}{A:Around}{E:Value→Shared→Prop}
end
def NoSl(i:Expr):Prop:=∀ov iv,subscripted i false ov iv=operate [ov,iv] (getItem ov iv)
theorem subD_of{prog:Program}{w:World}{A:Around}{E:Value→Shared→Prop}{s:Shared}{env:Env}{value slice:Expr}{pos:Pos}{T id:String}{Q:Value→Shared→Prop}
    (hl:typeLookup (.type T) "__getitem__"=pure (some (.builtin id))) (hs:NoSl slice)
    (h:wpAny (model prog w) A (eval value env) (fun o s₁=>wpAny (model prog w) A (eval slice env) (fun i s₂=>s₂.TypeIs o T∧wpAny (model prog w) A (getItem o i) Q E s₂) E s₁) E s) :
    wpAny (model prog w) A (eval (.Subscript value slice pos) env) Q E s:=by
  refine Subscript_ (wpAny_mono h (fun o s₁ h₁=>wpAny_mono h₁ (fun i s₂ h₂=>?_) fun _ _ x=>x) fun _ _ x=>x)
  obtain⟨hT,h₂⟩:=h₂
  unfold subscriptTail
  refine wpAny_bind ?_
  rw[getitemInPython_of_ne hT.not_modules]
  refine wpAny_bind (wpAny_specialOf hT hl ?_)
  have fin:wpAny (model prog w) A (subscripted slice false o i) (fun r s₃=>wpAny (model prog w) A (letTemporaryGo value o r >>= fun _=>pure r) Q E s₃) E s₂:=by
    rw[hs o i]
    exact wpAny_operating (wpAny_mono h₂ (fun r s₃ h₃=>wpAny_bind (wpAny_letTemporaryGo (wpAny_pure h₃))) fun _ _ x=>x)
  first
    | exact wpAny_pure (wpAny_bind fin)
    | exact wpAny_bind (wpAny_pure (wpAny_bind fin))
    | exact wpAny_bind fin
theorem dict_typeIs{X:Cx}{pins:List (Addr × Obj)}{σ:St}{H:Hp}{s:Shared}{a:Addr}{y:V}{o:Option V}(I:Inv X pins σ H s)(g:DGet H a y o):s.TypeIs (.ref a) "dict":=by
  rcases g with ⟨kvs,k,e,_,_⟩ | ⟨kvs,k,b,e,_,_,_⟩
  · obtain⟨_,_,vs,_,dd⟩:=dk_rd I.hok e
    exact dd.typeIs
  · obtain⟨_,_,xs,_,dd⟩:=dt_rd I.hok e
    exact dd.typeIs
def tDGet(td ty:TE):TE:=fun σ H Q=>td σ H fun x H1=>ty σ H1 fun y H2=>∃a v,x=.ref a∧DGet H2 a y (some v)∧Q v H2
section
variable{X:Cx}{o i e value:Expr}{pos pos' tpos:Pos}{td ty tv:TE}
theorem pe_dget(hu:X.A.units+1 < cLine)(ho:PE X o td)(hi:PE X i ty)(hs:NoSl i):PE X (.Subscript o i pos) (tDGet td ty):=by
  intro pins s σ H Q I h
  refine subD_of PySem.F.slot_dict_getitem.lookup hs (thn (ho pins s σ H _ I h) fun u s1 ⟨x,H1,I1,rx,q1⟩=>thn (hi pins s1 σ H1 _ I1 q1) fun iv s2 ⟨y,H2,I2,ry,a,v,ex,g,q2⟩=>?_)
  subst ex
  obtain rfl:u=Value.ref a:=rx
  exact⟨dict_typeIs I2 g,d_getItem hu I2 g ry fun w' s3 I3 rw'=>⟨v,H2,I3,rw',q2⟩⟩
end
theorem dk_empty{P:Program}{w:World}{H:Hp}(h:Heap)(hb:sysModules < h.objs.size):ObjOk P w H (h.push { cls:=.type "dict",data:=.dict #[] }) h.objs.size (.dK []):=
  ⟨Nat.zero_le _,beq_eq_false_iff_ne.mpr (Ne.symm (Nat.ne_of_lt hb)),[],.nil,Heap.DictOf.new h⟩
section
variable{X:Cx}{pos:Pos}
end
def tPairs:List (TE × TE)→St→Hp→(List (V × V)→Hp→Prop)→Prop
  | [],_,H,Q=>Q [] H
  | (tk,tv)::r,σ,H,Q=>tk σ H fun x H1=>tv σ H1 fun y H2=>tPairs r σ H2 fun ps H3=>Q ((x,y)::ps) H3
abbrev VV:List (V × V)→List (Value × Value)→Prop:=Paired fun p q=>RelV p.1 q.1∧RelV p.2 q.2
def PPs(X:Cx)(pos:Pos)(keys:List (Option Expr))(values:List Expr)(trs:List (TE × TE)):Prop:=
  ∀(pins:List (Addr × Obj)) (s:Shared) (σ:St) (H:Hp) (Q:List (V × V)→Hp→Prop),Inv X pins σ H s→tPairs trs σ H Q→
    wpAny (model X.prog X.w) X.A (evalPairs (pairTrees keys values X.env pos)) (fun vs s'=>∃ps H',Inv X pins σ H' s'∧VV ps vs∧Q ps H') X.xe s
theorem pps_nil{X:Cx}{pos:Pos}:PPs X pos [] [] []:=fun pins s σ H Q I h=>pairTrees_nil_walk ⟨[],H,I,.nil,h⟩
theorem b0s{X:Cx}{pos:Pos}{k v:Expr}{ks:List (Option Expr)}{vs:List Expr}{tk tv:TE}{trs:List (TE × TE)}(hk:PE X k tk)(hv:PE X v tv)(hr:PPs X pos ks vs trs) :
    PPs X pos (some k::ks) (v::vs) ((tk,tv)::trs):=fun pins s σ H Q I h=>
  pairTrees_cons_walk (thn (hk pins s σ H _ I h) fun u s1 ⟨x,H1,I1,rx,q1⟩=>thn (hv pins s1 σ H1 _ I1 q1) fun w2 s2 ⟨y,H2,I2,ry,q2⟩=>
    thn (hr pins s2 σ H2 _ I2 q2) fun ws s3 ⟨ps,H3,I3,rel,q3⟩=>⟨(x,y)::ps,H3,I3,.cons ⟨rx,ry⟩ rel,q3⟩)
def c0n(kvs more:List (Key × V)):List (Key × V):=more.foldl (fun acc kv=>putK acc kv.1 kv.2) kvs
theorem KV.merge:∀{more:List (Key × V)} {rs:List (Key × Value)} {kvs:List (Key × V)} {vs:List (Key × Value)},KV more rs→KV kvs vs→KV (c0n kvs more) (merged vs rs):=by
  intro more rs kvs vs r
  unfold KV at r
  induction r generalizing kvs vs with
  | nil=>intro q;exact q
  | @cons p q ps qs h t ih=>
    intro r0
    have e:KV (putK kvs p.1 p.2) (stored vs q.1 q.2):=by
      have:=r0.put p.1 h.2
      rw[← h.1];exact this
    exact ih e
theorem f0u:∀(more kvs:List (Key × V)),(c0n kvs more).length≤kvs.length+more.length
  | [],kvs=>by show kvs.length≤kvs.length+0;omega
  | p::r,kvs=>by
    have h1:=f0u r (putK kvs p.1 p.2)
    have h2:=length_putK kvs p.1 p.2
    show(c0n (putK kvs p.1 p.2) r).length≤_
    rw[List.length_cons];omega
theorem j0l{P:Program}{w:World}:∀{kvs:List (Key × V)} {ws:List (Value × Value)},VV (kvs.map fun kv=>(kV kv.1,kv.2)) ws→∃rs,Carries (b0r P w) ws rs∧KV kvs rs
  | [],_,r=>by rw[List.map_nil]at r;cases r;exact⟨[],True.intro,.nil⟩
  | p::kvs,_,r=>by
    rw[List.map_cons]at r
    cases r with
    | @cons a b as bs h t=>
      obtain⟨rs,c,q⟩:=j0l (P:=P) (w:=w) t
      obtain⟨b1,b2⟩:=b
      exact⟨(p.1,b2)::rs,⟨kV_is h.1,rfl,c⟩,.cons ⟨rfl,h.2⟩ q⟩
def tDisp(trs:List (TE × TE)):TE:=fun σ H Q=>∀p,H p=none→tPairs trs σ (upd H p (.dK [])) fun ps H2=>H2 p=some (.dK [])∧∃kvs:List (Key × V),ps=kvs.map (fun kv=>(kV kv.1,kv.2))∧kvs.length≤15∧Q (.ref p) (upd H2 p (.dK (c0n [] kvs)))
theorem pe_disp{X:Cx}{pos:Pos}{keys:List (Option Expr)}{values:List Expr}{trs:List (TE × TE)}(h:PPs X pos keys values trs)(hall:keys.all (·.isSome)=true)(hl:keys.length=values.length)(h0:keys≠[])
    (h15:keys.length≤15):PE X (.Dict keys values pos) (tDisp trs):=by
  intro pins s σ H Q I q
  have hn:=I.hok.fresh (Nat.le_refl s.heap.objs.size)
  have I1:=I.laid (a:=s.heap.objs.size) (o:=.dK []) (h':=s.heap.push { cls:=.type "dict",data:=.dict #[] }) (t':=s.toks) (fun _ _ q=>Heap.get?_push_of_some _ q) (Nat.le_refl _) (dk_empty s.heap I.big)
  refine wpAny_Dict_walk (knd:=b0r X.prog X.w) hall hl h0 h15 (thn (h pins _ σ _ _ I1 (q _ hn)) fun ws s2 ⟨ps,H2,I2,rel,e,kvs,ep,lk,q2⟩=>?_)
  subst ep
  obtain⟨rs,c,rk⟩:=j0l (P:=X.prog) (w:=X.w) rel
  obtain⟨z,hd,vs0,r0,dd⟩:=dk_of I2.hok e
  cases r0
  refine⟨rs,c,dd,fun h' dd' hs=>⟨.ref s.heap.objs.size,_,?_,rfl,q2⟩⟩
  have hz:(c0n [] kvs).length≤sizeLine:=by
    have h1:=f0u kvs []
    rw[List.length_nil]at h1
    rw[sizeLine_eq];omega
  have he:∃q,h'.get? s.heap.objs.size=some q:=let⟨q,_,_,hq,_⟩:=dd';⟨q,hq⟩
  exact d_write I2 (by rw[e];exact True.intro) hs he (dk_new hz hd (rk.merge .nil) dd')
structure M1(X:Cx)(o:Expr)(m:Str)(apos:Pos)(e:Expr)(cpos:Pos):Prop where
  base:attributeBase o m X.env (eval o X.env)=eval o X.env
  few:((backTo cpos (starEach [e] X.env)).all (fun x=>!x.1) && (backToKw cpos (keywordEach [] X.env)).all (fun x=>x.1.isSome)
    && decide (([e]:List Expr).length+([]:List Keyword).length+(if([]:List Keyword).isEmpty then 0 else 1) < 30))=true
  line:(apos.endLine == cpos.line)=true
  trees:backTo cpos (starEach [e] X.env)=[(false,eval e X.env)]
structure M2(X:Cx)(o:Expr)(m:Str)(apos:Pos)(e f:Expr)(cpos:Pos):Prop where
  base:attributeBase o m X.env (eval o X.env)=eval o X.env
  few:((backTo cpos (starEach [e,f] X.env)).all (fun x=>!x.1) && (backToKw cpos (keywordEach [] X.env)).all (fun x=>x.1.isSome)
    && decide (([e,f]:List Expr).length+([]:List Keyword).length+(if([]:List Keyword).isEmpty then 0 else 1) < 30))=true
  line:(apos.endLine == cpos.line)=true
  trees:backTo cpos (starEach [e,f] X.env)=[(false,eval e X.env),(false,eval f X.env)]
def IsD(H:Hp)(a:Addr):Prop:=(∃kvs,Rd H a (.dK kvs))∨∃kvs,Rd H a (.dT kvs)
theorem isD_at{X:Cx}{pins:List (Addr × Obj)}{σ:St}{H:Hp}{s:Shared}{a:Addr}(I:Inv X pins σ H s)(d:IsD H a) :
    s.TypeIs (.ref a) "dict"∧(∀b,Value.ref a=.ref b→∃ob,s.heap.get? b=some ob∧ob.dict=none)∧(a == sysModules)=false:=by
  rcases d with ⟨kvs,e⟩ | ⟨kvs,e⟩
  · obtain⟨_,hd,vs,_,dd⟩:=dk_rd I.hok e
    refine⟨dd.typeIs,fun b q=>?_,hd⟩
    cases q
    obtain⟨ob,_,_,h1,h2,_⟩:=dd
    exact⟨ob,h1,h2.2.1⟩
  · obtain⟨_,hd,xs,_,dd⟩:=dt_rd I.hok e
    refine⟨dd.typeIs,fun b q=>?_,hd⟩
    cases q
    obtain⟨ob,_,_,h1,h2,_⟩:=dd
    exact⟨ob,h1,h2.2.1⟩
section
variable{X:Cx}{pins:List (Addr × Obj)}{σ:St}{H:Hp}{s:Shared}{a:Addr}{y d:V}{u r:Value}{o:Option V}{A:Around}{E:Value→Shared→Prop}
theorem d_get2{Q:Value→Shared→Prop}(hu:A.units+1 < cLine)(I:Inv X pins σ H s)(g:DGet H a y o)(ry:RelV y u)(rd:RelV d r)(h:∀w' s',Inv X pins σ H s'→RelV (o.getD d) w'→Q w' s') :
    wpAny (model X.prog X.w) A (call (.builtin "dict.get") [.ref a,u,r]) Q E s:=by
  rcases g with ⟨kvs,k,e,ey,l⟩ | ⟨kvs,k,b,e,ey,eb,l⟩
  · subst ey
    obtain⟨z,hd,vs,rel,dd⟩:=dk_rd I.hok e
    refine call_meetsIn PySem.F.slot_dict_get dd.typeIs PySem.F.entry_dict_get (PySem.F.args_dict_get_3 _ _ _) (meets_dict_get_default (b0r X.prog X.w) a (kV_is ry) hd r) ⟨_,dd.mapOf,h _ _ (I.tok _) ?_⟩
    rw[l]
    exact(rel.val k).getD rd
  · subst ey
    cases (show u=Value.ref b from ry)
    obtain⟨z,hd,xs,rel,dd⟩:=dt_rd I.hok e
    refine call_meetsIn PySem.F.slot_dict_get dd.typeIs PySem.F.entry_dict_get (PySem.F.args_dict_get_3 _ _ _) (meetsH_dict_get_default (tupleKind (b0r X.prog X.w)) a b hd r) ⟨tupleKind_room_in1 hu,k,xs,key_of I.hok eb,dd,h _ _ (I.tok _) ?_⟩
    rw[l]
    exact(rel.val k).getD rd
end
def tDGet2(td ty tx:TE):TE:=fun σ H Q=>td σ H fun x H1=>∃a,x=.ref a∧IsD H1 a∧ty σ H1 fun y H2=>tx σ H2 fun z H3=>∃o,DGet H3 a y o∧Q (o.getD z) H3
section
variable{X:Cx}{o e f:Expr}{apos cpos:Pos}{td ty tx:TE}
theorem pe_dget2(hu:X.A.units+1 < cLine)(ho:PE X o td)(he:PE X e ty)(hf:PE X f tx)(m:M2 X o "get" apos e f cpos):PE X (.Call (.Attribute o "get" apos) [e,f] [] cpos) (tDGet2 td ty tx):=by
  intro pins s σ H Q I h
  refine wpAny_Call_method m.base m.few m.line PySem.F.plainAttrs_dict PySem.F.slot_dict_get PySem.F.type_dict_get (thn (ho pins s σ H _ I h) fun u s1 ⟨x,H1,I1,rx,a,ex,d,q1⟩=>?_)
  subst ex
  obtain rfl:u=Value.ref a:=rx
  obtain⟨t1,t2,_⟩:=isD_at I1 d
  refine⟨t1,t2,?_⟩
  rw[m.trees]
  refine Calls.callWith_builtin rfl (Calls.evalArgs_plain (Calls.spliced_cons (thn (he pins s1 σ H1 _ I1 q1) fun iv s2 ⟨y,H2,I2,ry,q2⟩=>
    Calls.spliced_cons (thn (hf pins s2 σ H2 _ I2 q2) fun fv s3 ⟨z,H3,I3,rz,ov,g,q3⟩=>Calls.spliced_nil ?_))))
  exact d_get2 hu I3 g ry rz fun w' s4 I4 rw'=>⟨_,H3,I4,rw',q3⟩
end
section
variable{X:Cx}{pins:List (Addr × Obj)}{σ:St}{H:Hp}{s:Shared}{a:Addr}{kvs:List (Key × V)}{A:Around}{E:Value→Shared→Prop}
end
section
variable{X:Cx}{pins:List (Addr × Obj)}{σ:St}{H:Hp}{s:Shared}{a:Addr}{y:V}{u:Value}{A:Around}{E:Value→Shared→Prop}
end
end L2
namespace L2
open PySem PySem.Spec PyProof.Rows
section
variable{P:Program}{w:World}{H H':Hp}{h h':Heap}
theorem HOk.there(x:HOk P w H h){a:Addr}{o:HO}(e:H a=some o):∃ob,h.get? a=some ob:=by
  have y:=x a o e
  clear e x
  induction o with
  | lst xs=>obtain⟨_,its,n,r,e⟩:=y;exact⟨_,e⟩
  | tup xs=>obtain⟨_,its,r,⟨ob,e,c⟩,_⟩:=y;exact⟨_,e⟩
  | dK kvs=>obtain⟨_,_,vs,r,ob,es,ep,e,c⟩:=y;exact⟨_,e⟩
  | dT kvs=>obtain⟨_,_,xs,r,ob,es,ep,e,c⟩:=y;exact⟨_,e⟩
  | set S n=>obtain⟨ob,es,ep,t,e,c⟩:=y;exact⟨_,e⟩
  | ins C dx fs=>obtain⟨d,z,ne,e,_⟩:=y;exact⟨_,e⟩
  | own y'=>exact y
  | xd fs=>obtain⟨mA,⟨od,es,ep,e,c⟩,r⟩:=y;exact⟨_,e⟩
  | rng lo hi=>obtain⟨t,u,v,e⟩:=y;exact⟨_,e⟩
  | frz ob u ih=>exact⟨_,y.1⟩
  | tbl ps=>exact⟨_,y⟩
  | met f y'=>exact⟨_,y⟩
  | ext φ=>exact y.2.1
theorem HOk.nothing(x:HOk P w H h){a:Addr}(n:h.get? a=none):H a=none:=by
  cases q:H a with
  | none=>rfl
  | some o=>obtain⟨ob,e⟩:=x.there q;rw[n]at e;cases e
theorem HOk.loose(x:HOk P w H h)(k:∀b u,H b≠none→h.get? b=some u→h'.get? b=some u):HOk P w H h':=fun a o e=>
  (x a o e).stay (fun b u hb q=>k b u (by
    rcases hb with z | z
    · rw[z,e];exact nofun
    · rw[z];exact nofun) q) (fun _ q=>q) fun _ _ q=>q
def XT(h:Heap)(a T C:Addr):Prop:=∃oe vs a0 oT ts,h.get? a=some oe∧(oe.cls=.ref C∧vs[0]? = some a0)∧oe.data=.fields vs∧vs[1]? = some (.ref T)∧T≠a∧h.get? T=some oT∧oT.data=.fields ts∧ts[3]? = some .none
structure Fly(P:Program)(w:World)(fs:List Addr)(H H':Hp)(s s':Shared)(a T C:Addr):Prop where
  os:s'.os=s.os
  bare:AllBare s'.gens
  un:Un fs [] H H' s.heap s'.heap
  hok:HOk P w H' s'.heap
  xt:XT s'.heap a T C
  na:s.heap.get? a=none
  nT:s.heap.get? T=none
  ha:H' a=none
  hT:H' T=none
def CX1(P:Program)(w:World):CXT:=fun outer H s E e s'=>∃a T C H',e=.ref a∧Fly P w (frs outer) H H' s s' a T C∧E (.ref C) none H'
theorem d0s{h base base':Heap}:∀{l:List Env},h.FunFrames base l→(∀b∈frs l,base'.get? b=none)→h.FunFrames base' l
  | [],_,_=>trivial
  | env::r,⟨k,⟨L,o,hf,_,ho,hd⟩,t⟩,hb=>⟨k,⟨L,o,hf,hb L (by unfold frs;rw[List.filterMap_cons,hf];exact List.mem_cons_self),ho,hd⟩,
      d0s t fun b hm=>hb b (by unfold frs;rw[List.filterMap_cons,hf];exact List.mem_cons_of_mem _ hm)⟩
abbrev hid(h:Heap)(a T:Addr)(fs:List Addr):Heap:=PySem.W.hideAll h (a::T::fs)
end
section
variable{P:Program}{w:World}{H H':Hp}{s s':Shared}{a T C:Addr}{l:List Env}{base0:Heap}
theorem Fly.base(F:Fly P w (frs l) H H' s s' a T C)(ff:s'.heap.FunFrames base0 l):∃a0,Heap.FlyingW (hid s'.heap a T (frs l)) l a (.ref C) a0 s'.heap:=by
  obtain⟨oe,vs,a0,oT,ts,e1,e2,e3,e4,e5,e6,e7,e8⟩:=F.xt
  exact⟨a0,fun b o e=>PySem.W.of_hideAll _ e,PySem.W.hideAll_none _ (by simp),d0s ff fun b hb=>PySem.W.hideAll_none _ (by simp[hb]),
    oe,vs,T,oT,ts,e1,e2,e3,e4,PySem.W.hideAll_none _ (by simp),e5,e6,e7,e8⟩
theorem Fly.back{l':List Env}{h':Heap}{a0:Value}{tk:Nat}(F:Fly P w (frs l) H H' s s' a T C)(ff:s'.heap.FunFrames base0 l)(fH:∀b∈frs l,H' b=none)
    (fl:Heap.FlyingW (hid s'.heap a T (frs l)) l' a (.ref C) a0 h') (up:s'.heap.UpToSlots h'):∃T',Fly P w (frs l) H H' s { s' with heap:=h',toks:=tk } a T' C:=by
  obtain⟨k1,_,_,oe,vs,T',oT,ts,e1,e2,e3,e4,e0,e5,e6,e7,e8⟩:=fl
  have keep:∀b o,s'.heap.get? b=some o→b≠a→b≠T→b ∉ frs l→h'.get? b=some o:=fun b o e n1 n2 n3=>k1 b o (PySem.W.hideAll_get _ e (by simp[n1,n2,n3]))
  have slot:∀b o,s'.heap.get? b=some o→b∈frs l→(∃sl,h'.get? b=some { o with slots:=sl })∧∀vs,o.data≠.fields vs:=fun b o e hb=>by
    obtain⟨_,o1,q1,q2⟩:=ff.mem hb
    rw[e]at q1;cases q1
    exact⟨up b o e q2,q2⟩
  have nf:T' ∉ frs l:=fun hb=>by
    obtain⟨_,o1,q1,q2⟩:=ff.mem hb
    obtain⟨sl,q3⟩:=up _ o1 q1 q2
    rw[e6]at q3;cases q3
    exact q2 _ e7
  have tt:T'=T∨s'.heap.get? T'=none:=by
    by_cases z:T'=T
    · exact .inl z
    · right
      cases q:s'.heap.get? T' with
      | none=>rfl
      | some o=>
        have:=PySem.W.hideAll_get (a::T::frs l) q (by simp[e5,z,nf])
        rw[e0]at this;cases this
  have hT':H' T'=none:=by
    rcases tt with z | z
    · rw[z];exact F.hT
    · exact F.hok.nothing z
  have nT':s.heap.get? T'=none:=by
    rcases tt with z | z
    · rw[z];exact F.nT
    · cases q:s.heap.get? T' with
      | none=>rfl
      | some o=>
        obtain⟨o',q'⟩:=F.un.there _ o q (by simp)
        rw[z]at q';cases q'
  have ne:∀b o,s.heap.get? b=some o→b≠a∧b≠T:=fun b o e=>⟨(fun z=>by rw[z,F.na]at e;cases e),(fun z=>by rw[z,F.nT]at e;cases e)⟩
  refine⟨T',F.os,F.bare,⟨fun b o e n hb hx=>?_,fun b o e n hb hx=>?_,F.un.free,fun b o e hx=>?_,F.un.tups,F.un.frzs,F.un.tbls⟩,F.hok.loose fun b u hb e=>?_,⟨oe,vs,a0,oT,ts,e1,e2,e3,e4,e5,e6,e7,e8⟩,F.na,nT',F.ha,hT'⟩
  · exact keep b o (F.un.keep b o e n hb hx) (ne b o e).1 (ne b o e).2 hb
  · obtain⟨sl,q⟩:=F.un.slot b o e n hb hx
    obtain⟨⟨sl',q'⟩,_⟩:=slot b _ q hb
    exact⟨sl',q'⟩
  · obtain⟨o',q⟩:=F.un.there b o e hx
    by_cases hb:b∈frs l
    · obtain⟨⟨sl,q'⟩,_⟩:=slot b o' q hb
      exact⟨_,q'⟩
    · exact⟨o',keep b o' q (ne b o e).1 (ne b o e).2 hb⟩
  · exact keep b u e (fun z=>hb (z▸F.ha)) (fun z=>hb (z▸F.hT)) fun z=>hb (fH b z)
def ExcO(a C:Addr):HO:=.ext fun h=>∃o,h.get? a=some o∧o.cls=.ref C
theorem Fly.un'(F:Fly P w (frs l) H H' s s' a T C):Un (frs l) [] H (upd H' a (ExcO a C)) s.heap s'.heap where
  keep:=F.un.keep
  slot:=F.un.slot
  free:=fun b o e n hx=>by rw[a0v (fun z=>by rw[z,F.na]at e;cases e)];exact F.un.free b o e n hx
  there:=F.un.there
  tups:=fun b xs e=>by have:=F.un.tups b xs e;rw[a0v (a0s this F.ha)];exact this
  frzs:=fun b o u e=>by have:=F.un.frzs b o u e;rw[a0v (a0s this F.ha)];exact this
  tbls:=fun b ps e=>by obtain⟨m,q⟩:=F.un.tbls b ps e;exact⟨m,by rw[a0v (a0s q F.ha)];exact q⟩
theorem Fly.hok'(F:Fly P w (frs l) H H' s s' a T C):HOk P w (upd H' a (ExcO a C)) s'.heap:=fun b o e=>by
  by_cases z:b=a
  · subst z
    rw[a0b]at e;cases e
    obtain⟨oe,vs,a0,oT,ts,e1,e2,_⟩:=F.xt
    exact⟨⟨oe,e1,e2.1⟩,⟨oe,e1⟩,fun h1 h2 ⟨o,q1,q2⟩ k=>⟨o,k o q1,q2⟩⟩
  · rw[a0v z]at e
    exact(F.hok b o e).stay (fun _ _ _ q=>q) (fun c q=>by rw[a0v (a0s q F.ha)];exact q) fun c xs q=>by rw[a0v (a0s q F.ha)];exact q
end
def XP(X:Cx)(pins:List (Addr × Obj))(σ:St)(E:XK)(e:Value)(s':Shared):Prop:=∃s H,Inv X pins σ H s∧CX1 X.prog X.w X.stack H s E e s'
structure Thru(X:Cx)(E:XK):Prop where
  stk:X.stack=X.env::X.outer
  fr:X.env.frame=some X.env.locals
  ex:X.ex=[]
  xe:X.xe=fun e s'=>wpAny (model X.prog X.w) X.A (leaving X.env e) (fun _ s''=>CX1 X.prog X.w X.outer X.H₀ X.s₀ E e s'') (fun e' s''=>CX1 X.prog X.w X.outer X.H₀ X.s₀ E e' s'') s'
section
variable{X:Cx}{pins:List (Addr × Obj)}{σ:St}{H:Hp}{s s':Shared}{E:XK}{e:Value}
theorem Fly.inv{H':Hp}{a T C:Addr}(I:Inv X pins σ H s)(F:Fly X.prog X.w (frs X.stack) H H' s s' a T C):Inv X pins σ H' s':=I.call' F.os F.un F.hok F.bare (ch:=[]) (fun _ z=>absurd z (by simp))
theorem Fly.inv'{H':Hp}{a T C:Addr}(I:Inv X pins σ H s)(F:Fly X.prog X.w (frs X.stack) H H' s s' a T C):Inv X pins σ (upd H' a (ExcO a C)) s':=I.call' F.os F.un' F.hok' F.bare (ch:=[]) (fun _ z=>absurd z (by simp))
theorem Fly.out{H':Hp}{a T C:Addr}(R:Thru X E)(I:Inv X pins σ H s)(F:Fly X.prog X.w (frs X.stack) H H' s s' a T C)(q:E (.ref C) none H'):CX1 X.prog X.w X.outer X.H₀ X.s₀ E (.ref a) s':=by
  have fsub:∀b∈frs X.outer,b∈frs X.stack:=fun b hb=>by rw[R.stk];unfold frs;rw[List.filterMap_cons,R.fr];exact List.mem_cons_of_mem _ hb
  have u0:Un (frs X.stack) [] X.H₀ H X.s₀.heap s.heap:=I.base.mono fsub (by rw[R.ex];simp)
  have u1:=u0.trans F.un
  have neL:∀b o,X.s₀.heap.get? b=some o→b≠X.env.locals:=fun b o e=>Nat.ne_of_lt (Nat.lt_of_lt_of_le (Heap.lt_size e) I.ok.above)
  have nin:∀b o,X.s₀.heap.get? b=some o→b ∉ frs X.outer→b ∉ frs X.stack:=fun b o e hb hm=>by
    rw[R.stk]at hm
    unfold frs at hm
    rw[List.filterMap_cons,R.fr]at hm
    rcases List.mem_cons.mp hm with z | z
    · exact neL b o e z
    · exact hb z
  have none0:∀b,s.heap.get? b=none→X.s₀.heap.get? b=none:=fun b n=>by
    cases q:X.s₀.heap.get? b with
    | none=>rfl
    | some o=>
      obtain⟨o',q'⟩:=I.base.there b o q (by rw[R.ex];simp)
      rw[n]at q';cases q'
  exact⟨a,T,C,H',rfl,⟨F.os.trans I.os,F.bare,⟨fun b o e n hb hx=>u1.keep b o e n (nin b o e hb) hx,fun b o e n hb hx=>u1.slot b o e n (fsub b hb) hx,u1.free,u1.there,u1.tups,u1.frzs,u1.tbls⟩,F.hok,F.xt,none0 a F.na,none0 T F.nT,F.ha,F.hT⟩,q⟩
theorem XP.leave(R:Thru X E)(x:XP X pins σ E e s'):X.xe e s':=by
  obtain⟨s,H,I,a,T,C,H',rfl,F,q⟩:=x
  have J:=F.inv I
  obtain⟨a0,fl⟩:=F.base J.stack
  rw[R.xe]
  rw[R.stk]at fl
  refine wpAny_leaves_onW (J.ok.frames.trans (by rw[R.stk])) R.fr fl fun h' fl' up=>?_
  rw[← R.stk]at fl'
  obtain⟨T',F'⟩:=F.back (tk:=s'.toks) J.stack J.stkFree fl' up
  exact F'.out R I q
theorem made_leave{h':Heap}{a C:Addr}{vs:List Value}(R:Thru X E)(I:Inv X pins σ H s)(m:Heap.MadeExcOf s.heap h' a (.ref C) vs)(q:E (.ref C) none H):X.xe (.ref a) { s with heap:=h' }:=by
  have J:Inv X pins σ H { s with heap:=h' }:=I.kept (t':=s.toks) m.keeps
  obtain⟨t,he,htn,ht⟩:=m.there
  have ha:H a=none:=I.hok.nothing m.new
  rw[R.xe]
  have ff:h'.FunFrames (hid h' a a (frs X.stack)) X.stack:=d0s J.stack fun b hb=>PySem.W.hideAll_none _ (by simp[hb])
  have ff':h'.FunFrames (hid h' a a (frs X.stack)) (X.env::X.outer):=by
    have z:=J.stack
    rw[R.stk]at z
    exact d0s z fun b hb=>PySem.W.hideAll_none _ (by rw[R.stk];simp[hb])
  refine wpAny_leaving_firstW (a0:=.ref t) (base:=hid h' a a (frs X.stack)) (J.ok.frames.trans (by rw[R.stk])) ff' R.fr he (fun b o e=>PySem.W.of_hideAll _ e) (PySem.W.hideAll_none _ (by simp)) rfl rfl rfl fun h2 hL=>?_
  obtain⟨k1,_,⟨oe,ws,T',oT,ts,e1,e2,e3,e4,e0,e5,e6,e7,e8⟩,k4⟩:=hL
  have ffm:∀b∈frs X.stack,∃o,h'.get? b=some o∧∀vs,o.data≠.fields vs:=fun b hb=>(ff.mem hb).2
  have keep:∀b o,h'.get? b=some o→b≠a→b ∉ frs X.stack→h2.get? b=some o:=fun b o e n1 n3=>k1 b o (PySem.W.hideAll_get _ e (by simp[n1,n3]))
  have nf:T' ∉ frs X.stack:=fun hb=>by
    obtain⟨o1,q1,q2⟩:=ffm _ hb
    obtain⟨sl,q3⟩:=k4 _ o1 q1 q2
    rw[e6]at q3;cases q3
    exact q2 _ e7
  have nT:h'.get? T'=none:=by
    cases q:h'.get? T' with
    | none=>rfl
    | some o=>
      have:=PySem.W.hideAll_get (a::a::frs X.stack) q (by simp[e5,nf])
      rw[e0]at this;cases this
  have ne:∀b o,s.heap.get? b=some o→b≠a:=fun b o e z=>by rw[z,m.new]at e;cases e
  have F':Fly X.prog X.w (frs X.stack) H H s { s with heap:=h2 } a T' C:=by
    refine⟨rfl,I.bare,⟨fun b o e n hb hx=>keep b o (m.keeps b o e) (ne b o e) hb,fun b o e n hb hx=>?_,fun _ _ _ n _=>n,fun b o e hx=>?_,fun _ _ e=>e,fun _ _ _ e=>e,fun b ps e=>⟨#[],by rw[e];simp⟩⟩,J.hok.loose fun b u hb e=>keep b u e (fun z=>hb (z▸ha)) fun z=>hb (J.stkFree b z),
      ⟨oe,ws,_,oT,ts,e1,e2,e3,e4,e5,e6,e7,e8⟩,m.new,?_,ha,J.hok.nothing nT⟩
    · obtain⟨o1,q1,q2⟩:=ffm b hb
      have q3:=m.keeps b o e
      rw[q1]at q3;cases q3
      exact k4 b _ q1 q2
    · by_cases hb:b∈frs X.stack
      · obtain⟨o1,q1,q2⟩:=ffm b hb
        obtain⟨sl,q3⟩:=k4 b o1 q1 q2
        exact⟨_,q3⟩
      · exact⟨o,keep b o (m.keeps b o e) (ne b o e) hb⟩
    · cases q:s.heap.get? T' with
      | none=>rfl
      | some o=>rw[m.keeps _ o q]at nT;cases nT
  exact F'.out R I q
end
end L2
namespace L2
open PySem PySem.Spec PyProof.Rows
abbrev bmV:List Value:=[.type "ValueError",.type "Exception",.type "BaseException",.type "object"]
theorem excIn_obj{K:PySem.W.Frag}{h:Heap}{C:Addr}{bmB:List Value}{newId:String}(X:K.In h)(q:PySem.W.excIn K C bmB newId=true) :
    ∃bm N nm q bs hdct sn sub ab col dd k0 k1 k2 k3 k5 mN,h.get? C=some (excClassObj nm q C N bs bm hdct sn sub ab col dd k0 k1 k2 k3 k5 newId)∧h.Ns N mN∧mN "__init__"=none∧OwnTail h bmB bm:=by
  unfold PySem.W.excIn at q
  split at q
  · rename_i dd cd sl ho
    split at q
    · rename_i C' bm k0 k1 k2 k3 n k5 hm hs
      simp only[Bool.and_eq_true,beq_iff_eq,Bool.not_eq_true']at q
      obtain⟨⟨⟨⟨⟨rfl,rfl⟩,hdel⟩,ht⟩,hok⟩,hni⟩:=q
      obtain⟨nm,bs,mro,ns,qn,hd,sn,sub,ab,col,del⟩:=cd
      dsimp only at hm hdel hok hni
      subst hm hdel
      have hsl:sl=#[k0,k1,k2,k3,some (.builtin n),k5]:=by
        obtain⟨l⟩:=sl
        simp only at hs
        rw[hs]
      subst hsl
      exact⟨bm,ns,nm,qn,bs,hd,sn,sub,ab,col,dd,k0,k1,k2,k3,k5,_,X _ _ ho,.of_isNs (PySem.W.isNs_of_in X hok),PySem.W.nsMap_none_of_in X hok hni,PySem.W.tail_of_in X ht⟩
    · cases q
  · cases q
theorem FnOk.quiet{P:Program}{w:World}{K:PySem.W.Frag}{mg:Str→Option Value}{base:Heap}{k:Nat}{f:Addr}{fd:FuncData}{ps:List Str}{sp:Sp}(F:FnOk P w K mg base (CX1 P w) k f fd ps sp) :
    FnOk P w K mg base CX0 k f fd ps (fun vs H Q _=>sp vs H Q E0):=
  ⟨fun vs H Q _ h=>F.len vs H Q E0 h,fun A outer s H args us vs Q E hr e0 hb r h=>codeAny_mono (F.run A outer s H args us vs Q E0 hr e0 hb r h) fun r s' hq=>by
    cases r with
    | error e=>obtain⟨_,_,_,_,_,_,z⟩:=hq;exact z.elim
    | ok fl=>cases fl <;>exact hq⟩
section
variable{P:Program}{w:World}{K:PySem.W.Frag}{mg:Str→Option Value}{base:Heap}
theorem Fun.okx{x qual:Str}{st:Stmt}{f:Addr}{fd:FuncData}{N ps:List Str}{k:Nat}{sp:Sp}(F:Fun K x qual st f fd)(S:a0r N ps (a0k st))(len:∀vs H Q E,sp vs H Q E→vs.length=ps.length)
    (hbody:∀(cdv:Value) (A:Around) (outer:List Env) (s:Shared) (H:Hp) (vs:List V) (Q:VK) (E:XK),Room k (A.deeper (envOfC qual (a0k st) s.heap.objs.size f cdv))→sp vs H Q E→
      ∃t,PSs (cxOf (CX1 P w) P w K mg base N qual (a0k st) f cdv A outer s H E) (c0a st) t∧t { nx:=fun _ H'=>Q .non H',rt:=Q } (j0t N vs) H):FnOk P w K mg base (CX1 P w) (k+1) f fd ps sp:=by
  obtain⟨oc,od,kV,doc,pm,an,cdv,ct,osl,rfl,lk,hcd⟩:=F.ex
  exact fn_of lk hcd S len fun A outer s H vs Q E hr hsp=>hbody cdv A outer s H vs Q E hr hsp
theorem Thru.own{X:Cx}{E:XK}(R:Thru X E):PassesOwn (model X.prog X.w) X.A X.env X.xe:=by rw[R.xe];exact PassesOwn.leaving
theorem thru_cx{N:List Str}{qual:Str}{scope:Scope}{f:Addr}{cd:Value}{A:Around}{outer:List Env}{s:Shared}{H:Hp}{E:XK}:Thru (cxOf (CX1 P w) P w K mg base N qual scope f cd A outer s H E) E:=⟨rfl,rfl,rfl,rfl⟩
end
abbrev TX:=St→Hp→VK→XK→Prop
abbrev TSX:=Ends→XK→St→Hp→Prop
def PEX(X:Cx)(e:Expr)(t:TX):Prop:=
  ∀(pins:List (Addr × Obj)) (s:Shared) (σ:St) (H:Hp) (Q:VK) (E:XK),Inv X pins σ H s→t σ H Q E→wpAny (model X.prog X.w) X.A (eval e X.env) (EP X pins σ Q) (XP X pins σ E) s
def PSX(X:Cx)(st:Stmt)(t:TSX):Prop:=
  ∀(pins:List (Addr × Obj)) (s:Shared) (σ:St) (H:Hp) (D:Ends) (E:XK),Inv X pins σ H s→t D E σ H→wpAny (model X.prog X.w) X.A (exec st X.env) (SP X pins D) (XP X pins σ E) s
def PSXs(X:Cx)(st:List Stmt)(t:TSX):Prop:=
  ∀(pins:List (Addr × Obj)) (s:Shared) (σ:St) (H:Hp) (D:Ends) (E:XK),Inv X pins σ H s→t D E σ H→wpAny (model X.prog X.w) X.A (execs st X.env) (SP X pins D) (XP X pins σ E) s
section
variable{X:Cx}{k:Nat}{f C:Addr}{fd:FuncData}{ps:List Str}{sp:Sp}{dvs:List V}{ds:List Value}{E:XK}{x m:Str}{p np cpos pos apos:Pos}{e o:Expr}{es:List Expr}{ta:TE}{t:TA}{tx:TX}
theorem PEX.thru(R:Thru X E)(h:PEX X e tx):PE X e (fun σ H Q=>tx σ H Q E):=fun pins s σ H Q I q=>wpAny_mono (h pins s σ H Q E I q) (fun _ _ z=>z) fun _ _ z=>z.leave R
theorem run_fnX{pins:List (Addr × Obj)}{σ:St}{H:Hp}{s:Shared}{Q:VK}{us:List Value}{vs:List V}(F:FnOk X.prog X.w X.K X.mg X.base (CX1 X.prog X.w) k f fd ps sp)(hr:Room k X.A)(hb:Binds X.K fd ps ds)(hd:Vals dvs ds)
    (I:Inv X pins σ H s) (r:Vals vs us) (h:sp (vs++dvs) H Q E):wpAny (model X.prog X.w) X.A (call (.ref f) us) (EP X pins σ Q) (XP X pins σ E) s:=by
  have r2:Vals (vs++dvs) (us++ds):=r.append hd
  have hl:(us++ds).length=ps.length:=by rw[← r2.length];exact F.len _ _ _ _ h
  refine wpAny_call (codeAny_mono (F.run X.A X.stack s H ⟨us,[]⟩ (us++ds) (vs++dvs) Q E hr I.env0 (hb s us I.kIn hl) r2 h) fun r s' hq=>?_)
  cases r with
  | error e=>exact⟨s,H,I,hq⟩
  | ok fl=>
    cases fl with
    | ret u=>exact I.after hq
    | next=>exact False.elim hq
    | brk=>exact False.elim hq
    | cont=>exact False.elim hq
theorem c0c(F:FnOk X.prog X.w X.K X.mg X.base (CX1 X.prog X.w) k f fd ps sp)(hr:Room k X.A)(hg:Gl X x)(hm:X.mg x=some (.ref f))(hk:PySem.W.keepIn X.K (.ref f)=true)(hb:Binds X.K fd ps ds)(hd:Vals dvs ds)
    (ha:PA X.nox (e::es) t) (hdb:(x == ("__debug__":Str))=false:=by decide) (he:starEach (e::es) X.env=(false,eval e X.env)::starEach es X.env:=by rfl) (hpl:(backTo pos (starEach es X.env)).any (·.1)=false:=by rfl) :
    PEX X (.Call (.Name x p) (e::es) [] pos) (fun σ H Q E=>tCall sp dvs E t σ H Q):=by
  intro pins s σ H Q E I h
  refine wpAny_Call_Name_kw (e0o I hg hm ?_ hdb)
  exact PySem.W.callWith_K (h₀:=X.base) I.ok.mod.kin hk (wpAny_mono (ha pos pins s σ H _ (I.wish _) h) (fun us s1 ⟨vs,H1,I1,r,q⟩=>⟨I1.unwish.kIn,run_fnX F hr hb hd I1.unwish r q⟩) fun _ _ z=>z.elim) he hpl
def tRaise(E:XK)(C:Addr)(t:TA):TS:=fun _ σ H=>t σ H fun vs H1=>vs.length≤sizeLine∧E (.ref C) none H1
theorem c0q(R:Thru X E)(hc:X.calm=true)(q:PySem.W.excIn X.K C bmV "ValueError.__new__"=true)(hg:Gl X x)(hm:X.mg x=some (.ref C))(ha:PA X.nox (e::es) t)
    (hdb:(x == ("__debug__":Str))=false:=by decide) (he:starEach (e::es) X.env=(false,eval e X.env)::starEach es X.env:=by rfl) (hpl:(backTo cpos (starEach es X.env)).any (·.1)=false:=by rfl) :
    PS X (.Raise (some (.Call (.Name x np) (e::es) [] cpos)) none pos) (tRaise E C t):=by
  intro pins s σ H D I h
  obtain⟨bm,N,nm,qn,bs,hdct,sn,sub,ab,col,dd,k0,k1,k2,k3,k5,mN,hC,hN,hni,T⟩:=excIn_obj I.mod.kin q
  have hh:X.A.handled=none:=I.ok.hd hc
  have ev:=ha cpos pins s σ H _ (I.wish _) h
  refine wpAny_Raise_call_subU (C:=C) (nm:=nm) (q:=qn) (N:=N) (bs:=bs) (bm:=bm) (hdct:=hdct) (sn:=sn) (sub:=sub) (ab:=ab) (col:=col) (dd:=dd) (k0:=k0) (k1:=k1) (k2:=k2) (k3:=k3) (k5:=k5)
    PySem.F.excBase_ValueError (by decide) PySem.F.excBase_ValueError (mN:=mN) (T.hasType PySem.F.excBase_ValueError.hasBase) hh (by rw[he];show(false || (backTo cpos (starEach es X.env)).any (·.1))=false;rw[hpl];rfl) hni (e0o I hg hm ⟨rfl,?_⟩ hdb)
  rw[he]
  change wpAny _ _ (spliced (backTo cpos (starEach (e::es) X.env))) _ _ _ at ev
  rw[he]at ev
  refine Calls.evalArgs_plain (wpAny_mono ev (fun us s2 ⟨vs,H1,I1,r,hl,q2⟩=>?_) fun _ _ z=>z.elim)
  have J:Inv X pins σ H1 s2:=I1.unwish
  exact⟨rfl,by rw[← r.length];exact hl,J.bk _ _ hC,hN.keeps J.bk,T.keeps J.bk,fun h' a m=>made_leave R J m q2⟩
end
end L2
namespace L2
open PySem PySem.Spec PyProof.Rows
abbrev Cx.caught(X:Cx)(a:Addr):Cx:={ X with A:=X.A.mark (some (.ref a)),calm:=false,xe:=fun _ _=>False }
section
variable{X:Cx}{pins:List (Addr × Obj)}{σ:St}{H:Hp}{s:Shared}{a:Addr}
theorem Inv.catch(I:Inv X pins σ H s)(a:Addr):Inv (X.caught a) pins σ H s:=
  ⟨⟨I.ok.mod,I.ok.kind,I.ok.glob,I.ok.blt,I.ok.above,I.ok.inj,I.ok.has,I.ok.cab,(fun z=>by cases z),I.ok.frames,I.ok.stk,I.ok.exf,I.ok.bs,I.ok.bsz,I.ok.noex,I.ok.exfs,I.ok.funs,I.ok.frf⟩,I.os,I.bare,I.base,I.loc,I.cell,I.free,I.freeC,I.pin,I.hok,I.len⟩
theorem Inv.uncatch(ok:X.Ok)(I:Inv (X.caught a) pins σ H s):Inv X pins σ H s:=⟨ok,I.os,I.bare,I.base,I.loc,I.cell,I.free,I.freeC,I.pin,I.hok,I.len⟩
theorem Inv.unset{i:Nat}{n:Str}{m:Str→Option Value}{v:Option Value}{h':Heap}{tk:Nat}(I:Inv X pins σ H s)(hN:X.N.Nodup)(hi:X.N[i]? = some n)(hk:X.env.kindOf n=some .local)
    (hl:∀(j:Nat) (x:Str) (v:V),X.N[j]? = some x→σ[j]? = some (some v)→Vis X.env.scope x→∃u,RelV v u∧Look X.env s.heap m x u)
    (hn':h'.Ns X.env.locals (fun x=>if x=n then v else m x)) (hs:Heap.SameBut X.env.locals s.heap h'):Inv X pins (σ.set i none) H { s with heap:=h',toks:=tk }:=by
  have cne:=I.cne
  have hiσ:i < σ.length:=by rw[I.len];exact(List.getElem?_eq_some_iff.mp hi).1
  have nb:∀b o,X.s₀.heap.get? b=some o→b≠X.env.locals:=fun b o e=>Nat.ne_of_lt (Nat.lt_of_lt_of_le (Heap.lt_size e) I.ok.above)
  refine⟨I.ok,I.os,I.bare,⟨fun b o e n hb hx=>?_,fun b o e n hb hx=>?_,I.base.free,fun b o e hx=>?_,I.base.tups,I.base.frzs,I.base.tbls⟩,⟨_,hn',fun j y v' e1 e2 e3=>?_⟩,fun y c e=>?_,I.free,I.freeC,fun p hp=>?_,I.hok.loose fun b u hb e=>?_,by simpa using I.len⟩
  · exact(hs.2 b (nb b o e)).trans (I.base.keep b o e n hb hx)
  · obtain⟨sl,e1⟩:=I.base.slot b o e n hb hx
    exact⟨sl,(hs.2 b (nb b o e)).trans e1⟩
  · obtain⟨o',e1⟩:=I.base.there b o e hx
    exact⟨o',(hs.2 b (nb b o e)).trans e1⟩
  · by_cases hj:j=i
    · subst hj
      rw[List.getElem?_set_self hiσ]at e2
      cases e2
    · rw[List.getElem?_set_ne (Ne.symm hj)]at e2
      obtain⟨u',r',q⟩:=hl j y v' e1 e2 e3
      refine⟨u',r',?_⟩
      rcases q with ⟨k,e⟩ | ⟨k,c,e,z⟩
      · refine .inl ⟨k,?_⟩
        have:y≠n:=fun e=>hj (h0g hN e1 (e▸hi))
        simp[this,e]
      · exact .inr ⟨k,c,e,z.sameBut hs (cne y c e)⟩
  · obtain⟨w',z⟩:=I.cell y c e
    exact⟨w',z.sameBut hs (cne y c e)⟩
  · obtain⟨e,n,ne,nf,d⟩:=I.pin p hp
    exact⟨(hs.2 p.1 ne).trans e,n,ne,nf,d⟩
  · exact(hs.2 b fun z=>hb (z▸I.free)).trans e
end
abbrev Ends.gone(D:Ends)(i:Nat):Ends:={ nx:=fun σ H=>D.nx (σ.set i none) H,rt:=D.rt,bk:=fun σ H=>D.bk (σ.set i none) H,ct:=fun σ H=>D.ct (σ.set i none) H }
def tTry(K:PySem.W.Frag)(Cc:Addr)(i:Nat)(tb:TSX)(ts:TS):TS:=fun D σ H=>tb D (fun cls _ H'=>∃C,cls=.ref C∧PySem.W.exmOne K (.ref C) (.ref Cc)=some true∧
  ∀a,H' a=none→ts (D.gone i) (σ.set i (some (.ref a))) (upd H' a (ExcO a C))) σ H
section
variable{X:Cx}{e:Expr}{te:TE}{tx:TX}{pos:Pos}{st:Stmt}{t u:TSX}
theorem psx_one(h:PSX X st t):PSXs X [st] t:=by
  intro pins s σ H D E I q
  refine wpAny_execs_cons (thn (h pins s σ H D E I q) fun f s1 q=>?_)
  cases f with
  | next=>exact wpAny_execs_nil q
  | ret v=>exact q
  | brk=>exact q
  | cont=>exact q
theorem psx_set{i:Nat}{x:Str}{pos':Pos}(hN:X.N.Nodup)(hi:X.N[i]? = some x)(hx:Loc X.env.scope x)(he:PEX X e tx)(hs:swapsWith e (some (.Name x pos')) pos.line X.env=pure false:=by rfl)
    (hf:X.fn x=true∨X.env.scope.names.lookup x=some .local:=by first | exact .inl rfl | exact .inr rfl | assumption):PSX X (.Assign [.Name x pos'] e pos) (fun D E σ H=>tx σ H (fun v H1=>D.nx (σ.set i (some v)) H1) E):=by
  intro pins s σ H D E I h
  refine wpAny_Assign_Name (thn (he pins s σ H _ E I h) fun v s1 ⟨y,H1,I1,r1,q1⟩=>?_) hs
  exact d0k I1 hN hi hx r1 (fun s2 I2=>⟨_,H1,I2,q1⟩) hf
theorem ps_try{body:List Stmt}{c n:Str}{np hpos:Pos}{b₀:Stmt}{suite:List Stmt}{Cc:Addr}{i:Nat}{ts:TS}(hb:PSXs X body t)(stk:X.stack=X.env::X.outer)(fr:X.env.frame=some X.env.locals)
    (hN:X.N.Nodup) (hi:X.N[i]? = some n) (hk:X.env.kindOf n=some .local) (hg:Gl X c) (hm:X.mg c=some (.ref Cc)) (hs:∀a,PSs (X.caught a) (b₀::suite) ts)
    (hdb:(c == ("__debug__":Str))=false:=by decide):PS X (.Try body [.ExceptHandler (some (.Name c np)) (some n) (b₀::suite) hpos] [] [] pos) (tTry X.K Cc i t ts):=by
  intro pins s σ H D I h
  refine wpAny_Try_except (wpAny_mono (hb pins s σ H D _ I h) (fun f s1 q=>?_) fun e s1 q=>?_)
  · cases f with
    | next=>exact wpAny_execs_nil q
    | ret v=>exact q
    | brk=>exact q
    | cont=>exact q
  · obtain⟨s0,H0,I0,a,T,C,H',rfl,F,C',eC,hx,hq⟩:=q
    cases eC
    have J:=F.inv I0
    obtain⟨a0,fl⟩:=F.base J.stack
    have hfr:X.A.frames=some (X.env::X.outer):=J.ok.frames.trans (by rw[stk])
    have fl1:=fl
    rw[stk]at fl1
    refine wpAny_looks_onW hfr fr fl1 fun h1 held up1=>?_
    refine wpAny_landsW held fun h2 fl2 up2=>?_
    have fl2':=fl2
    rw[← stk]at fl2'
    obtain⟨T2,F2⟩:=F.back (tk:=s1.toks) J.stack J.stkFree fl2' (up1.trans up2)
    have J2:Inv X pins σ H' { s1 with heap:=h2,toks:=s1.toks }:=F2.inv I0
    obtain⟨oe,vs,b0,oT,tsx,e1,e2,_⟩:=F2.xt
    have LT:PySem.W.Looks (model X.prog X.w) h2 (typeOf (.ref a)) (.ref C):=e2.1▸(PySem.W.Looks.ld e1).andThen .now
    refine wpAny_handleBy_cons (codeAny_handlers_test (e0o (X:=X.caught a) (s:={ s1 with heap:=h2,toks:=s1.toks }) (J2.catch a) hg hm ?_ hdb)) (by intro q;cases q)
    refine(PySem.W.exm_one (M:=model X.prog X.w) J2.kIn LT hx).here ?_
    refine codeAny_handlers_suite_as ?_
    refine lands_againW fl2 fun h3 fl3 up3=>?_
    have fl3':=fl3
    rw[← stk]at fl3'
    obtain⟨T3,F3⟩:=F.back (tk:=s1.toks) J.stack J.stkFree fl3' ((up1.trans up2).trans up3)
    have J3:Inv X pins σ (upd H' a (ExcO a C)) { s1 with heap:=h3,toks:=s1.toks }:=F3.inv' I0
    refine d0k (X:=X) (v:=.ref a) J3 hN hi (.inl hk) rfl (fun s4 J4=>?_) (.inr hk)
    refine wpAny_mono (hs a pins s4 _ _ (D.gone i) (J4.catch a) (hq a F.ha)) (fun fl s5 q=>?_) fun _ _ z=>z.elim
    have cl:(X.env.scope.kind == .class || (X.env.scope.kind == .module && X.env.locals != X.env.globals))=false:=by rw[I.ok.kind];rfl
    cases fl with
    | next=>
      obtain⟨σ',H5,I5,q5⟩:=q
      have K5:=I5.uncatch I.ok
      obtain⟨m,hn,hl⟩:=id K5.loc
      exact wpAny_nameGoes_keeps hk hn cl fun h' v hn' hs'=>⟨_,H5,K5.unset hN hi hk hl hn' hs',q5⟩
    | brk=>
      obtain⟨σ',H5,I5,q5⟩:=q
      have K5:=I5.uncatch I.ok
      obtain⟨m,hn,hl⟩:=id K5.loc
      exact wpAny_nameGoes_keeps hk hn cl fun h' v hn' hs'=>⟨_,H5,K5.unset hN hi hk hl hn' hs',q5⟩
    | cont=>
      obtain⟨σ',H5,I5,q5⟩:=q
      have K5:=I5.uncatch I.ok
      obtain⟨m,hn,hl⟩:=id K5.loc
      exact wpAny_nameGoes_keeps hk hn cl fun h' v hn' hs'=>⟨_,H5,K5.unset hN hi hk hl hn' hs',q5⟩
    | ret u=>
      obtain⟨vr,σ',H5,I5,rv,q5⟩:=q
      have K5:=I5.uncatch I.ok
      obtain⟨m,hn,hl⟩:=id K5.loc
      exact wpAny_nameGoes_keeps hk hn cl fun h' v hn' hs'=>⟨vr,_,H5,K5.unset hN hi hk hl hn' hs',rv,q5⟩
end
end L2
namespace Mine
open PySem PySem.W PySem.Spec PySem.Calls PyProof.Rows
section
variable{prog:Program}{w:World}{A:Around}{E:Value→Shared→Prop}{s:Shared}{K:Frag}{x D:Addr}{o:Obj}{c:Value}
theorem check_ga{M:Model}{nameV:Value}{Q:Unit→Shared→Prop}(X:K.In s.heap)(L0:Looks M s.heap (typeOf (.ref x)) (.ref D))(hb:mroIn K D (.type "BaseException")=some true)(hq:Q () s) :
    wpAny M A (checkBuiltinCall "BaseException.__getattribute__" ⟨[.ref x,nameV],[]⟩) Q E s:=by
  obtain⟨hh,g,d,t,os⟩:=s
  have hk:builtinKind "BaseException.__getattribute__"=some .slot:=by decide +kernel
  have hsplit:splitId "BaseException.__getattribute__"=some ("BaseException","__getattribute__"):=by decide +kernel
  have LB:=looks_mroIn (M:=M) X hb
  have ha:=PySem.F.args_bexc_ga (.ref x) nameV
  have LI:Looks M hh (isInstance (.ref x) (.type "BaseException")) true:=L0.andThen LB
  simp only[checkBuiltinCall,hk,hsplit]
  refine wpAny_bind (LI.at ?_)
  repeat (any_goals (first | assumption | wp_step))
open Builtin Builtin.Getset_descriptor in
theorem class_get1{R:Result→Shared→Prop}{tp:Value}(X:K.In s.heap)(L0:∀M:Model,Looks M s.heap (typeOf (.ref x)) (.ref D))(hm:mroIn K D (.type "object")=some true)
    (hR:R (.ok (.ret (.ref D))) s):codeAny (model prog w) A (.call (.builtin "getset_descriptor.__get__") ⟨[.builtin "object.__class__",.ref x,tp],[]⟩) R s:=by
  rcases s with ⟨hp,gn,dn,tk,os⟩
  have look:=L0 (model prog w)
  have above:=looks_mroIn (M:=model prog w) X hm
  have known:=KF.slot_gs.check (model prog w) A.in1
  have kind:(⟨hp,gn,dn,tk,os⟩:Shared).TypeIs (.builtin "object.__class__") "getset_descriptor":=KF.type_class
  apply codeAny_call_builtin KF.slot_gs.plain KF.entry_gs
  apply known _ _ _ _ _ _ kind (KF.args_gs _ _ _)
  delta Builtin.«getset_descriptor.__get__» descrGet
  rw[dga_obj]
  apply wpAny_bind
  apply wpAny_pure
  delta descrGetter descrCheckInstance descrNameAndClass isInstance
  simp only[KF.owner_class]
  repeat lk
  constructor
  · exact Code.quiet_builtin _ (by decide +kernel)
  · apply codeAny_builtin KF.entry_class
    delta Builtin.«object.__class__» shownTypeOf
    repeat lk
    exact hR
theorem class_entry{nm:Tok}{Q:Fin→Shared→Prop}(X:K.In s.heap)(L0:∀M:Model,Looks M s.heap (typeOf (.ref x)) (.ref D))(ha:findIn K (.ref D) "__class__"=some (some (.builtin "object.__class__")))
    (hm:mroIn K D (.type "object")=some true) (hq:Q (.done (.ret (.ref D))) s) :
    wpAny (model prog w) A (Builtin.«object.__getattribute__» ⟨[.ref x,.str "__class__" nm],[]⟩) Q E s:=by
  obtain⟨hh,g,d,t,os⟩:=s
  have L1:=L0 (model prog w)
  have L3:=looks_findIn (M:=model prog w) X ha
  have f5:=KF.type_class
  have f6:=PySem.F.slot_gs_get.lookup
  have f7:=PySem.F.slot_gs_set.lookup
  repeat (any_goals (first | assumption | with_reducible refine wpAny_bind (L1.at ?_) | with_reducible refine L1.at ?_ | with_reducible refine wpAny_bind (L3.at ?_) | with_reducible refine L3.at ?_ | wp_step))
  refine class_get1 (D:=D) X L0 hm ?_
  repeat (any_goals (first | assumption | wp_step))
theorem class_call{nm:Tok}{R:Result→Shared→Prop}(X:K.In s.heap)(L0:∀M:Model,Looks M s.heap (typeOf (.ref x)) (.ref D))(ha:findIn K (.ref D) "__class__"=some (some (.builtin "object.__class__")))
    (hm:mroIn K D (.type "object")=some true) (hb:mroIn K D (.type "BaseException")=some true) (hq:R (.ok (.ret (.ref D))) s) :
    codeAny (model prog w) A (.call (.builtin "BaseException.__getattribute__") ⟨[.ref x,.str "__class__" nm],[]⟩) R s:=
  codeAny_call_builtin PySem.F.attr_ValueError.ga.plain PySem.F.entry_bexc_ga (check_ga X (L0 _) hb (class_entry X L0 ha hm hq))
theorem exc_class{Q:Option Value→Shared→Prop}(X:K.In s.heap)(L0:∀M:Model,Looks M s.heap (typeOf (.ref x)) (.ref D))
    (hga:findIn K (.ref D) "__getattribute__"=some (some (.builtin "BaseException.__getattribute__"))) (hgt:findIn K (.ref D) "__getattr__"=some none) (ha:findIn K (.ref D) "__class__"=some (some (.builtin "object.__class__")))
    (hm:mroIn K D (.type "object")=some true) (hb:mroIn K D (.type "BaseException")=some true) (h:Q (some (.ref D)) { s with toks:=s.toks+1 }) :
    wpAny (model prog w) A (getAttr? (.ref x) "__class__") Q E s:=by
  obtain⟨hh,g,d,t,os⟩:=s
  have L1:=L0 (model prog w)
  have L2:=looks_findIn (M:=model prog w) X hga
  have L3:=looks_findIn (M:=model prog w) X hgt
  have f3:=PySem.F.attr_ValueError.ga.bind (.ref x)
  have hx2:(Value.builtin "BaseException.__getattribute__" == Value.builtin "object.__getattribute__")=false:=by decide +kernel
  have hx1:(onTheHeap (Value.ref D) && Value.builtin "BaseException.__getattribute__" == Value.builtin "object.__getattribute__")=false:=by rw[hx2];rfl
  have hx0:(false && onTheHeap (Value.builtin "BaseException.__getattribute__"))=false:=rfl
  unfold getAttr? getAttrBy? getAttrBy
  refine wpAny_bind (wpAny_mkText (wpAny_bind (wpAny_attempt (wpAny_holding (wpAny_bind (L1.at (wpAny_bind (L2.at ?_))))))))
  simp only[hx1]
  repeat (any_goals (first | assumption | with_reducible refine wpAny_bind (L1.at ?_) | with_reducible refine L1.at ?_ | with_reducible refine wpAny_bind (L3.at ?_) | with_reducible refine L3.at ?_ | wp_step))
  refine class_call (D:=D) (s:=⟨hh,g,d,t+1,os⟩) X (fun M=>L0 M) ha hm hb ?_
  show wpAny (model prog w) A (handedOut (Value.ref D)) _ _ _
  exact handed_on rfl (wpAny_pure h)
def ExcAt(x D:Addr)(h:Heap):Prop:=∃o,h.get? x=some o∧o.cls=.ref D
theorem excAt_ty{M:Model}{h:Heap}(p:ExcAt x D h):Looks M h (typeOf (.ref x)) (.ref D):=by
  obtain⟨o,h1,h2⟩:=p
  exact h2▸(Looks.ld h1).andThen .now
theorem kitx_exc
    (hga:findIn K (.ref D) "__getattribute__"=some (some (.builtin "BaseException.__getattribute__"))) (hgt:findIn K (.ref D) "__getattr__"=some none) (ha:findIn K (.ref D) "__class__"=some (some (.builtin "object.__class__")))
    (hm:mroIn K D (.type "object")=some true) (hb:mroIn K D (.type "BaseException")=some true):KitX K (.ref x) (.ref D) (ExcAt x D)where
  ty:=fun _ _ _ p=>excAt_ty p
  it:=fun _ _ X _=>by
    obtain⟨cdD,hcD,_⟩:=Option.bind_eq_some_iff.mp (show(clsIn K D).bind _=some true from hm)
    unfold clsIn at hcD
    split at hcD
    · rename_i c' d' cd' sl' ho
      intro A' Q' E' s' k q
      unfold isType loadHead
      exact wpAny_bind (wpAny_loadPart (k _ _ (X _ _ ho)) (wpAny_pure q))
    · cases hcD
  ne:=fun h tp dd its n sl X htp=>by
    refine Bool.eq_false_iff.mpr fun q=>?_
    have e:D=tp:=Value.ref.inj (beq_iff_eq.mp q)
    subst e
    obtain⟨cdD,hcD,_⟩:=Option.bind_eq_some_iff.mp (show(clsIn K D).bind _=some true from hm)
    unfold clsIn at hcD
    split at hcD
    · rename_i c' d' cd' sl' ho
      have z:=(X _ _ ho).symm.trans htp
      cases z
    · cases hcD
  ca:=fun X p k=>exc_class X (fun _=>excAt_ty p) hga hgt ha hm hb k
end
end Mine
namespace L2
open PySem PySem.Spec PyProof.Rows
structure ExcK(K:PySem.W.Frag)(C:Addr):Prop where
  ga:PySem.W.findIn K (.ref C) "__getattribute__"=some (some (.builtin "BaseException.__getattribute__"))
  gt:PySem.W.findIn K (.ref C) "__getattr__"=some none
  cl:PySem.W.findIn K (.ref C) "__class__"=some (some (.builtin "object.__class__"))
  ob:PySem.W.mroIn K C (.type "object")=some true
  be:PySem.W.mroIn K C (.type "BaseException")=some true
  ex:PySem.W.excIn K C bmV "ValueError.__new__"=true
def clsV:V→Option Value
  | .ty n=>some (.type n)
  | .ref D=>some (.ref D)
  | _=>none
section
variable{X:Cx}
def rIsx(K:PySem.W.Frag):List V→Hp→VK→Prop:=fun xs H Q=>∃a C c cv b,xs=[.ref a,c]∧H a=some (ExcO a C)∧ExcK K C∧clsV c=some cv∧PySem.W.kitOne K (.ref C) cv=some b∧Q (.bl b) H
theorem call_isx:CallR X (.builtin "isinstance") (rIsx X.K):=by
  intro pins s σ H xs us Q I r h
  obtain⟨a,C,c,cv,b,rfl,ea,ek,ec,e,q⟩:=h
  cases r with
  | cons rx r1=>
    cases r1 with
    | cons ry r2=>
      cases r2
      cases (show _=Value.ref a from rx)
      have hv:∀u,RelV c u→u=cv:=fun u ru=>by
        cases c with
        | ty n=>cases ec;exact ru
        | ref D=>cases ec;exact ru
        | _=>cases ec
      cases hv _ ry
      obtain⟨p,_,_⟩:=(show ObjOk X.prog X.w H s.heap a (ExcO a C)from I.hok a _ ea)
      exact PySem.W.kia_one (Mine.kitx_exc ek.ga ek.gt ek.cl ek.ob ek.be) I.kIn p e (fun z=>nomatch z) fun tk=>⟨.bl b,H,I.tok _,rfl,q⟩
theorem call_isxK(K:PySem.W.Frag)(h:X.K=K):CallR X (.builtin "isinstance") (rIsx K):=h▸call_isx
theorem PS.nox{st:Stmt}{t:TS}(h:PS X.nox st t):PS X st t:=fun pins s σ H D I hw=>
  wpAny_mono (h pins s σ H D (I.wish _) hw) (fun _ _ q=>q.unwish) fun _ _ z=>False.elim z
end
end L2
namespace L2
open PySem PySem.Spec PyProof.Rows
theorem boot_VE:bootBuiltins "ValueError"=some (.type "ValueError"):=by decide +kernel
section
variable{X:Cx}
end
end L2
namespace Mine
@[irreducible] def dv(a b:Int):Int:=(Int.gcd a b:Int)
theorem i0g(a b:Int):0≤dv a b:=by unfold dv;exact Int.natCast_nonneg _
theorem dv_fmod(a b:Int):dv b (a.fmod b)=dv a b:=by
  unfold dv
  have e:a.fmod b=a - a.fdiv b * b:=by rw[Int.fmod_def,Int.mul_comm]
  rw[e,Int.gcd_sub_mul_right_right,Int.gcd_comm]
theorem dv_zero(a:Int):dv a 0=(a.natAbs:Int):=by
  unfold dv;rw[Int.gcd_zero_right]
theorem dv_abs(a b:Int):dv (a.natAbs:Int) (b.natAbs:Int)=dv a b:=by
  unfold dv Int.gcd;simp
theorem fmod_abs_lt(a b:Int)(h:b≠0):(a.fmod b).natAbs < b.natAbs:=by
  rcases Int.lt_trichotomy b 0 with hb | hb | hb
  · have e:a.fmod b = -((-a).fmod (-b)):=by
      simp[Int.neg_fmod_neg]
    have h1:=Int.fmod_nonneg_of_pos (-a) (show 0 < -b by omega)
    have h2:=Int.fmod_lt_of_pos (-a) (show 0 < -b by omega)
    omega
  · exact absurd hb h
  · have h1:=Int.fmod_nonneg_of_pos a hb
    have h2:=Int.fmod_lt_of_pos a hb
    omega
theorem d_turn{a b g r:Int}(h:dv g r=dv a b)(hr:0 < r):0≤r∧0≤g.fmod r∧dv r (g.fmod r)=dv a b:=
  ⟨by omega,Int.fmod_nonneg_of_pos g hr,by rw[dv_fmod,h]⟩
theorem d_less{g r:Int}(hr:0 < r):(g.fmod r).toNat < r.toNat:=by
  have h1:=Int.fmod_nonneg_of_pos g hr
  have h2:=Int.fmod_lt_of_pos g hr
  omega
theorem d_out{a b g r:Int}(h:dv g r=dv a b)(g0:0≤g)(r0:0≤r)(hr:¬0 < r):g=dv a b:=by
  have e:r=0:=by omega
  rw[← h,e,dv_zero];omega
theorem l_turn{a b x y:Int}(h:dv x y=dv a b):dv y (x.fmod y)=dv a b:=by rw[dv_fmod,h]
theorem l_out{a b x y:Int}(h:dv x y=dv a b)(hy:y=0):(x.natAbs:Int)=dv a b:=by
  rw[← h,hy,dv_zero]
theorem dv_left(a b:Int):∃q,a=dv a b * q:=by
  obtain⟨q,hq⟩:=Int.gcd_dvd_left a b
  exact⟨q,by unfold dv;exact hq⟩
theorem dv_right(a b:Int):∃q,b=dv a b * q:=by
  obtain⟨q,hq⟩:=Int.gcd_dvd_right a b
  exact⟨q,by unfold dv;exact hq⟩
theorem dv_eq_zero{a b:Int}(h:dv a b=0):a=0∧b=0:=by
  obtain⟨q,hq⟩:=dv_left a b
  obtain⟨r,hr⟩:=dv_right a b
  rw[h]at hq hr
  exact⟨by omega,by omega⟩
theorem dv_pos{a b:Int}(h:b≠0):0 < dv a b:=by
  have:=i0g a b
  rcases(by omega:dv a b=0∨0 < dv a b)with e | e
  · exact absurd (dv_eq_zero e).2 h
  · exact e
theorem dv_le(a b:Int)(h:b≠0):dv a b≤(b.natAbs:Int):=by
  have:Int.gcd a b≤b.natAbs:=by
    unfold Int.gcd
    exact Nat.gcd_le_right _ (by omega)
  unfold dv;omega
theorem fdiv_mul{g q:Int}(hg:g≠0):(g * q).fdiv g=q:=Int.mul_fdiv_cancel_left q hg
@[irreducible] def sg(a b:Int):Int:=if b < 0 then -(dv a b)else dv a b
@[irreducible] def tp(a b:Int):Int:=a.fdiv (sg a b)
@[irreducible] def bt(a b:Int):Int:=b.fdiv (sg a b)
theorem sg_pos{a b:Int}(h:¬b < 0):sg a b=dv a b:=by unfold sg;rw[if_neg h]
theorem sg_neg{a b:Int}(h:b < 0):sg a b = -(dv a b):=by unfold sg;rw[if_pos h]
theorem sg_ne{a b:Int}(h:b≠0):sg a b≠0:=by
  have:=dv_pos (a:=a) h
  unfold sg;split <;>omega
theorem tp_mul{a b:Int}(h:b≠0):sg a b * tp a b=a:=by
  obtain⟨q,hq⟩:=dv_left a b
  have hs:=sg_ne (a:=a) h
  have:∃k,a=sg a b * k:=by
    unfold sg;split
    · exact⟨-q,by rw[Int.neg_mul_neg];exact hq⟩
    · exact⟨q,hq⟩
  obtain⟨k,hk⟩:=this
  have e:tp a b=k:=by
    unfold tp
    conv=>lhs;lhs;rw[hk]
    exact fdiv_mul hs
  rw[e];exact hk.symm
theorem bt_mul{a b:Int}(h:b≠0):sg a b * bt a b=b:=by
  obtain⟨q,hq⟩:=dv_right a b
  have hs:=sg_ne (a:=a) h
  have:∃k,b=sg a b * k:=by
    unfold sg;split
    · exact⟨-q,by rw[Int.neg_mul_neg];exact hq⟩
    · exact⟨q,hq⟩
  obtain⟨k,hk⟩:=this
  have e:bt a b=k:=by
    unfold bt
    conv=>lhs;lhs;rw[hk]
    exact fdiv_mul hs
  rw[e];exact hk.symm
theorem bt_pos{a b:Int}(h:b≠0):0 < bt a b:=by
  have e:=bt_mul (a:=a) h
  have g:=dv_pos (a:=a) h
  rcases(by omega:0 < bt a b∨bt a b≤0)with p | p
  · exact p
  · exfalso
    by_cases hb:b < 0
    · rw[sg_neg hb,Int.neg_mul]at e
      have:=Int.mul_nonpos_of_nonneg_of_nonpos (Int.le_of_lt g) p
      omega
    · rw[sg_pos hb]at e
      have:=Int.mul_nonpos_of_nonneg_of_nonpos (Int.le_of_lt g) p
      omega
theorem cross{a b:Int}(h:b≠0):tp a b * b=a * bt a b:=by
  have e1:=tp_mul (a:=a) h
  have e2:=bt_mul (a:=a) h
  calc tp a b * b=tp a b * (sg a b * bt a b):=by rw[e2]
    _=(sg a b * tp a b) * bt a b:=by rw[Int.mul_comm (sg a b) (tp a b),Int.mul_assoc]
    _=a * bt a b:=by rw[e1]
theorem natAbs_sg(a b:Int):(sg a b).natAbs=Int.gcd a b:=by
  unfold sg dv;split <;>omega
theorem gcd_scale{a b s t u:Int}(e1:s * t=a)(e2:s * u=b):Int.gcd a b=s.natAbs * Int.gcd t u:=by
  rw[← e1,← e2,Int.gcd_mul_left]
theorem low{a b:Int}(h:b≠0):dv (tp a b) (bt a b)=1:=by
  have e:=gcd_scale (tp_mul (a:=a) h) (bt_mul (a:=a) h)
  rw[natAbs_sg]at e
  have p:=dv_pos (a:=a) h
  have q:0 < Int.gcd a b:=by unfold dv at p;omega
  have:Int.gcd a b * Int.gcd (tp a b) (bt a b)=Int.gcd a b * 1:=by rw[← e,Nat.mul_one]
  have:=Nat.eq_of_mul_eq_mul_left q this
  unfold dv;rw[this];rfl
theorem coprime_eq{a b c d:Int}(hb:0 < b)(hd:0 < d)(h1:dv a b=1)(h2:dv c d=1)(e:a * d=c * b):a=c∧b=d:=by
  have g1:Nat.Coprime b.natAbs a.natAbs:=by
    have:Int.gcd a b=1:=by unfold dv at h1;omega
    unfold Int.gcd at this
    exact Nat.Coprime.symm this
  have g2:Nat.Coprime d.natAbs c.natAbs:=by
    have:Int.gcd c d=1:=by unfold dv at h2;omega
    unfold Int.gcd at this
    exact Nat.Coprime.symm this
  have en:a.natAbs * d.natAbs=c.natAbs * b.natAbs:=by rw[← Int.natAbs_mul,← Int.natAbs_mul,e]
  have d1:b.natAbs ∣ d.natAbs:=g1.dvd_of_dvd_mul_left ⟨c.natAbs,by rw[en,Nat.mul_comm]⟩
  have d2:d.natAbs ∣ b.natAbs:=g2.dvd_of_dvd_mul_left ⟨a.natAbs,by rw[← en,Nat.mul_comm]⟩
  have eb:b.natAbs=d.natAbs:=Nat.dvd_antisymm d1 d2
  have ebd:b=d:=by omega
  refine⟨?_,ebd⟩
  rw[ebd]at e
  exact Int.eq_of_mul_eq_mul_right (by omega) e
theorem tp_uniq{a b x y:Int}(h:b≠0)(hy:0 < y)(hl:dv x y=1)(e:a * y=x * b):tp a b=x∧bt a b=y:=by
  refine coprime_eq (bt_pos h) hy (low h) hl ?_
  have c:=cross (a:=a) h
  have:(tp a b * y) * b=(x * bt a b) * b:=by
    calc (tp a b * y) * b=(tp a b * b) * y:=by rw[Int.mul_assoc,Int.mul_comm y b,← Int.mul_assoc]
      _=(a * bt a b) * y:=by rw[c]
      _=(a * y) * bt a b:=by rw[Int.mul_assoc,Int.mul_comm (bt a b) y,← Int.mul_assoc]
      _=(x * b) * bt a b:=by rw[e]
      _=(x * bt a b) * b:=by rw[Int.mul_assoc,Int.mul_comm b,← Int.mul_assoc]
  exact Int.eq_of_mul_eq_mul_right h this
theorem e0x(a s:Int)(k:Int)(e:s * k=a)(hs:s≠0):k.natAbs≤a.natAbs:=by
  have:a.natAbs=s.natAbs * k.natAbs:=by rw[← e,Int.natAbs_mul]
  rw[this]
  exact Nat.le_mul_of_pos_left _ (by omega)
theorem tp_le{a b:Int}(h:b≠0):(tp a b).natAbs≤a.natAbs:=e0x a _ _ (tp_mul h) (sg_ne h)
theorem bt_le{a b:Int}(h:b≠0):(bt a b).natAbs≤b.natAbs:=e0x b _ _ (bt_mul h) (sg_ne h)
theorem same_cross{a b c d:Int}(hb:b≠0)(hd:d≠0)(e:a * d=c * b):tp a b=tp c d∧bt a b=bt c d:=by
  refine tp_uniq hb (bt_pos hd) (low hd) ?_
  have h:=cross (a:=c) hd
  have:(a * bt c d) * d=(tp c d * b) * d:=by
    calc (a * bt c d) * d=(a * d) * bt c d:=by rw[Int.mul_assoc,Int.mul_comm (bt c d) d,← Int.mul_assoc]
      _=(c * b) * bt c d:=by rw[e]
      _=(c * bt c d) * b:=by rw[Int.mul_assoc,Int.mul_comm b,← Int.mul_assoc]
      _=(tp c d * d) * b:=by rw[h]
      _=(tp c d * b) * d:=by rw[Int.mul_assoc,Int.mul_comm d b,← Int.mul_assoc]
  exact Int.eq_of_mul_eq_mul_right hd this
theorem lo_self{x y:Int}(hy:0 < y)(hl:dv x y=1):tp x y=x∧bt x y=y:=tp_uniq (by omega) hy hl rfl
theorem h0v{a b:Int}(ha:a≠0)(hb:b≠0):a * b≠0:=Int.mul_ne_zero ha hb
theorem distrib{a b c d e f T B P U R V:Int}(hb:b≠0)(hd:d≠0)(hf:f≠0)(hB:B≠0)(hU:U≠0)(hV:V≠0)
    (h1:T * (d * f)=(c * f+e * d) * B) (h2:P * (b * d)=(a * c) * U) (h3:R * (b * f)=(a * e) * V) :
    tp (a * T) (b * B)=tp (P * V+R * U) (U * V)∧bt (a * T) (b * B)=bt (P * V+R * U) (U * V):=by
  refine same_cross (h0v hb hB) (h0v hU hV) ?_
  have k:((a * T) * (U * V)) * ((d * f) * ((b * d) * (b * f)))=((P * V+R * U) * (b * B)) * ((d * f) * ((b * d) * (b * f))):=by
    grind
  exact Int.eq_of_mul_eq_mul_right (h0v (h0v hd hf) (h0v (h0v hb hd) (h0v hb hf))) k
theorem plus_comm{a b c d:Int}:tp (a * d+c * b) (b * d)=tp (c * b+a * d) (d * b)∧bt (a * d+c * b) (b * d)=bt (c * b+a * d) (d * b):=by
  rw[Int.add_comm,Int.mul_comm b d];exact⟨rfl,rfl⟩
theorem times_comm{a b c d:Int}:tp (a * c) (b * d)=tp (c * a) (d * b)∧bt (a * c) (b * d)=bt (c * a) (d * b):=by
  rw[Int.mul_comm a c,Int.mul_comm b d];exact⟨rfl,rfl⟩
theorem plus_zero{a b:Int}(hb:0 < b)(hl:dv a b=1):tp (a * 1+0 * b) (b * 1)=a∧bt (a * 1+0 * b) (b * 1)=b:=by
  have e1:a * 1+0 * b=a:=by omega
  have e2:b * 1=b:=by omega
  rw[e1,e2];exact lo_self hb hl
theorem zero_plus{a b:Int}(hb:0 < b)(hl:dv a b=1):tp (0 * b+a * 1) (1 * b)=a∧bt (0 * b+a * 1) (1 * b)=b:=by
  have e1:0 * b+a * 1=a:=by omega
  have e2:1 * b=b:=by omega
  rw[e1,e2];exact lo_self hb hl
theorem dv01:dv 0 1=1:=by unfold dv;decide
theorem dv11:dv 1 1=1:=by unfold dv;decide
open PySem
theorem abs_start(a b:Int):dv (if a < 0 then -a else a) (if b < 0 then -b else b)=dv a b:=by
  have e:∀x:Int,(if x < 0 then -x else x)=(x.natAbs:Int):=fun x=>by split <;>omega
  rw[e,e,dv_abs]
theorem start1(a b:Int):0≤(if a < 0 then -a else a)∧0≤(if b < 0 then -b else b)∧dv (if a < 0 then -a else a) (if b < 0 then -b else b)=dv a b:=
  ⟨by split <;>omega,by split <;>omega,abs_start a b⟩
theorem out2{a b x y:Int}(h:dv x y=dv a b)(hy:y=0):(if x < 0 then -x else x)=dv a b:=by
  rw[← l_out h hy];split <;>omega
structure S1(x:Int):Prop where
  lo:-10000000000000000000000000000000≤x
  hi:x≤10000000000000000000000000000000
structure S2(x:Int):Prop where
  lo:-1000000000000000000000000000000000000000000000000000000000000000≤x
  hi:x≤1000000000000000000000000000000000000000000000000000000000000000
structure Po(x:Int):Prop where
  lo:0 < x
theorem S1.two{x:Int}(h:S1 x):S2 x:=⟨by have:=h.lo;omega,by have:=h.hi;omega⟩
theorem S1.zero:S1 0:=⟨by decide,by decide⟩
theorem S1.one:S1 1:=⟨by decide,by decide⟩
theorem Po.one:Po 1:=⟨by decide⟩
theorem S2.lt{y:Int}(h:S2 y):y.natAbs < 2 ^ 210:=by
  have:(2:Nat) ^ 210 > 1000000000000000000000000000000000000000000000000000000000000000:=by decide
  have:=h.lo
  have:=h.hi
  omega
theorem j0f{x y:Int}(hx:S1 x)(hy:S1 y):-100000000000000000000000000000000000000000000000000000000000000≤x * y∧x * y≤100000000000000000000000000000000000000000000000000000000000000:=by
  have x0:=hx.lo
  have x1:=hx.hi
  have y0:=hy.lo
  have y1:=hy.hi
  have h:(x * y).natAbs=x.natAbs * y.natAbs:=Int.natAbs_mul x y
  have k:x.natAbs * y.natAbs≤10000000000000000000000000000000 * 10000000000000000000000000000000:=Nat.mul_le_mul (by omega) (by omega)
  omega
theorem S2.mul{x y:Int}(hx:S1 x)(hy:S1 y):S2 (x * y):=⟨by have:=j0f hx hy;omega,by have:=j0f hx hy;omega⟩
theorem S2.sum{x y c d:Int}(hx:S1 x)(hy:S1 y)(hc:S1 c)(hd:S1 d):S2 (x * y+c * d):=⟨by have:=j0f hx hy;have:=j0f hc hd;omega,by have:=j0f hx hy;have:=j0f hc hd;omega⟩
theorem Po.mul{x y:Int}(hx:Po x)(hy:Po y):Po (x * y):=⟨Int.mul_pos hx.lo hy.lo⟩
theorem Po.ne{x:Int}(h:Po x):x≠0:=by have:=h.lo;omega
theorem Po.sg{a b:Int}(h:Po b):dv a b=sg a b:=(sg_pos (by have:=h.lo;omega)).symm
theorem S1.tp{a b:Int}(h:S1 a)(p:Po b):S1 (tp a b):=by
  have l:=tp_le (a:=a) p.ne
  have:=h.lo
  have:=h.hi
  exact⟨by omega,by omega⟩
theorem S2.tp{a b:Int}(h:S2 a)(p:Po b):S2 (tp a b):=by
  have l:=tp_le (a:=a) p.ne
  have:=h.lo
  have:=h.hi
  exact⟨by omega,by omega⟩
theorem S1.bt{a b:Int}(h:S1 b)(p:Po b):S1 (bt a b):=by
  have l:=bt_le (a:=a) p.ne
  have:=h.lo
  have:=h.hi
  exact⟨by omega,by omega⟩
theorem S2.bt{a b:Int}(h:S2 b)(p:Po b):S2 (bt a b):=by
  have l:=bt_le (a:=a) p.ne
  have:=h.lo
  have:=h.hi
  exact⟨by omega,by omega⟩
theorem Po.bt{a b:Int}(p:Po b):Po (bt a b):=⟨bt_pos p.ne⟩
theorem S2.dv{a b:Int}(h:S2 b)(p:Po b):S2 (dv a b):=by
  have:=dv_le a b p.ne
  have:=i0g a b
  have:=h.lo
  have:=h.hi
  exact⟨by omega,by omega⟩
structure Low(a b:Int):Prop where
  one:dv a b=1
theorem lz{a b:Int}(p:Po b)(l:Low a b):tp (a * 1+0 * b) (b * 1)=a∧bt (a * 1+0 * b) (b * 1)=b:=plus_zero p.lo l.one
theorem zl{a b:Int}(p:Po b)(l:Low a b):tp (0 * b+a * 1) (1 * b)=a∧bt (0 * b+a * 1) (1 * b)=b:=zero_plus p.lo l.one
theorem cp{a b c d:Int}(_:Low (tp (c * b+a * d) (d * b)) (bt (c * b+a * d) (d * b))):tp (a * d+c * b) (b * d)=tp (c * b+a * d) (d * b)∧bt (a * d+c * b) (b * d)=bt (c * b+a * d) (d * b):=plus_comm
theorem ct{a b c d:Int}(_:Low (tp (c * a) (d * b)) (bt (c * a) (d * b))):tp (a * c) (b * d)=tp (c * a) (d * b)∧bt (a * c) (b * d)=bt (c * a) (d * b):=times_comm
end Mine
namespace Mine
def Pr(p:Nat):Prop:=2≤p∧∀d,2≤d→d * d≤p→¬p % d=0
theorem Pr.div{p d:Nat}(h:Pr p)(hd:d ∣ p):d=1∨d=p:=by
  obtain⟨k,hk⟩:=hd
  have p2:=h.1
  rcases(by omega:d=0∨d=1∨2≤d)with e | e | e
  · rw[e,Nat.zero_mul]at hk;omega
  · exact .inl e
  · rcases(by omega:k=0∨k=1∨2≤k)with f | f | f
    · rw[f,Nat.mul_zero]at hk;omega
    · rw[f,Nat.mul_one]at hk;exact .inr hk.symm
    · exfalso
      rcases Nat.le_total d k with g | g
      · have:d * d≤p:=by rw[hk];exact Nat.mul_le_mul_left d g
        exact h.2 d e this (by rw[hk];exact Nat.mul_mod_right d k)
      · have:k * k≤p:=by rw[hk];exact Nat.mul_le_mul_right k g
        exact h.2 k f this (by rw[hk];exact Nat.mul_mod_left d k)
theorem Pr.cop{p a:Nat}(h:Pr p)(ha:¬p ∣ a):Nat.Coprime p a:=by
  have d1:=Nat.gcd_dvd_left p a
  have d2:=Nat.gcd_dvd_right p a
  rcases h.div d1 with e | e
  · exact e
  · rw[e]at d2;exact absurd d2 ha
theorem Pr.mul{p a b:Nat}(h:Pr p)(hd:p ∣ a * b):p ∣ a∨p ∣ b:=by
  by_cases c:p ∣ a
  · exact .inl c
  · exact .inr ((h.cop c).dvd_of_dvd_mul_left hd)
theorem small{p a:Nat}(h0:0 < a)(h1:a < p):¬p ∣ a:=fun h=>by
  have:=Nat.le_of_dvd h0 h
  omega
theorem hole:∀(n:Nat) (l:List Nat),l.Nodup→(∀a∈l,a < n)→l.length≤n
  | 0,l,_,h=>by
    cases l with
    | nil=>exact Nat.le_refl 0
    | cons a r=>exact absurd (h a (List.mem_cons_self ..)) (by omega)
  | n+1,l,nd,h=>by
    by_cases c:n∈l
    · have e:=List.length_erase_of_mem c
      have:=hole n (l.erase n) (nd.erase n) (fun a ha=>by
        have m:=(List.Nodup.mem_erase_iff nd).mp ha
        have:=h a m.2
        have:=m.1
        omega)
      omega
    · have:=hole n l nd (fun a ha=>by
        have:=h a ha
        have:a≠n:=fun e=>c (e▸ha)
        omega)
      omega
theorem fe{a p:Int}(hp:0 < p):a.fmod p=a % p:=Int.fmod_eq_emod_of_nonneg a (Int.le_of_lt hp)
theorem r_in{a p:Int}(hp:0 < p):0≤a.fmod p∧a.fmod p < p:=⟨Int.fmod_nonneg_of_pos a hp,Int.fmod_lt_of_pos a hp⟩
def ri(p x:Int):Int:=(x ^ (p.toNat - 2)) % p
def PI(n:Int):Prop:=2≤n∧∀d:Int,2≤d→d * d≤n→¬n.fmod d=0
noncomputable def isP(n:Int):Bool:=@decide (PI n) (Classical.propDecidable _)
theorem isP_true{n:Int}(h:isP n=true):PI n:=@of_decide_eq_true _ (Classical.propDecidable _) h
theorem isP_of{n:Int}(h:PI n):isP n=true:=@decide_eq_true _ (Classical.propDecidable _) h
theorem sq_lt{d f n:Int}(hd:2≤d)(hf:2≤f)(h:d * d≤n)(g:¬f * f≤n):d < f:=by
  rcases Int.lt_or_le d f with e | e
  · exact e
  · have:f * f≤d * d:=Int.mul_le_mul e e (by omega) (by omega)
    omega
theorem sq_le{f n:Int}(hf:2≤f)(h:f * f≤n):f+1≤n:=by
  have:2 * f≤f * f:=Int.mul_le_mul_of_nonneg_right hf (by omega)
  omega
theorem e0i(n k:Nat)(h2:2≤n)(hk:n < k * k)(h:(List.range k).all (fun d=>d < 2 || n % d != 0)=true):isP (n:Int)=true:=by
  refine isP_of ⟨by omega,fun d hd hdd e=>?_⟩
  have hk2:¬(k:Int) * (k:Int)≤(n:Int):=by
    have:((n:Nat):Int) < ((k * k:Nat):Int):=by omega
    rw[Int.natCast_mul]at this;omega
  have kk:2≤(k:Int):=by
    rcases(by omega:k=0∨k=1∨2≤k)with c | c | c
    · subst c;omega
    · subst c;omega
    · omega
  have lt:=sq_lt hd kk hdd hk2
  have dn:(d.toNat:Int)=d:=Int.toNat_of_nonneg (by omega)
  have:=List.all_eq_true.mp h d.toNat (List.mem_range.mpr (by omega))
  rw[← dn,fe (by omega),← Int.natCast_emod]at e
  have e':n % d.toNat=0:=by omega
  simp[e']at this
  omega
theorem p999983:isP 999983=true:=e0i 999983 1000 (by decide) (by decide) (by decide +kernel)
theorem p65537:isP 65537=true:=e0i 65537 257 (by decide) (by decide) (by decide +kernel)
theorem p2:isP 2=true:=e0i 2 2 (by decide) (by decide) (by decide +kernel)
theorem p3:isP 3=true:=e0i 3 2 (by decide) (by decide) (by decide +kernel)
theorem p5:isP 5=true:=e0i 5 3 (by decide) (by decide) (by decide +kernel)
theorem p7:isP 7=true:=e0i 7 3 (by decide) (by decide) (by decide +kernel)
theorem p11:isP 11=true:=e0i 11 4 (by decide) (by decide) (by decide +kernel)
theorem p101:isP 101=true:=e0i 101 11 (by decide) (by decide) (by decide +kernel)
end Mine
namespace Mine
open PySem PySem.SeqAt
set_option genInjectivity false in
set_option genSizeOfSpec false in
structure SR where
  W:Type
  add:W→W→W
  mul:W→W→W
  zero:W
  one:W
  add_comm:∀x y,add x y=add y x
  add_assoc:∀x y z,add (add x y) z=add x (add y z)
  mul_comm:∀x y,mul x y=mul y x
  mul_assoc:∀x y z,mul (mul x y) z=mul x (mul y z)
  distrib:∀x y z,mul x (add y z)=add (mul x y) (mul x z)
  add_zero:∀x,add x zero=x
  mul_one:∀x,mul x one=x
  mul_zero:∀x,mul x zero=zero
  zo:zero≠one
  sz:Nat→W→Prop
  sz_mono:∀m n x,m≤n→sz m x→sz n x
  sz_add:∀m n x y,sz m x→sz n y→sz (m+n+1) (add x y)
  sz_mul:∀m n x y,sz m x→sz n y→sz (m+n) (mul x y)
  sz_zero:sz 0 zero
  sz_one:sz 0 one
  lv:Nat→Nat→W→Prop
  lv_mono:∀k c c' x,c≤c'→lv k c x→lv k c' x
  lv_add:∀k c c' x y,lv k c x→lv k c' y→lv k (c+c') (add x y)
  lv_mul:∀j k x y,lv j 32 x→lv k 32 y→lv (j+k) 1 (mul x y)
  lv_zero:∀k,lv k 0 zero
  lv_one:lv 1 1 one
  lv_up:∀k c x,lv k c x→lv (k+1) c x
  lv_sz:∀k c x,c≤1024→lv k c x→sz (100 * k) x
  data:W→PyData
  sh:∀x,shaped (data x)=true
  nm:∀x y,noMix (data x) (data y)=true
  eq:∀x,PySem.Spec.same (data x) (data x)=true
  ne:∀x y,x≠y→PySem.Spec.same (data x) (data y)=false
structure Fr where
  t:Int
  b:Int
  p:0 < b
  l:dv t b=1
theorem Fr.nb(x:Fr):x.b≠0:=by have:=x.p;omega
def Fr.of(a b:Int)(h:0 < b):Fr:=⟨tp a b,bt a b,bt_pos (by omega),low (by omega)⟩
theorem Fr.of_cross(a b:Int)(h:0 < b):(Fr.of a b h).t * b=a * (Fr.of a b h).b:=cross (by omega)
def Fr.add(x y:Fr):Fr:=Fr.of (x.t * y.b+y.t * x.b) (x.b * y.b) (Int.mul_pos x.p y.p)
def Fr.mul(x y:Fr):Fr:=Fr.of (x.t * y.t) (x.b * y.b) (Int.mul_pos x.p y.p)
def Fr.zero:Fr:=⟨0,1,by decide,dv01⟩
def Fr.one:Fr:=⟨1,1,by decide,dv11⟩
def Fr.sz(n:Nat)(x:Fr):Prop:=x.t.natAbs≤2 ^ n∧x.b.natAbs≤2 ^ n
def Fr.lv(k c:Nat)(x:Fr):Prop:=∃a:Int,x.t * 12 ^ k=a * x.b∧1024 * a.natAbs≤c * 2 ^ (100 * k)
theorem Fr.lv_add{k c c':Nat}{x y:Fr}(h:x.lv k c)(h':y.lv k c'):(Fr.add x y).lv k (c+c'):=by
  obtain⟨a,e,b⟩:=h
  obtain⟨a',e',b'⟩:=h'
  refine⟨a+a',?_,?_⟩
  · have hc:=Fr.of_cross (x.t * y.b+y.t * x.b) (x.b * y.b) (Int.mul_pos x.p y.p)
    have hn:x.b * y.b≠0:=Int.mul_ne_zero x.nb y.nb
    refine Int.eq_of_mul_eq_mul_right hn ?_
    show(Fr.add x y).t * 12 ^ k * (x.b * y.b)=(a+a') * (Fr.add x y).b * (x.b * y.b)
    have hc:(Fr.add x y).t * (x.b * y.b)=(x.t * y.b+y.t * x.b) * (Fr.add x y).b:=hc
    have e1:(Fr.add x y).t * 12 ^ k * (x.b * y.b)=((Fr.add x y).t * (x.b * y.b)) * 12 ^ k:=by rw[Int.mul_right_comm]
    rw[e1,hc]
    have e2:(x.t * y.b+y.t * x.b) * (Fr.add x y).b * 12 ^ k=((x.t * 12 ^ k) * y.b+(y.t * 12 ^ k) * x.b) * (Fr.add x y).b:=by
      rw[Int.mul_right_comm,Int.add_mul,Int.mul_right_comm x.t,Int.mul_right_comm y.t]
    rw[e2,e,e']
    have e3:a * x.b * y.b+a' * y.b * x.b=(a+a') * (x.b * y.b):=by
      rw[Int.add_mul,Int.mul_assoc,Int.mul_assoc a',Int.mul_comm y.b x.b]
    rw[e3,Int.mul_right_comm]
  · have:=Int.natAbs_add_le a a'
    rw[Nat.add_mul]
    omega
theorem Fr.lv_mul{j k:Nat}{x y:Fr}(h:x.lv j 32)(h':y.lv k 32):(Fr.mul x y).lv (j+k) 1:=by
  obtain⟨a,e,b⟩:=h
  obtain⟨a',e',b'⟩:=h'
  refine⟨a * a',?_,?_⟩
  · have hc:(Fr.mul x y).t * (x.b * y.b)=(x.t * y.t) * (Fr.mul x y).b:=Fr.of_cross (x.t * y.t) (x.b * y.b) (Int.mul_pos x.p y.p)
    have hn:x.b * y.b≠0:=Int.mul_ne_zero x.nb y.nb
    refine Int.eq_of_mul_eq_mul_right hn ?_
    rw[Int.mul_right_comm,hc,Int.pow_add]
    have e2:x.t * y.t * (Fr.mul x y).b * (12 ^ j * 12 ^ k)=(x.t * 12 ^ j) * (y.t * 12 ^ k) * (Fr.mul x y).b:=by
      rw[Int.mul_right_comm]
      congr 1
      rw[Int.mul_assoc,Int.mul_assoc,Int.mul_left_comm y.t]
    rw[e2,e,e']
    have e3:a * x.b * (a' * y.b)=a * a' * (x.b * y.b):=by
      rw[Int.mul_assoc,Int.mul_assoc,Int.mul_left_comm x.b]
    rw[e3,Int.mul_right_comm]
  · rw[Int.natAbs_mul,Nat.mul_add,Nat.pow_add]
    have h1:=Nat.mul_le_mul b b'
    have e1:1024 * a.natAbs * (1024 * a'.natAbs)=1024 * (1024 * (a.natAbs * a'.natAbs)):=by
      rw[Nat.mul_assoc,Nat.mul_left_comm a.natAbs]
    have e2:32 * 2 ^ (100 * j) * (32 * 2 ^ (100 * k))=1024 * (2 ^ (100 * j) * 2 ^ (100 * k)):=by
      rw[Nat.mul_assoc,Nat.mul_left_comm (2 ^ (100 * j)),← Nat.mul_assoc]
    rw[e1,e2]at h1
    have:=Nat.le_of_mul_le_mul_left h1 (by decide)
    omega
theorem Fr.lv_up{k c:Nat}{x:Fr}(h:x.lv k c):x.lv (k+1) c:=by
  obtain⟨a,e,b⟩:=h
  refine⟨a * 12,?_,?_⟩
  · rw[Int.pow_succ,← Int.mul_assoc,e,Int.mul_right_comm]
  · rw[Int.natAbs_mul,show 100 * (k+1)=100 * k+100 from by omega,Nat.pow_add]
    have h1:(1024 * a.natAbs) * 12≤(c * 2 ^ (100 * k)) * 2 ^ 100:=Nat.mul_le_mul b (by decide)
    have e1:1024 * (a.natAbs * (12:Int).natAbs)=(1024 * a.natAbs) * 12:=by rw[Nat.mul_assoc];rfl
    rw[e1,← Nat.mul_assoc]
    exact h1
theorem Fr.lv_sz{k c:Nat}{x:Fr}(hc:c≤1024)(h:x.lv k c):x.sz (100 * k):=by
  obtain⟨a,e,b⟩:=h
  have cop:Nat.Coprime x.t.natAbs x.b.natAbs:=by
    have l:=x.l
    unfold dv at l
    have:Int.gcd x.t x.b=1:=by omega
    exact this
  have e':x.t.natAbs * 12 ^ k=a.natAbs * x.b.natAbs:=by
    have:=congrArg Int.natAbs e
    rw[Int.natAbs_mul,Int.natAbs_mul,Int.natAbs_pow]at this
    exact this
  have hb:a.natAbs≤2 ^ (100 * k):=by
    have h1:1024 * a.natAbs≤1024 * 2 ^ (100 * k):=Nat.le_trans b (Nat.mul_le_mul_right _ hc)
    exact Nat.le_of_mul_le_mul_left h1 (by decide)
  have p12:(12:Nat) ^ k≤2 ^ (100 * k):=by
    rw[Nat.pow_mul]
    exact Nat.pow_le_pow_left (by decide) k
  constructor
  · have d:x.t.natAbs ∣ a.natAbs:=cop.dvd_of_dvd_mul_right ⟨12 ^ k,e'.symm⟩
    by_cases z:a.natAbs=0
    · have:x.t.natAbs * 12 ^ k=0:=by rw[e',z,Nat.zero_mul]
      have:x.t.natAbs=0:=by
        rcases Nat.mul_eq_zero.mp this with h | h
        · exact h
        · exact absurd h (Nat.ne_of_gt (Nat.pow_pos (by decide)))
      omega
    · exact Nat.le_trans (Nat.le_of_dvd (by omega) d) hb
  · have d:x.b.natAbs ∣ 12 ^ k:=cop.symm.dvd_of_dvd_mul_left ⟨a.natAbs,by rw[e',Nat.mul_comm]⟩
    exact Nat.le_trans (Nat.le_of_dvd (Nat.pow_pos (by decide)) d) p12
structure Re(p:Int)where
  x:Int
  h0:0≤x
  h1:x < p
def Re.of(p:Int)(hp:0 < p)(x:Int):Re p:=⟨x.fmod p,(r_in hp).1,(r_in hp).2⟩
theorem sz_log{x:Int}{n:Nat}(h:x.natAbs≤2 ^ n)(hn:n≤8900):x.natAbs.log2 < 9000:=by
  by_cases e:x.natAbs=0
  · rw[e];decide
  · rw[Nat.log2_lt e]
    exact Nat.lt_of_le_of_lt h (Nat.pow_lt_pow_right (by decide) (by omega))
end Mine
namespace L2
open PySem Mine
def KAt(C:Addr)(fs:List (Str × V))(H:Hp)(k:V):Prop:=∃p dx,k=.ref p∧H p=some (.ins C dx fs)
theorem KAt.same{C:Addr}{fs:List (Str × V)}{H H':Hp}{k:V}(e:Same H H')(h:KAt C fs H k):KAt C fs H' k:=by
  obtain⟨p,dx,rfl,h⟩:=h
  exact⟨p,dx,rfl,e _ _ h⟩
def spBin(C:Addr)(fs:List (Str × V))(S:SR)(is:Hp→V→S.W→Prop)(f:S.W→S.W→S.W):Sp:=fun vs H Q _=>∃k x y a b m n,vs=[k,x,y]∧
  (KAt C fs H k∧is H x a∧is H y b∧S.sz m a∧S.sz n b∧m+n≤8000)∧∀v H',Same H H'→is H' v (f a b)→Q v H'
def spNul(C:Addr)(fs:List (Str × V))(S:SR)(is:Hp→V→S.W→Prop)(z:S.W):Sp:=fun vs H Q _=>∃k,vs=[k]∧KAt C fs H k∧∀v H',Same H H'→is H' v z→Q v H'
def spIsW(C:Addr)(fs:List (Str × V))(S:SR)(is:Hp→V→S.W→Prop):Sp:=fun vs H Q _=>∃k x a,vs=[k,x]∧(KAt C fs H k∧is H x a)∧Q (.bl true) H
set_option genInjectivity false in
set_option genSizeOfSpec false in
structure KindR(P:Program)(w:World)(K:PySem.W.Frag)(mg:Str→Option Value)(base:Heap)where
  S:SR
  C:Addr
  fs:List (Str × V)
  cl:Cls K C
  is:Hp→V→S.W→Prop
  same:∀{H H':Hp} {v:V} {x:S.W},Same H H'→is H v x→is H' v x
  isd:∀{H:Hp} {v:V} {x:S.W},is H v x→Is K H v (S.data x)
  f_plus:Addr
  d_plus:FuncData
  t_plus:Meth K C "plus" f_plus
  b_plus:Binds K d_plus ["self","x","y"] []
  l_plus:fs.lookup ("plus":Str)=none
  G_plus:FnOk P w K mg base CX0 4 f_plus d_plus ["self","x","y"] (spBin C fs S is S.add)
  f_times:Addr
  d_times:FuncData
  t_times:Meth K C "times" f_times
  b_times:Binds K d_times ["self","x","y"] []
  l_times:fs.lookup ("times":Str)=none
  G_times:FnOk P w K mg base CX0 4 f_times d_times ["self","x","y"] (spBin C fs S is S.mul)
  f_nought:Addr
  d_nought:FuncData
  t_nought:Meth K C "nought" f_nought
  b_nought:Binds K d_nought ["self"] []
  l_nought:fs.lookup ("nought":Str)=none
  G_nought:FnOk P w K mg base CX0 4 f_nought d_nought ["self"] (spNul C fs S is S.zero)
  f_one:Addr
  d_one:FuncData
  t_one:Meth K C "one" f_one
  b_one:Binds K d_one ["self"] []
  l_one:fs.lookup ("one":Str)=none
  G_one:FnOk P w K mg base CX0 4 f_one d_one ["self"] (spNul C fs S is S.one)
  f_is_weight:Addr
  d_is_weight:FuncData
  t_is_weight:Meth K C "is_weight" f_is_weight
  b_is_weight:Binds K d_is_weight ["self","thing"] []
  l_is_weight:fs.lookup ("is_weight":Str)=none
  G_is_weight:FnOk P w K mg base CX0 4 f_is_weight d_is_weight ["self","thing"] (spIsW C fs S is)
section
variable{P:Program}{w:World}{K:PySem.W.Frag}{mg:Str→Option Value}{base:Heap}
theorem KindR.neT(R:KindR P w K mg base){H:Hp}{x y:V}{a b:R.S.W}{Q:VK}(hx:R.is H x a)(hy:R.is H y b)(e:a≠b)(q:Q (.bl true) H):rNeD K x y H Q:=
  ⟨_,_,R.isd hx,R.isd hy,R.S.sh _,R.S.sh _,R.S.nm _ _,by rw[R.S.ne _ _ e];exact q⟩
end
def IsF(H:Hp)(v:V)(a b:Int):Prop:=∃p,v=.ref p∧H p=some (.tup [.int a,.int b])
theorem IsF.same{H H':Hp}{v:V}{a b:Int}(e:Same H H')(h:IsF H v a b):IsF H' v a b:=by
  obtain⟨p,rfl,h⟩:=h
  exact⟨p,rfl,e _ _ h⟩
theorem IsF.is{K:PySem.W.Frag}{H:Hp}{v:V}{a b:Int}(h:IsF H v a b):Is K H v (.tuple [.int a,.int b]):=by
  obtain⟨p,rfl,h⟩:=h
  exact .tup (SqT.of h) (.cons (.int _) (.cons (.int _) .nil))
theorem IsF.new{H:Hp}{p:Addr}{a b:Int}:IsF (upd H p (.tup [.int a,.int b])) (.ref p) a b:=⟨p,rfl,a0b⟩
def pfs(p:Int):List (Str × V):=putF "prime" (.int p) []
theorem pfs_prime(p:Int):(pfs p).lookup ("prime":Str)=some (.int p):=by
  unfold pfs
  rw[f0j,if_pos rfl]
theorem f0m{H:Hp}{C x dx:Addr}{fs:List (Str × V)}(n:H x=none)(m:H dx=none):Same H (upd (upd H dx (.own x)) x (.ins C dx fs)):=fun b o e=>by
  rw[a0v (a0s e n),a0v (a0s e m)];exact e
theorem d0t(xs:List V)(k:Nat):cutV xs none (some (k:Int))=xs.take k:=by
  unfold cutV
  rw[HT.h0d,HT.g0j,List.drop_zero,Nat.sub_zero]
  by_cases h:k≤xs.length
  · rw[Nat.min_eq_left h]
  · rw[Nat.min_eq_right (by omega),List.take_length,List.take_of_length_le (by omega)]
end L2
namespace L2
open PySem PySem.Spec PyProof.Rows
section
variable{X:Cx}{v v₁ v₂:Expr}{vs:List Expr}{te:TE}{pos:Pos}
end
end L2
namespace L2
open PySem PySem.Spec PyProof.Rows
def i0j(cells:List (Str × Addr)):List (Str × NameKind)→List (Str × Addr)→List (Str × Addr)
  | [],cs=>cs
  | (n,k)::r,cs=>i0j cells r (if(k == .free)=true then(n,(cells.lookup n).getD 0)::cs else cs)
theorem clo_for{env:Env}:∀(names:List (Str × NameKind)) (cs:List (Str × Addr)),(∀n,(n,NameKind.free)∈names→∃c,env.cells.lookup n=some c)→
    (forIn names cs fun(x:Str × NameKind) (r:List (Str × Addr))=>(match x with | (name,kind)=>if(kind == NameKind.free)=true then(do let c ← cellOf env name;pure (ForInStep.yield ((name,c)::r)))else pure (ForInStep.yield r):Sem (ForInStep (List (Str × Addr)))))=pure (i0j env.cells names cs)
  | [],cs,_=>rfl
  | (n,k)::r,cs,h=>by
    rw[List.forIn_cons]
    by_cases hk:k=.free
    · subst hk
      obtain⟨c,hc⟩:=h n List.mem_cons_self
      have ih:=clo_for (env:=env) r ((n,c)::cs) fun m hm=>h m (List.mem_cons_of_mem _ hm)
      have e1:cellOf env n=pure c:=by unfold cellOf;rw[hc]
      simp only[beq_self_eq_true,if_true,e1,pure_bind]
      rw[ih]
      conv=>rhs;unfold i0j
      simp only[beq_self_eq_true,if_true,hc,Option.getD_some]
    · have hb:(k == NameKind.free)=false:=by simpa using hk
      have ih:=clo_for (env:=env) r cs fun m hm=>h m (List.mem_cons_of_mem _ hm)
      simp only[hb,Bool.false_eq_true,if_false,pure_bind]
      rw[ih]
      conv=>rhs;unfold i0j
      simp only[hb,Bool.false_eq_true,if_false]
theorem i0i{env:Env}{scope:Scope}(h:∀n,(n,NameKind.free)∈scope.names→∃c,env.cells.lookup n=some c):closureFor scope env=pure (i0j env.cells scope.names []):=by
  have e:=clo_for (env:=env) scope.names [] h
  unfold closureFor
  simp only[bind_pure]
  exact e
theorem clo_in{cells:List (Str × Addr)}:∀{names:List (Str × NameKind)} {cs:List (Str × Addr)},(∀n,(n,NameKind.free)∈names→∃c,cells.lookup n=some c)→∀{y c},(i0j cells names cs).lookup y=some c→cs.lookup y=some c∨cells.lookup y=some c
  | [],cs,_,y,c,e=>.inl e
  | (n,k)::r,cs,h,y,c,e=>by
    unfold i0j at e
    have h':∀m,(m,NameKind.free)∈r→∃c,cells.lookup m=some c:=fun m hm=>h m (List.mem_cons_of_mem _ hm)
    rcases clo_in h' e with z | z
    · by_cases hk:k=.free
      · subst hk
        obtain⟨d,hd⟩:=h n List.mem_cons_self
        simp only[beq_self_eq_true,if_true,hd,Option.getD_some]at z
        rw[List.lookup_cons]at z
        cases hy:(y == n)with
        | true=>
          rw[hy]at z
          have:y=n:=beq_iff_eq.mp hy
          subst this
          exact .inr (hd.trans z)
        | false=>rw[hy]at z;exact .inl z
      · have hb:(k == NameKind.free)=false:=by simpa using hk
        simp only[hb,Bool.false_eq_true,if_false]at z
        exact .inl z
    · exact .inr z
theorem clo_has{cells:List (Str × Addr)}:∀{names:List (Str × NameKind)} {cs:List (Str × Addr)} {y:Str},((∃c,cs.lookup y=some c)∨(y,NameKind.free)∈names)→∃c,(i0j cells names cs).lookup y=some c
  | [],cs,y,h=>by
    rcases h with h | h
    · exact h
    · cases h
  | (n,k)::r,cs,y,h=>by
    unfold i0j
    refine clo_has ?_
    rcases h with ⟨c,h⟩ | h
    · left
      split
      · rw[List.lookup_cons]
        cases hy:(y == n)with
        | true=>exact⟨_,rfl⟩
        | false=>exact⟨c,h⟩
      · exact⟨c,h⟩
    · rcases List.mem_cons.mp h with e | h
      · cases e
        left
        simp only[beq_self_eq_true,if_true]
        rw[List.lookup_cons,beq_self_eq_true]
        exact⟨_,rfl⟩
      · exact .inr h
theorem compLoop_any{prog:Program}{w:World}{A:Around}{R:Result→Shared→Prop}{s:Shared}{elt target iter:Expr}{scope:Scope}{pos:Pos}{it acc:Value}{env:Env}(I:Nat→Shared→Prop)
    (turn:∀n s,I n s→wpAny (model prog w) A (pyNext it) (fun r s₁=>match r with
      | none=>R (.ok .next) s₁
      | some v=>wpAny (model prog w) A (letOwnedTupleGo target it v) (fun _ s₁'=>wpAny (model prog w) A (assign target env v) (fun _ s₂=>wpAny (model prog w) A (eval elt env) (fun x s₃=>
          wpAny (model prog w) A (call (.builtin "list.append") [acc,x]) (fun _ s₄=>∃m,m < n∧I m s₄) (fun _ _=>False) s₃) (fun _ _=>False) s₂) (fun _ _=>False) s₁') (fun _ _=>False) s₁) (fun _ _=>False) s)
    (n:Nat) (h:I n s) :
    codeAny (model prog w) A (.compLoop (.ListComp elt [⟨target,iter,[],0⟩] scope pos) 0 it acc env) R s:=by
  refine codeAny_loop rfl I (fun n s hI=>?_) n h
  show wpAny _ _ ((compTurn (.ListComp elt [⟨target,iter,[],0⟩] scope pos) 0 it acc env).onRaise (fun x=>do noteFrame x env;theTreesLotGoes x)) _ _ s
  refine wpAny_noted ?_
  rw[compTurn_list1]
  refine wpAny_bind (wpAny_standAt (wpAny_bind (wpAny_mono (turn n s hI) (fun r s₁ h₁=>?_) fun _ _ h'=>h'.elim)))
  cases r with
  | none=>exact wpAny_pure h₁
  | some v=>
    exact wpAny_bind (wpAny_mono h₁ (fun _ s1' h1'=>wpAny_bind (wpAny_mono h1' (fun _ s₂ h₂=>wpAny_bind (wpAny_bind (wpAny_mono h₂ (fun x s₃ h₃=>wpAny_bind (wpAny_mono h₃
      (fun _ s₄ h₄=>wpAny_pure (wpAny_pure ⟨rfl,h₄⟩)) fun _ _ h'=>h'.elim)) fun _ _ h'=>h'.elim))) fun _ _ h'=>h'.elim)) fun _ _ h'=>h'.elim)
theorem HOk.track{P:Program}{w:World}{H:Hp}{h:Heap}{a:Addr}{o:HO}(x:HOk P w H h)(n:H a=none)(new:ObjOk P w (upd H a o) h a o):HOk P w (upd H a o) h:=fun b u e=>by
  by_cases hb:b=a
  · subst hb;rw[a0b]at e;cases e;exact new
  · rw[a0v hb]at e
    exact(x b u e).stay (fun _ _ _ q=>q) (fun c q=>by rw[a0v (a0s q n)];exact q) fun c xs q=>by rw[a0v (a0s q n)];exact q
theorem Un.track{fs ex:List Addr}{H H':Hp}{h h':Heap}{a:Addr}{o:HO}(u:Un fs ex H H' h h')(hp:h.objs.size≤a)(n:H' a=none):Un fs ex H (upd H' a o) h h' where
  keep:=u.keep
  slot:=u.slot
  free:=fun b ob q m hx=>by rw[a0v (Nat.ne_of_lt (Nat.lt_of_lt_of_le (Heap.lt_size q) hp))];exact u.free b ob q m hx
  there:=u.there
  tups:=fun b xs q=>by have z:=u.tups b xs q;rw[a0v (a0s z n)];exact z
  frzs:=fun b ob xs q=>by have z:=u.frzs b ob xs q;rw[a0v (a0s z n)];exact z
  tbls:=fun b ps q=>by obtain⟨m,z⟩:=u.tbls b ps q;exact⟨m,by rw[a0v (a0s z n)];exact z⟩
theorem b0o:∀(names:List (Str × NameKind)) (n:Nat) (acc:List (Str × Addr)),cellsFrom n names acc=cellsFrom n names []++acc
  | [],_,_=>rfl
  | (x,k)::r,n,acc=>by
    unfold cellsFrom
    split
    · rw[b0o r (n+1) ((x,n)::acc),b0o r (n+1) [(x,n)],List.append_assoc];rfl
    · exact b0o r n acc
theorem l0c:∀(names:List (Str × NameKind)) (n:Nat) (y:Str) (c:Addr),(y,c)∈cellsFrom n names []→(y,NameKind.cell)∈names
  | [],_,_,_,h=>by cases h
  | (x,k)::r,n,y,c,h=>by
    unfold cellsFrom at h
    split at h
    · rename_i hk
      rw[b0o]at h
      rcases List.mem_append.mp h with h | h
      · exact List.mem_cons_of_mem _ (l0c r (n+1) y c h)
      · have e:=List.mem_singleton.mp h
        cases e
        rw[show k=NameKind.cell by simpa using hk]
        exact List.mem_cons_self
    · exact List.mem_cons_of_mem _ (l0c r n y c h)
theorem f0y:∀(names:List (Str × NameKind)) (n:Nat) (y:Str),(y,NameKind.cell)∈names→∃c,(y,c)∈cellsFrom n names []
  | [],_,_,h=>by cases h
  | (x,k)::r,n,y,h=>by
    unfold cellsFrom
    rcases List.mem_cons.mp h with e | h
    · cases e
      rw[if_pos (show(NameKind.cell == NameKind.cell)=true by decide),b0o]
      exact⟨n,List.mem_append_right _ List.mem_cons_self⟩
    · split
      · rw[b0o]
        obtain⟨c,hc⟩:=f0y r (n+1) y h
        exact⟨c,List.mem_append_left _ hc⟩
      · exact f0y r n y h
theorem d0j{α:Type}:∀(l r:List (Str × α)) (y:Str),(l++r).lookup y=match l.lookup y with | some c=>some c | none=>r.lookup y
  | [],_,_=>rfl
  | (x,c)::l,r,y=>by
    rw[List.cons_append,List.lookup_cons,List.lookup_cons]
    cases (y == x)with
    | true=>rfl
    | false=>exact d0j l r y
theorem g0o{α:Type}:∀{l:List (Str × α)} {y:Str} {c:α},(y,c)∈l→∃c',l.lookup y=some c'
  | (x,d)::l,y,c,h=>by
    rw[List.lookup_cons]
    cases hb:(y == x)with
    | true=>exact⟨d,rfl⟩
    | false=>
      rcases List.mem_cons.mp h with e | h
      · cases e;rw[beq_self_eq_true]at hb;cases hb
      · exact g0o h
abbrev cbOf(env:Env)(scope:Scope)(C:Addr):List (Str × Addr):=cellsFrom (C+1) scope.names (i0j env.cells scope.names [])
theorem cb_lookup{env:Env}{scope:Scope}{C:Addr}{y:Str}{c:Addr}(h:(cbOf env scope C).lookup y=some c):(y,c)∈cellsFrom (C+1) scope.names []∨(i0j env.cells scope.names []).lookup y=some c:=by
  rw[show cbOf env scope C=_ from b0o _ _ _,d0j]at h
  split at h
  · rename_i e;cases h;exact .inl (PySem.mem_of_lookup e)
  · exact .inr h
theorem cb_own{env:Env}{scope:Scope}{C:Addr}{y:Str}{c:Addr}(k:scope.names.lookup y=some .cell)(h:(cbOf env scope C).lookup y=some c):(y,c)∈cellsFrom (C+1) scope.names []:=by
  rw[show cbOf env scope C=_ from b0o _ _ _,d0j]at h
  obtain⟨d,hd⟩:=f0y scope.names (C+1) y (PySem.mem_of_lookup k)
  obtain⟨d',hd'⟩:=g0o hd
  rw[hd']at h
  cases h
  exact PySem.mem_of_lookup hd'
theorem b0n:∀(names:List (Str × NameKind)) (n:Nat) (y:Str) (c:Addr),(y,c)∈cellsFrom n names []→n≤c
  | [],_,_,_,h=>by cases h
  | (x,k)::r,n,y,c,h=>by
    unfold cellsFrom at h
    split at h
    · rw[b0o]at h
      rcases List.mem_append.mp h with h | h
      · have:=b0n r (n+1) y c h;omega
      · cases List.mem_singleton.mp h;exact Nat.le_refl _
    · exact b0n r n y c h
theorem i0k:∀(names:List (Str × NameKind)) (n:Nat) (x y:Str) (c:Addr),(x,c)∈cellsFrom n names []→(y,c)∈cellsFrom n names []→x=y
  | [],_,_,_,_,h,_=>by cases h
  | (z,k)::r,n,x,y,c,h,g=>by
    unfold cellsFrom at h g
    split at h
    · rename_i hk
      rw[if_pos hk]at g
      rw[b0o]at h g
      rcases List.mem_append.mp h with h | h <;>rcases List.mem_append.mp g with g | g
      · exact i0k r (n+1) x y c h g
      · cases List.mem_singleton.mp g
        have:=b0n r (n+1) x _ h;omega
      · cases List.mem_singleton.mp h
        have:=b0n r (n+1) y _ g;omega
      · cases List.mem_singleton.mp h;cases List.mem_singleton.mp g;rfl
    · rename_i hk
      rw[if_neg hk]at g
      exact i0k r n x y c h g
theorem h0u{M:Model}{A:Around}{E:Value→Shared→Prop}{s:Shared}{scope:Scope}{globals:Addr}{closure:List (Str × Addr)}{qual:Str}{env:Env}{Q:Env→Shared→Prop}
    (hQ:∀h':Heap,h'.Ns s.heap.objs.size (fun _=>none)→(∀b o,s.heap.get? b=some o→h'.get? b=some o)→CellsOk h' (s.heap.objs.size+1) (cellsFrom (s.heap.objs.size+1) scope.names [])→
      Q (newEnv scope s.heap.objs.size globals (cellsFrom (s.heap.objs.size+1) scope.names closure) qual none .none (some env) builtinsNs) { s with heap:=h',toks:=s.toks+([]:List (Str × Value)).length }) :
    wpAny M A (newFunctionEnv scope globals closure [] qual none .none (some env)) Q E s:=by
  simp only[newFunctionEnv,Option.isSome_some,if_true]
  refine wpAny_bind (wpAny_alloc ?_)
  refine wpAny_bind (wpAny_layCells _ (fun name kind cells=>by cases hkc:kind == NameKind.cell <;>simp[hkc]) _ _ _ _ ?_)
  have ok:=cellsFrom_ok scope.names (s.heap.push { cls:=.type "dict",data:=.dict #[] }) (s.heap.objs.size+1) [] ⟨fun _ _ hm=>(nomatch hm),List.Pairwise.nil⟩ (by rw[Heap.size_push];exact Nat.le_refl _)
  rw[Heap.size_push]at ok
  rw[show({ s with heap:=s.heap.push { cls:=.type "dict",data:=.dict #[] } }:Shared).heap.objs.size=s.heap.objs.size+1 from Heap.size_push ..]
  rw[List.forIn_nil]
  refine wpAny_bind (wpAny_pure (wpAny_pure ?_))
  exact hQ _ ((Heap.Ns.new s.heap (.type "dict")).keeps (pushCells_keeps _ _)) (fun b o e=>pushCells_keeps _ _ b o (Heap.get?_push_of_some _ e)) ok
def c0f(X:Cx)(scope:Scope)(xs:List Str)(C:Addr)(s:Shared)(H:Hp)(fp:List Addr)(pn:List (Addr × Obj)):Cx:=
  { X with env:=compEnvC scope (cbOf X.env scope C) C X.env,N:=X.N++xs,s₀:=s,H₀:=H,outer:=X.stack,ex:=fp,fn:=fun y=>scope.names.lookup y == some .cell,pn:=pn,xe:=fun _ _=>False }
structure d0v(N:List Str)(S T:Scope):Prop where
  kind:T.kind=.function
  cell:∀y∈N,T.names.lookup y≠some .cell
  names:∀y∈T.names,y.2=.local→T.names.lookup y.1=some .local
  uniq:∀y∈T.names,T.names.lookup y.1=some y.2
  free:∀y∈T.names,y.2=.free→S.names.lookup y.1=some .cell∨S.names.lookup y.1=some .free
  vis:∀y∈N,T.names.lookup y≠some .local
def rl(env:Env)(z:Str × NameKind):Str × NameKind:=match z with | (n,k)=>if(k == NameKind.free && env.scope.kind == .function && env.kindOf n == some .cell)then(n,NameKind.cell)else(n,k)
theorem rl_fst(env:Env)(n:Str)(k:NameKind):(rl env (n,k)).1=n:=by unfold rl;dsimp only;split <;>rfl
theorem rl_snd(env:Env)(n:Str)(k:NameKind):(rl env (n,k)).2=k∨(k=.free∧(rl env (n,k)).2=.cell):=by
  unfold rl
  dsimp only
  split
  · rename_i h
    simp only[Bool.and_eq_true]at h
    exact .inr ⟨by simpa using h.1.1,rfl⟩
  · exact .inl rfl
theorem f0p{env:Env}:∀{names:List (Str × NameKind)} {y:Str} {k:NameKind},(names.map (rl env)).lookup y=some k→names.lookup y=some k∨(names.lookup y=some .free∧k=.cell)
  | [],_,_,h=>by cases h
  | (n,j)::r,y,k,h=>by
    have ih:=@f0p env r y k
    rw[List.map_cons,show rl env (n,j)=((rl env (n,j)).1,(rl env (n,j)).2)from rfl,rl_fst,List.lookup_cons]at h
    rw[List.lookup_cons]
    cases hy:(y == n)with
    | true=>
      rw[hy]at h
      have h:(rl env (n,j)).2=k:=Option.some.inj h
      rcases rl_snd env n j with z | ⟨z1,z2⟩
      · exact .inl (by rw[← h,z])
      · exact .inr ⟨by rw[z1],by rw[← h,z2]⟩
    | false=>
      rw[hy]at h
      exact ih h
theorem g0u{env:Env}{scope:Scope}{y:Str}(h:(relabel scope env).names.lookup y=some .cell∨(relabel scope env).names.lookup y=some .free):scope.names.lookup y=some .free∨scope.names.lookup y=some .cell:=by
  have e:(relabel scope env).names=scope.names.map (rl env):=rfl
  rw[e]at h
  rcases h with h | h
  · rcases f0p h with z | ⟨z,_⟩
    · exact .inr z
    · exact .inl z
  · rcases f0p h with z | ⟨z,_⟩
    · exact .inl z
    · exact .inl z
theorem k0c{env:Env}{scope:Scope}{y:Str}(h:(relabel scope env).names.lookup y=some .local):scope.names.lookup y=some .local:=by
  have e:(relabel scope env).names=scope.names.map (rl env):=rfl
  rw[e]at h
  rcases f0p h with z | ⟨_,z⟩
  · exact z
  · cases z
theorem Un.but{fs ex:List Addr}{H H':Hp}{h h1 h2:Heap}{C:Addr}(u:Un fs ex H H' h h1)(hb:∀b o,b≠C→h1.get? b=some o→h2.get? b=some o)(hC:h.objs.size≤C):Un fs ex H H' h h2:=by
  have ne:∀b o,h.get? b=some o→b≠C:=fun b o e=>Nat.ne_of_lt (Nat.lt_of_lt_of_le (Heap.lt_size e) hC)
  refine⟨fun b o e n hf hx=>hb b o (ne b o e) (u.keep b o e n hf hx),fun b o e n hf hx=>?_,u.free,fun b o e hx=>?_,u.tups,u.frzs,u.tbls⟩
  · obtain⟨sl,q⟩:=u.slot b o e n hf hx
    exact⟨sl,hb b _ (ne b o e) q⟩
  · obtain⟨o',q⟩:=u.there b o e hx
    exact⟨o',hb b _ (ne b o e) q⟩
theorem HOk.but{P:Program}{w:World}{H:Hp}{h1 h2:Heap}{C:Addr}(x:HOk P w H h1)(hb:∀b o,b≠C→h1.get? b=some o→h2.get? b=some o)(n:H C=none):HOk P w H h2:=fun b u e=>
  (x b u e).stay (fun c v hc q=>hb c v (by
    rcases hc with rfl | hc
    · exact a0s e n
    · exact a0s hc n) q) (fun _ q=>q) fun _ _ q=>q
section
variable{X:Cx}{pins:List (Addr × Obj)}{σ:St}{H:Hp}{s:Shared}{scope:Scope}{xs:List Str}{fp:List Addr}{C:Addr}
theorem f0x(I:Inv X pins σ H s)(ok:d0v X.N X.env.scope scope):∀n,(n,NameKind.free)∈scope.names→∃c,X.env.cells.lookup n=some c:=fun n hn=>I.ok.has n (ok.free _ hn rfl)
theorem e0q(I:Inv X pins σ H s)(ok:d0v X.N X.env.scope scope){y:Str}{c:Addr}(e:(cbOf X.env scope C).lookup y=some c):(y,c)∈cellsFrom (C+1) scope.names []∨X.env.cells.lookup y=some c:=by
  rcases cb_lookup e with z | z
  · exact .inl z
  · rcases clo_in (f0x I ok) z with z | z
    · cases z
    · exact .inr z
theorem comp_old(I:Inv X pins σ H s){y:Str}{c:Addr}(e:X.env.cells.lookup y=some c):c < s.heap.objs.size:=let⟨_,h⟩:=I.cell y c e;h.lt
theorem comp_ok(I:Inv X pins σ H s)(ok:d0v X.N X.env.scope scope)(hf:∀b∈fp,FpOk X pins H b)(hx:∀b∈fp,b < s.heap.objs.size)(hC:s.heap.objs.size≤C) :
    (c0f X scope xs C s H fp (X.pn++pins)).Ok where
  mod:=I.mod
  kind:=ok.kind
  glob:=I.ok.glob
  blt:=I.ok.blt
  above:=hC
  inj:=fun x y c h1 h2=>by
    rcases e0q I ok h1 with z1 | z1 <;>rcases e0q I ok h2 with z2 | z2
    · exact i0k _ _ x y c z1 z2
    · exact absurd (Nat.lt_of_lt_of_le (comp_old I z2) (Nat.le_trans hC (Nat.le_of_lt (b0n _ _ _ _ z1)))) (Nat.lt_irrefl _)
    · exact absurd (Nat.lt_of_lt_of_le (comp_old I z1) (Nat.le_trans hC (Nat.le_of_lt (b0n _ _ _ _ z2)))) (Nat.lt_irrefl _)
    · exact I.ok.inj x y c z1 z2
  has:=fun y hy=>by
    show ∃c,(cbOf X.env scope C).lookup y=some c
    rw[show cbOf X.env scope C=_ from b0o _ _ _,d0j]
    rcases g0u hy with z | z
    · obtain⟨c,hc⟩:=clo_has (cells:=X.env.cells) (cs:=[]) (.inr (PySem.mem_of_lookup z))
      split
      · rename_i c' _;exact⟨c',rfl⟩
      · exact⟨c,hc⟩
    · obtain⟨c,hc⟩:=f0y scope.names (C+1) y (PySem.mem_of_lookup z)
      obtain⟨c',hc'⟩:=g0o hc
      rw[hc']
      exact⟨c',rfl⟩
  cab:=fun x c h e=>Nat.le_trans hC (Nat.le_of_lt (b0n _ _ _ _ (cb_own (by have h:(scope.names.lookup x == some NameKind.cell)=true:=h;simpa using h) e)))
  hd:=I.ok.hd
  frames:=I.ok.frames
  stk:=.inl rfl
  exf:=fun b hb=>⟨Nat.ne_of_lt (Nat.lt_of_lt_of_le (hx b hb) hC),fun x c e=>by
    rcases e0q I ok e with z | z
    · exact Nat.ne_of_gt (Nat.lt_of_lt_of_le (hx b hb) (Nat.le_trans hC (Nat.le_of_lt (b0n _ _ _ _ z))))
    · exact(hf b hb).2.2.2.2.1 x c z⟩
  bs:=I.bs
  bsz:=Nat.le_trans I.ok.bsz I.sz
  noex:=fun b o e hb=>by
    rcases(hf b hb).2.2.2.1 with z | z
    · exact I.ok.noex b o e z
    · exact absurd (Nat.lt_of_lt_of_le (Heap.lt_size e) (Nat.le_trans I.ok.bsz z)) (Nat.lt_irrefl _)
  exfs:=fun b hb z=>by
    rcases List.mem_cons.mp (I.stkSub b z)with q | q
    · exact(hf b hb).2.1 q
    · exact(hf b hb).2.2.1 q
  funs:=I.stack
  frf:=I.stkFree
theorem j0k(I:Inv X pins σ H s)(ok:d0v X.N X.env.scope scope)(hf:∀b∈fp,FpOk X pins H b)(hx:∀b∈fp,b < s.heap.objs.size)(hC:s.heap.objs.size≤C){h':Heap}{t':Nat}{m:Str→Option Value}
    (hn:h'.Ns C m) (hk:∀b o,s.heap.get? b=some o→h'.get? b=some o) (hcs:CellsOk h' (C+1) (cellsFrom (C+1) scope.names [])) :
    Inv (c0f X scope xs C s H fp (X.pn++pins)) [] (σ++List.replicate xs.length none) H { s with heap:=h',toks:=t' }where
  ok:=comp_ok I ok hf hx hC
  os:=rfl
  bare:=I.bare
  base:=Un.kept hk
  loc:=by
    refine⟨m,hn,fun i x v e1 e2 e3=>?_⟩
    have e1:(X.N++xs)[i]? = some x:=e1
    have hi:i < σ.length:=by
      by_cases hi:i < σ.length
      · exact hi
      · rw[List.getElem?_append_right (by omega),List.getElem?_replicate]at e2
        split at e2 <;>cases e2
    rw[List.getElem?_append_left hi]at e2
    rw[List.getElem?_append_left (by rw[← I.len];exact hi)]at e1
    have hxN:x∈X.N:=List.mem_of_getElem? e1
    have e4:(relabel scope X.env).names.lookup x=some .cell∨(relabel scope X.env).names.lookup x=some .free:=by
      rcases e3 with z | z
      · exact absurd (k0c z) (ok.vis x hxN)
      · exact z
    have e5:scope.names.lookup x=some .free:=by
      rcases g0u e4 with z | z
      · exact z
      · exact absurd z (ok.cell x hxN)
    have e6:=ok.free _ (PySem.mem_of_lookup e5) rfl
    obtain⟨m0,_,hl⟩:=I.loc
    obtain⟨u,ru,lu⟩:=hl i x v e1 e2 (.inr e6)
    refine⟨u,ru,.inr ⟨e4,?_⟩⟩
    rcases lu with ⟨q,_⟩ | ⟨_,c,hc,o,ho,hd⟩
    · have q:X.env.scope.names.lookup x=some .local:=q
      rcases e6 with z | z <;>(rw[q]at z;cases z)
    · obtain⟨c',hc'⟩:=clo_has (cells:=X.env.cells) (cs:=[]) (.inr (PySem.mem_of_lookup e5))
      have no:(cellsFrom (C+1) scope.names []).lookup x=none:=by
        cases e:(cellsFrom (C+1) scope.names []).lookup x with
        | none=>rfl
        | some d=>
          have:=ok.uniq _ (l0c _ _ _ _ (PySem.mem_of_lookup e))
          rw[e5]at this
          cases this
      have hb:(cbOf X.env scope C).lookup x=some c':=by
        rw[show cbOf X.env scope C=_ from b0o _ _ _,d0j,no]
        exact hc'
      rcases clo_in (f0x I ok) hc' with z | z
      · cases z
      · rw[hc]at z
        cases z
        exact⟨c,hb,o,hk _ _ ho,hd⟩
  cell:=fun x c e=>by
    rcases e0q I ok e with z | z
    · exact⟨none,(hcs.empty x c z).1⟩
    · obtain⟨v,o,ho,hd⟩:=I.cell x c z
      exact⟨v,o,hk _ _ ho,hd⟩
  free:=I.hok.fresh hC
  freeC:=fun x c e=>by
    rcases e0q I ok e with z | z
    · exact I.hok.fresh (by have:=b0n _ _ _ _ z;omega)
    · exact I.freeC x c z
  pin:=fun p hp=>by
    rw[List.append_nil]at hp
    obtain⟨e,n,ne,nf,d⟩:=I.pin p hp
    refine⟨hk _ _ e,n,Nat.ne_of_lt (Nat.lt_of_lt_of_le (Heap.lt_size e) hC),fun z=>?_,d⟩
    rcases List.mem_cons.mp (I.stkSub p.1 z)with q | q
    · exact ne q
    · exact nf q
  hok:=I.hok.kept hk
  len:=by
    show(σ++List.replicate xs.length none).length=(X.N++xs).length
    rw[List.length_append,List.length_append,List.length_replicate,I.len]
end
abbrev CTail(J:It)(k:Nat)(g:TG)(te:TE)(σ:St)(Q:VK)(H1:Hp):Prop:=∃W:Nat→Nat→List V→Hp→Prop,(∃m,W 0 m [] H1)∧∀i m ys H,W i m ys H→
  (J.stop i H∧ys.length≤sizeLine∧∀p,H p=none→Q (.ref p) (upd H p (.lst ys)))∨
  (J.go i H∧ys.length < sizeLine∧∀x H',J.yld i H x H'→g x (σ++List.replicate k none) H' fun σ2 H2=>(∃zs,σ2=σ++zs∧zs.length=k)∧te σ2 H2 fun v H3=>∃m',m' < m∧W (i+1) m' (ys++[v]) H3)
def tComp(k:Nat)(wi:TI)(g:TG)(te:TE):TE:=fun σ H Q=>wi σ H fun J H1=>CTail J k g te σ Q H1
theorem k0e{X:Cx}{elt target iter:Expr}{scope:Scope}{pos:Pos}{wi:TI}{g:TG}{te:TE}{xs:List Str}(hc:X.calm=true)(ok:d0v X.N X.env.scope scope)(hi:PI X target iter wi)
    (hg:∀C s H fp pn,PG (c0f X scope xs C s H fp pn) target g) (he:∀C s H fp pn,PE (c0f X scope xs C s H fp pn) elt te)
    (hs:∀x,foldedSetIterable iter X.env x=pure x:=by intro _;rfl):PE X (.ListComp elt [⟨target,iter,[],0⟩] scope pos) (tComp xs.length wi g te):=by
  intro pins s σ H Q I h
  rw[eval_ListComp]
  refine wpAny_comprehension_free (use:=none) rfl hs (i0i (f0x I ok)) ok.kind ok.names (thn (hi pins s σ H _ I h) fun v s1 h1=>thn h1 fun itv s2 h2=>?_)
  obtain⟨it,fp,tn,J,H2,rfl,I2,T,st2,f2,W,⟨m0,w0⟩,turn⟩:=h2
  refine wpAny_newObj_type (h0u fun h₁ hns₁ hsb₁ hcl₁=>?_)
  dsimp only at hns₁ hsb₁ hcl₁ ⊢
  generalize hD:s2.heap.objs.size=D
  generalize hH3:s2.heap.push { cls:=.type "list",dict:=none,data:=.seq ([]:List Value).toArray }=h3 at hns₁ hsb₁ hcl₁ ⊢
  have k23:∀b o,s2.heap.get? b=some o→h3.get? b=some o:=fun b o e=>hH3▸Heap.get?_push_of_some _ e
  have hC:h3.objs.size=D+1:=by rw[← hH3,Heap.size_push,hD]
  have eD3:h3.get? D=some { cls:=.type "list",dict:=none,data:=.seq ([]:List Value).toArray }:=by
    rw[← hH3,← hD];exact Heap.get?_push_size _ rfl
  have I3:Inv X pins σ H2 { s2 with heap:=h3 }:=I2.kept (t':=s2.toks) k23
  have fD:FpOk X pins H2 D:=I2.fpOk (by omega) (I2.hok.fresh (by omega))
  have lt2:∀b∈fp,b < D:=fun b hb=>by
    obtain⟨o,e,_⟩:=T.obj 0 _ st2 b hb
    rw[← hD]
    exact Heap.lt_size e
  have f3:∀b∈D::fp,FpOk X pins H2 b:=fun b hb=>by
    rcases List.mem_cons.mp hb with rfl | hb
    · exact fD
    · exact f2 b hb
  have hx3:∀b∈D::fp,b < ({ s2 with heap:=h3 }:Shared).heap.objs.size:=fun b hb=>by
    show b < h3.objs.size
    rcases List.mem_cons.mp hb with rfl | hb
    · rw[hC];exact Nat.lt_succ_self _
    · rw[hC];exact Nat.lt_succ_of_lt (lt2 b hb)
  have k31:∀b o,h3.get? b=some o→h₁.get? b=some o:=hsb₁
  have okX:=comp_ok (C:=h3.objs.size) (xs:=xs) I3 ok f3 hx3 (Nat.le_refl _)
  have I4:=j0k (C:=h3.objs.size) (xs:=xs) (t':=s2.toks+([]:List (Str × Value)).length) I3 ok f3 hx3 (Nat.le_refl _) hns₁ k31 hcl₁
  have mD:D∈D::fp:=List.mem_cons_self
  have neC:∀b∈D::fp,b≠h3.objs.size:=fun b hb=>(okX.exf b hb).1
  have stat:∀{H':Hp} {pl:List (Addr × Obj)},(∀b∈fp,H' b=none)→(∀p∈pl,p.1=D)→∀b∈fp,FpOk (c0f X scope xs h3.objs.size { s2 with heap:=h3 } H2 (D::fp) (X.pn++pins)) pl H' b:=fun hn hpl b hb=>by
    have hb':b∈D::fp:=List.mem_cons_of_mem _ hb
    refine⟨hn b hb,neC b hb',okX.exfs b hb',.inl hb',(okX.exf b hb').2,fun p hp=>?_⟩
    rcases List.mem_append.mp hp with hp | hp
    · exact(f2 b hb).2.2.2.2.2 p hp
    · rw[hpl p hp]
      exact Nat.ne_of_gt (lt2 b hb)
  have loop:codeAny (model X.prog X.w) X.A (.compLoop (.ListComp elt [⟨target,iter,[],0⟩] scope pos) 0 (.ref it) (.ref D) (compEnvC scope (cbOf X.env scope h3.objs.size) h3.objs.size X.env))
      (compPost (model X.prog X.w) X.A X.xe none (EP X pins σ Q) (.ref D) h3.objs.size) { s2 with heap:=h₁,toks:=s2.toks+([]:List (Str × Value)).length }:=by
    refine compLoop_any (fun n s'=>∃i ys its k H',Inv (c0f X scope xs h3.objs.size { s2 with heap:=h3 } H2 (D::fp) (X.pn++pins)) [] (σ++List.replicate xs.length none) H' s'∧
      s'.heap.get? D=some { cls:=.type "list",data:=.seq (its:List Value).toArray k }∧Vals ys its∧H' D=none∧tn i s'.heap∧(∀b∈fp,H' b=none)∧W i n ys H') ?_ m0
      ⟨0,[],[],_,H2,I4,k31 _ _ eD3,.nil,fD.1,T.keep _ _ _ st2 (fun b _ o e=>k31 b o (k23 b o e)),fun b hb=>(f2 b hb).1,w0⟩
    rintro n s' ⟨i,ys,its,k,H',I',eD,rv,nD,st,fr,w⟩
    have Ip:=I'.pins_of (pins':=[(D,{ cls:=.type "list",data:=.seq its.toArray k })]) fun p hp=>by
      rw[List.mem_singleton]at hp
      subst hp
      exact⟨eD,nD,neC D mD,okX.exfs D mD,fun v z=>by cases z⟩
    have one:∀p∈[(D,({ cls:=.type "list",data:=.seq its.toArray k }:Obj))],p.1=D:=fun p hp=>by rw[List.mem_singleton]at hp;rw[hp]
    rcases turn i n ys H' w with ⟨stop,hz,q⟩ | ⟨go,hz,step⟩
    · refine thn (T.done (c0f X scope xs h3.objs.size { s2 with heap:=h3 } H2 (D::fp) (X.pn++pins)) rfl rfl rfl hc i _ s' _ H' (fun _ _=>False) Ip (stat fr one) st stop) fun r s4 ⟨hr,J4⟩=>?_
      subst hr
      obtain⟨mm,hnm,_⟩:=J4.loc
      refine⟨mm,hnm,fun h' sb=>?_⟩
      obtain⟨eD4,nD4,_⟩:=J4.pin (D,{ cls:=.type "list",data:=.seq its.toArray k }) (List.mem_append_right _ List.mem_cons_self)
      have hb:∀b o,b≠h3.objs.size→s4.heap.get? b=some o→h'.get? b=some o:=fun b o hn e=>sb.extBut b o hn e
      have u0:Un (frs X.stack) (D::fp) H2 H' h3 s4.heap:=J4.base
      have u:Un (frs X.stack) (D::fp) H2 H' s2.heap h':=((Un.kept k23).trans u0).but hb (by omega)
      have os4:s4.os=s2.os:=J4.os
      refine⟨.ref D,upd H' D (.lst ys),I2.call' (s':={ s4 with heap:=h' }) (ch:=D::fp) os4 (u.track (by omega) nD4) ((J4.hok.but hb J4.free).track nD4 ⟨hz,its,k,rv,hb D _ (neC D mD) eD4⟩) J4.bare (fun b hb=>?_),rfl,q D nD4⟩
      have z:=f3 b hb
      exact⟨z.2.2.2.1,z.2.1,z.2.2.2.2.1,z.2.2.2.2.2⟩
    · refine thn (T.item (c0f X scope xs h3.objs.size { s2 with heap:=h3 } H2 (D::fp) (X.pn++pins)) rfl rfl rfl hc i _ s' _ H' (fun _ _=>False) Ip (stat fr one) st go) fun r s4 ⟨u,hr,h4⟩=>?_
      subst hr
      refine thn h4 fun _ s5 ⟨x,H5,I5,r5,y5,st5,fr5⟩=>?_
      have I5':=I5.pinned (stat fr5 one) (T.obj _ _ st5)
      refine thn (hg _ _ _ _ _ _ s5 _ H5 x u _ I5' r5 (step x H5 y5)) fun _ s6 ⟨σ6,H6,I6,⟨zs,hz6,hl6⟩,q6⟩=>?_
      refine thn (he _ _ _ _ _ _ s6 σ6 H6 _ I6 q6) fun xv s7 ⟨v,H7,I7,r7,m',hm',w7⟩=>?_
      obtain⟨eD7,nD7,_⟩:=I7.pin (D,{ cls:=.type "list",data:=.seq its.toArray k }) (List.mem_append_right _ (List.mem_append_left _ List.mem_cons_self))
      have len:=rv.length
      refine call_meets F.slot_list_append ⟨_,eD7,rfl⟩ F.entry_list_append (F.args_list_append_2 _ _) (PySem.list_append D its.toArray k xv (by rw[List.size_toArray];omega)) ⟨eD7,?_⟩
      have q:=PySem.IsL.update eD7 (fun a=>a.push xv)
      have other:∀b o,b≠D→s7.heap.get? b=some o→(s7.heap.update D (Obj.mapSeq fun a=>a.push xv)).get? b=some o:=fun b o hb e=>(Heap.get?_update_other s7.heap _ (Ne.symm hb)).trans e
      have pinF:∀b∈fp,∀o,s5.heap.get? b=some o→s7.heap.get? b=some o∧H7 b=none:=fun b hb o e=>
        ⟨(I7.pin (b,o) (List.mem_append_right _ (List.mem_append_right _ (c0u hb e)))).1,(I7.pin (b,o) (List.mem_append_right _ (List.mem_append_right _ (c0u hb e)))).2.1⟩
      have I7':=I7.pins_of (pins':=[]) fun p hp=>by cases hp
      have I8:=I7'.turned (t':=s7.toks) (it:=D) other nD7 (neC D mD) (.inl mD) (okX.exf D mD).2 (fun p hp=>by
        rw[List.append_nil]at hp
        exact fD.2.2.2.2.2 p hp)
      have I9:=I8.weak (σ':=σ++List.replicate xs.length none) (by rw[hz6,List.length_append,List.length_append,List.length_replicate,hl6]) (fun j v' e=>by
        have hj:j < σ.length:=by
          by_cases hj:j < σ.length
          · exact hj
          · rw[List.getElem?_append_right (by omega),List.getElem?_replicate]at e
            split at e <;>cases e
        rw[List.getElem?_append_left hj]at e
        rw[hz6,List.getElem?_append_left hj]
        exact e)
      have e9:its.toArray.push xv=(its++[xv]).toArray:=by simp
      rw[e9]at q
      refine⟨m',hm',i+1,ys++[v],its++[xv],_,H7,I9,q,rv.append (.cons r7 .nil),nD7,T.keep _ _ _ st5 (fun b hb o e=>other b o (Nat.ne_of_lt (lt2 b hb)) (pinF b hb o e).1),fun b hb=>?_,w7⟩
      obtain⟨o,e,_⟩:=T.obj _ _ st5 b hb
      exact(pinF b hb o e).2
  exact codeAny_compStart_list loop (T.self _ 0 _ _ _ (T.keep _ _ _ st2 fun b _ o e=>k31 b o (k23 b o e)) loop)
end L2
namespace L2
open PySem PySem.Spec PyProof.Rows
section
variable{X:Cx}{pins:List (Addr × Obj)}{σ:St}{H:Hp}{s:Shared}{i:Nat}{y:Str}
end
end L2
namespace L2
open PySem PySem.Spec PyProof.Rows
theorem compLoop_if{prog:Program}{w:World}{A:Around}{R:Result→Shared→Prop}{s:Shared}{elt target iter c:Expr}{scope:Scope}{pos:Pos}{it acc:Value}{env:Env}(I:Nat→Shared→Prop)
    (turn:∀n s,I n s→wpAny (model prog w) A (pyNext it) (fun r s₁=>match r with
      | none=>R (.ok .next) s₁
      | some v=>wpAny (model prog w) A (letOwnedTupleGo target it v) (fun _ s₁'=>wpAny (model prog w) A (assign target env v) (fun _ s₂=>wpAny (model prog w) A (isTrue c env (eval c env)) (fun ok s₂'=>
          if ok=true then wpAny (model prog w) A (eval elt env) (fun x s₃=>wpAny (model prog w) A (call (.builtin "list.append") [acc,x]) (fun _ s₄=>∃m,m < n∧I m s₄) (fun _ _=>False) s₃) (fun _ _=>False) s₂'
          else ∃m,m < n∧I m s₂') (fun _ _=>False) s₂) (fun _ _=>False) s₁') (fun _ _=>False) s₁) (fun _ _=>False) s)
    (n:Nat) (h:I n s) :
    codeAny (model prog w) A (.compLoop (.ListComp elt [⟨target,iter,[c],0⟩] scope pos) 0 it acc env) R s:=by
  refine codeAny_loop rfl I (fun n s hI=>?_) n h
  show wpAny _ _ ((compTurn (.ListComp elt [⟨target,iter,[c],0⟩] scope pos) 0 it acc env).onRaise (fun x=>do noteFrame x env;theTreesLotGoes x)) _ _ s
  refine wpAny_noted ?_;rw[compTurn_list]
  refine wpAny_bind (wpAny_standAt (wpAny_bind (wpAny_mono (turn n s hI) (fun r s₁ h₁=>?_) fun _ _ h'=>h'.elim)))
  cases r with
  | none=>exact wpAny_pure h₁
  | some v=>
    refine wpAny_bind (wpAny_mono h₁ (fun _ s1' h1'=>wpAny_bind (wpAny_mono h1' (fun _ s₂ h₂=>wpAny_bind (wpAny_tests_one (wpAny_mono h₂ (fun ok s₃ h₃=>?_) fun _ _ h'=>h'.elim))) fun _ _ h'=>h'.elim)) fun _ _ h'=>h'.elim)
    cases ok with
    | false=>exact wpAny_pure ⟨rfl,h₃⟩
    | true=>
      exact wpAny_bind (wpAny_bind (wpAny_mono h₃ (fun x s₄ h₄=>wpAny_bind (wpAny_mono h₄ (fun _ s₅ h₅=>wpAny_pure (wpAny_pure ⟨rfl,h₅⟩)) fun _ _ h'=>h'.elim)) fun _ _ h'=>h'.elim))
abbrev CTailI(J:It)(k:Nat)(g:TG)(tc:TT)(te:TE)(σ:St)(Q:VK)(H1:Hp):Prop:=∃W:Nat→Nat→List V→Hp→Prop,(∃m,W 0 m [] H1)∧∀i m ys H,W i m ys H→
  (J.stop i H∧ys.length≤sizeLine∧∀p,H p=none→Q (.ref p) (upd H p (.lst ys)))∨
  (J.go i H∧ys.length < sizeLine∧∀x H',J.yld i H x H'→g x (σ++List.replicate k none) H' fun σ2 H2=>(∃zs,σ2=σ++zs∧zs.length=k)∧tc σ2 H2 fun b H3=>if b=true then te σ2 H3 fun v H4=>∃m',m' < m∧W (i+1) m' (ys++[v]) H4 else ∃m',m' < m∧W (i+1) m' ys H3)
def tCompIf(k:Nat)(wi:TI)(g:TG)(tc:TT)(te:TE):TE:=fun σ H Q=>wi σ H fun J H1=>CTailI J k g tc te σ Q H1
theorem pe_compif{X:Cx}{elt target iter c:Expr}{scope:Scope}{pos:Pos}{wi:TI}{g:TG}{tc:TT}{te:TE}{xs:List Str}(hc:X.calm=true)(ok:d0v X.N X.env.scope scope)(hi:PI X target iter wi)
    (hg:∀C s H fp pn,PG (c0f X scope xs C s H fp pn) target g) (ht:∀C s H fp pn,PT (c0f X scope xs C s H fp pn) c tc) (he:∀C s H fp pn,PE (c0f X scope xs C s H fp pn) elt te)
    (hs:∀x,foldedSetIterable iter X.env x=pure x:=by intro _;rfl):PE X (.ListComp elt [⟨target,iter,[c],0⟩] scope pos) (tCompIf xs.length wi g tc te):=by
  intro pins s σ H Q I h
  rw[eval_ListComp]
  refine wpAny_comprehension_free (use:=none) rfl hs (i0i (f0x I ok)) ok.kind ok.names (thn (hi pins s σ H _ I h) fun v s1 h1=>thn h1 fun itv s2 h2=>?_)
  obtain⟨it,fp,tn,J,H2,rfl,I2,T,st2,f2,W,⟨m0,w0⟩,turn⟩:=h2
  refine wpAny_newObj_type (h0u fun h₁ hns₁ hsb₁ hcl₁=>?_)
  dsimp only at hns₁ hsb₁ hcl₁ ⊢
  generalize hD:s2.heap.objs.size=D
  generalize hH3:s2.heap.push { cls:=.type "list",dict:=none,data:=.seq ([]:List Value).toArray }=h3 at hns₁ hsb₁ hcl₁ ⊢
  have k23:∀b o,s2.heap.get? b=some o→h3.get? b=some o:=fun b o e=>hH3▸Heap.get?_push_of_some _ e
  have hC:h3.objs.size=D+1:=by rw[← hH3,Heap.size_push,hD]
  have eD3:h3.get? D=some { cls:=.type "list",dict:=none,data:=.seq ([]:List Value).toArray }:=by
    rw[← hH3,← hD];exact Heap.get?_push_size _ rfl
  have I3:Inv X pins σ H2 { s2 with heap:=h3 }:=I2.kept (t':=s2.toks) k23
  have fD:FpOk X pins H2 D:=I2.fpOk (by omega) (I2.hok.fresh (by omega))
  have lt2:∀b∈fp,b < D:=fun b hb=>by
    obtain⟨o,e,_⟩:=T.obj 0 _ st2 b hb
    rw[← hD]
    exact Heap.lt_size e
  have f3:∀b∈D::fp,FpOk X pins H2 b:=fun b hb=>by
    rcases List.mem_cons.mp hb with rfl | hb
    · exact fD
    · exact f2 b hb
  have hx3:∀b∈D::fp,b < ({ s2 with heap:=h3 }:Shared).heap.objs.size:=fun b hb=>by
    show b < h3.objs.size
    rcases List.mem_cons.mp hb with rfl | hb
    · rw[hC];exact Nat.lt_succ_self _
    · rw[hC];exact Nat.lt_succ_of_lt (lt2 b hb)
  have k31:∀b o,h3.get? b=some o→h₁.get? b=some o:=hsb₁
  have okX:=comp_ok (C:=h3.objs.size) (xs:=xs) I3 ok f3 hx3 (Nat.le_refl _)
  have I4:=j0k (C:=h3.objs.size) (xs:=xs) (t':=s2.toks+([]:List (Str × Value)).length) I3 ok f3 hx3 (Nat.le_refl _) hns₁ k31 hcl₁
  have mD:D∈D::fp:=List.mem_cons_self
  have neC:∀b∈D::fp,b≠h3.objs.size:=fun b hb=>(okX.exf b hb).1
  have stat:∀{H':Hp} {pl:List (Addr × Obj)},(∀b∈fp,H' b=none)→(∀p∈pl,p.1=D)→∀b∈fp,FpOk (c0f X scope xs h3.objs.size { s2 with heap:=h3 } H2 (D::fp) (X.pn++pins)) pl H' b:=fun hn hpl b hb=>by
    have hb':b∈D::fp:=List.mem_cons_of_mem _ hb
    refine⟨hn b hb,neC b hb',okX.exfs b hb',.inl hb',(okX.exf b hb').2,fun p hp=>?_⟩
    rcases List.mem_append.mp hp with hp | hp
    · exact(f2 b hb).2.2.2.2.2 p hp
    · rw[hpl p hp]
      exact Nat.ne_of_gt (lt2 b hb)
  have loop:codeAny (model X.prog X.w) X.A (.compLoop (.ListComp elt [⟨target,iter,[c],0⟩] scope pos) 0 (.ref it) (.ref D) (compEnvC scope (cbOf X.env scope h3.objs.size) h3.objs.size X.env))
      (compPost (model X.prog X.w) X.A X.xe none (EP X pins σ Q) (.ref D) h3.objs.size) { s2 with heap:=h₁,toks:=s2.toks+([]:List (Str × Value)).length }:=by
    refine compLoop_if (fun n s'=>∃i ys its k H',Inv (c0f X scope xs h3.objs.size { s2 with heap:=h3 } H2 (D::fp) (X.pn++pins)) [] (σ++List.replicate xs.length none) H' s'∧
      s'.heap.get? D=some { cls:=.type "list",data:=.seq (its:List Value).toArray k }∧Vals ys its∧H' D=none∧tn i s'.heap∧(∀b∈fp,H' b=none)∧W i n ys H') ?_ m0
      ⟨0,[],[],_,H2,I4,k31 _ _ eD3,.nil,fD.1,T.keep _ _ _ st2 (fun b _ o e=>k31 b o (k23 b o e)),fun b hb=>(f2 b hb).1,w0⟩
    rintro n s' ⟨i,ys,its,k,H',I',eD,rv,nD,st,fr,w⟩
    have Ip:=I'.pins_of (pins':=[(D,{ cls:=.type "list",data:=.seq its.toArray k })]) fun p hp=>by
      rw[List.mem_singleton]at hp
      subst hp
      exact⟨eD,nD,neC D mD,okX.exfs D mD,fun v z=>by cases z⟩
    have one:∀p∈[(D,({ cls:=.type "list",data:=.seq its.toArray k }:Obj))],p.1=D:=fun p hp=>by rw[List.mem_singleton]at hp;rw[hp]
    rcases turn i n ys H' w with ⟨stop,hz,q⟩ | ⟨go,hz,step⟩
    · refine thn (T.done (c0f X scope xs h3.objs.size { s2 with heap:=h3 } H2 (D::fp) (X.pn++pins)) rfl rfl rfl hc i _ s' _ H' (fun _ _=>False) Ip (stat fr one) st stop) fun r s4 ⟨hr,J4⟩=>?_
      subst hr
      obtain⟨mm,hnm,_⟩:=J4.loc
      refine⟨mm,hnm,fun h' sb=>?_⟩
      obtain⟨eD4,nD4,_⟩:=J4.pin (D,{ cls:=.type "list",data:=.seq its.toArray k }) (List.mem_append_right _ List.mem_cons_self)
      have hb:∀b o,b≠h3.objs.size→s4.heap.get? b=some o→h'.get? b=some o:=fun b o hn e=>sb.extBut b o hn e
      have u0:Un (frs X.stack) (D::fp) H2 H' h3 s4.heap:=J4.base
      have u:Un (frs X.stack) (D::fp) H2 H' s2.heap h':=((Un.kept k23).trans u0).but hb (by omega)
      have os4:s4.os=s2.os:=J4.os
      refine⟨.ref D,upd H' D (.lst ys),I2.call' (s':={ s4 with heap:=h' }) (ch:=D::fp) os4 (u.track (by omega) nD4) ((J4.hok.but hb J4.free).track nD4 ⟨hz,its,k,rv,hb D _ (neC D mD) eD4⟩) J4.bare (fun b hb=>?_),rfl,q D nD4⟩
      have z:=f3 b hb
      exact⟨z.2.2.2.1,z.2.1,z.2.2.2.2.1,z.2.2.2.2.2⟩
    · refine thn (T.item (c0f X scope xs h3.objs.size { s2 with heap:=h3 } H2 (D::fp) (X.pn++pins)) rfl rfl rfl hc i _ s' _ H' (fun _ _=>False) Ip (stat fr one) st go) fun r s4 ⟨u,hr,h4⟩=>?_
      subst hr
      refine thn h4 fun _ s5 ⟨x,H5,I5,r5,y5,st5,fr5⟩=>?_
      have I5':=I5.pinned (stat fr5 one) (T.obj _ _ st5)
      refine thn (hg _ _ _ _ _ _ s5 _ H5 x u _ I5' r5 (step x H5 y5)) fun _ s6 ⟨σ6,H6,I6,⟨zs,hz6,hl6⟩,q6⟩=>?_
      have pinF:∀{s7:Shared} {σ7:St} {H7:Hp},Inv (c0f X scope xs h3.objs.size { s2 with heap:=h3 } H2 (D::fp) (X.pn++pins)) ([(D,{ cls:=.type "list",data:=.seq its.toArray k })]++pinsAt fp s5.heap) σ7 H7 s7→∀b∈fp,∀o,s5.heap.get? b=some o→s7.heap.get? b=some o∧H7 b=none:=fun I7 b hb o e=>
        ⟨(I7.pin (b,o) (List.mem_append_right _ (List.mem_append_right _ (c0u hb e)))).1,(I7.pin (b,o) (List.mem_append_right _ (List.mem_append_right _ (c0u hb e)))).2.1⟩
      have back:∀{H7:Hp} {s7:Shared},Inv (c0f X scope xs h3.objs.size { s2 with heap:=h3 } H2 (D::fp) (X.pn++pins)) [] σ6 H7 s7→Inv (c0f X scope xs h3.objs.size { s2 with heap:=h3 } H2 (D::fp) (X.pn++pins)) [] (σ++List.replicate xs.length none) H7 s7:=fun I8=>
        I8.weak (by rw[hz6,List.length_append,List.length_append,List.length_replicate,hl6]) (fun j v' e=>by
          have hj:j < σ.length:=by
            by_cases hj:j < σ.length
            · exact hj
            · rw[List.getElem?_append_right (by omega),List.getElem?_replicate]at e
              split at e <;>cases e
          rw[List.getElem?_append_left hj]at e
          rw[hz6,List.getElem?_append_left hj]
          exact e)
      refine thn (ht _ _ _ _ _ _ s6 σ6 H6 _ I6 q6) fun ok s6' ⟨H6',I6',q6'⟩=>?_
      cases ok with
      | false=>
        obtain⟨m',hm',w7⟩:=(show ∃m',m' < n∧W (i+1) m' ys H6' from q6')
        obtain⟨eD7,nD7,_⟩:=I6'.pin (D,{ cls:=.type "list",data:=.seq its.toArray k }) (List.mem_append_right _ (List.mem_append_left _ List.mem_cons_self))
        refine⟨m',hm',i+1,ys,its,_,H6',back (I6'.pins_of (pins':=[]) fun p hp=>by cases hp),eD7,rv,nD7,T.keep _ _ _ st5 (fun b hb o e=>(pinF I6' b hb o e).1),fun b hb=>?_,w7⟩
        obtain⟨o,e,_⟩:=T.obj _ _ st5 b hb
        exact(pinF I6' b hb o e).2
      | true=>
        refine thn (he _ _ _ _ _ _ s6' σ6 H6' _ I6' q6') fun xv s7 ⟨v,H7,I7,r7,m',hm',w7⟩=>?_
        obtain⟨eD7,nD7,_⟩:=I7.pin (D,{ cls:=.type "list",data:=.seq its.toArray k }) (List.mem_append_right _ (List.mem_append_left _ List.mem_cons_self))
        have len:=rv.length
        refine call_meets F.slot_list_append ⟨_,eD7,rfl⟩ F.entry_list_append (F.args_list_append_2 _ _) (PySem.list_append D its.toArray k xv (by rw[List.size_toArray];omega)) ⟨eD7,?_⟩
        have q:=PySem.IsL.update eD7 (fun a=>a.push xv)
        have other:∀b o,b≠D→s7.heap.get? b=some o→(s7.heap.update D (Obj.mapSeq fun a=>a.push xv)).get? b=some o:=fun b o hb e=>(Heap.get?_update_other s7.heap _ (Ne.symm hb)).trans e
        have I7':=I7.pins_of (pins':=[]) fun p hp=>by cases hp
        have I8:=I7'.turned (t':=s7.toks) (it:=D) other nD7 (neC D mD) (.inl mD) (okX.exf D mD).2 (fun p hp=>by
          rw[List.append_nil]at hp
          exact fD.2.2.2.2.2 p hp)
        have e9:its.toArray.push xv=(its++[xv]).toArray:=by simp
        rw[e9]at q
        refine⟨m',hm',i+1,ys++[v],its++[xv],_,H7,back I8,q,rv.append (.cons r7 .nil),nD7,T.keep _ _ _ st5 (fun b hb o e=>other b o (Nat.ne_of_lt (lt2 b hb)) (pinF I7 b hb o e).1),fun b hb=>?_,w7⟩
        obtain⟨o,e,_⟩:=T.obj _ _ st5 b hb
        exact(pinF I7 b hb o e).2
  exact codeAny_compStart_list loop (T.self _ 0 _ _ _ (T.keep _ _ _ st2 fun b _ o e=>k31 b o (k23 b o e)) loop)
end L2
namespace L2
open PySem PySem.Spec PyProof.Rows
end L2
namespace L2
open PySem PySem.Spec PyProof.Rows
section
variable{X:Cx}
def rSlS:V→Option Int→Option Int→Hp→VK→Prop:=fun x lo hi H Q=>∃z,x=.str z∧z.length≤sizeLine∧Q (.str (Txt.slice z lo hi)) H
theorem g0t:SlR X rSlS:=by
  intro pins s σ H x v vl vu lo hi sl Q I rx hs pl pu h
  obtain⟨z,rfl,hz,q⟩:=h
  obtain⟨t,rfl⟩:=rx
  have fin:∀t' k,EP X pins σ Q (.str (Txt.slice z lo hi) t') { s with toks:=k }:=fun t' k=>⟨.str _,H,I.tok _,⟨_,rfl⟩,q⟩
  refine⟨"str",_,F.slot_str_getitem.lookup,typeIs_str _ _ _,?_⟩
  cases pl with
  | none=>
    cases pu with
    | none=>exact wpAny_getItem_str_slice (l:=none) (u:=none) (st:=none) hs rfl (post_val_or_str ⟨Nat.le_trans (Txt.slice_le z _ _) hz,fin⟩)
    | int j uj=>exact wpAny_getItem_str_slice (l:=none) (u:=some (j,uj)) (st:=none) hs rfl (post_val_or_str ⟨Nat.le_trans (Txt.slice_le z _ _) hz,fin⟩)
  | int i ui=>
    cases pu with
    | none=>exact wpAny_getItem_str_slice (l:=some (i,ui)) (u:=none) (st:=none) hs rfl (post_val_or_str ⟨Nat.le_trans (Txt.slice_le z _ _) hz,fin⟩)
    | int j uj=>exact wpAny_getItem_str_slice (l:=some (i,ui)) (u:=some (j,uj)) (st:=none) hs rfl (post_val_or_str ⟨Nat.le_trans (Txt.slice_le z _ _) hz,fin⟩)
def rIndexS:V→List V→Hp→VK→Prop:=fun x xs H Q=>∃z y i rest,x=.str z∧xs=[.str y]∧Builtin.Str.occurrences z y 0 z.length 1=i::rest∧Q (.int (i:Nat)) H
theorem mt_indexS:MtR X "str.index" rIndexS:=by
  intro pins s σ H x xs v us Q I rx rs h
  obtain⟨z,y,i,rest,rfl,rfl,e,q⟩:=h
  obtain⟨t,rfl⟩:=rx
  obtain⟨u,rfl,ru⟩:=rs.one
  obtain⟨t',rfl⟩:=ru
  exact call_gives F.slot_str_index (typeIs_str s z t) F.entry_str_index (F.args_str_index_2 _ _) (PySem.gives_str_index z y t t' i rest e) ⟨.int _,H,I.tok _,⟨_,rfl⟩,q⟩
def Its(z:Str):It:=⟨fun i _=>i < z.cps.size,fun i H x H'=>H'=H∧∃c,z.cps[i]? = some c∧x=.str ⟨#[c]⟩,fun i _=>z.cps.size≤i⟩
theorem turn_str{P:Program}{w:World}{K:PySem.W.Frag}{tg:Expr}(z:Str)(t:Tok)(it:Addr):Turn P w K tg (Its z) [it] it (fun i h=>h.IsStrIter it "str_ascii_iterator" z t i)where
  mem:=by simp
  obj:=fun i h st b hb=>by
    have e:b=it:=by simpa using hb
    subst e
    obtain⟨o,e,c,d⟩:=st
    exact⟨o,e,fun v q=>by rw[d]at q;cases q⟩
  keep:=fun i h h' st k=>by
    obtain⟨o,e,r⟩:=st
    exact⟨o,k it (by simp) o e,r⟩
  item:=by
    intro X hP hw hK hc i pins s σ H E I hf st hg
    subst hP hw hK
    have hg:i < z.cps.size:=hg
    obtain⟨f0,f1,f2,f3,f4,f5⟩:=hf it (by simp)
    refine wpAny_pyNext_ascii_item st (c:=z.cps[i]) (by simp[hg]) fun h' st' sb=>?_
    have I1:Inv X pins σ H { s with heap:=h',toks:=s.toks+1 }:=I.turned (t':=s.toks+1) (fun b o hb e=>(sb.2 b hb).trans e) f0 f1 f3 f4 f5
    obtain⟨o,e,c,d⟩:=id st'
    exact⟨_,rfl,go_of (s:={ s with heap:=h',toks:=s.toks+1 }) e c d (by decide) ⟨.str ⟨#[z.cps[i]]⟩,H,I1,⟨_,rfl⟩,⟨rfl,_,by simp[hg],rfl⟩,st',fun b hb=>(hf b hb).1⟩⟩
  done:=by
    intro X hP hw hK hc i pins s σ H E I hf st hg
    subst hP hw hK
    have hg:z.cps.size≤i:=hg
    obtain⟨f0,f1,f2,f3,f4,f5⟩:=hf it (by simp)
    exact wpAny_pyNext_ascii_end (I.ok.hd hc) st (by simp;omega) fun h' eb=>⟨rfl,I.turned (t':=s.toks) (fun b o hb e=>eb b o hb e) f0 f1 f3 f4 f5⟩
  self:=fun _ _ _ _ _ st h=>wpAny_pyIter_striter_ascii st h
def iStr(tl:TE):TI:=fun σ H R=>tl σ H fun x H1=>∃z,x=.str z∧z.cps.all (· < 128)=true∧R (Its z) H1
theorem pi_str{tg l:Expr}{tl:TE}(hl:PE X l tl):PI X tg l (iStr tl):=by
  intro pins s σ H R I h
  refine thn (hl pins s σ H _ I h) fun v s1 ⟨x,H1,I1,r1,z,e,ha,q⟩=>?_
  subst e
  obtain⟨t,rfl⟩:=r1
  refine wpAny_pyIter_ascii ha ?_
  have hf:H1 s1.heap.objs.size=none:=I1.hok.fresh (Nat.le_refl _)
  refine⟨s1.heap.objs.size,[s1.heap.objs.size],_,Its z,H1,rfl,I1.kept (t':=s1.toks) (fun b ob q=>Heap.get?_push_of_some _ q),turn_str z t _,⟨_,Heap.get?_push_size _ rfl,rfl,rfl⟩,fun b hb=>?_,q⟩
  have e:b=s1.heap.objs.size:=by simpa using hb
  subst e
  exact I1.fpOk (Nat.le_refl _) hf
end
end L2
namespace L2
open PySem PySem.Spec PyProof.Rows
section
variable{prog:Program}{w:World}{A:Around}{E:Value→Shared→Prop}{s:Shared}
theorem nextT_item{I t:Addr}{i:Nat}{vs:Array Value}{x:Value}{Q:Value→Shared→Prop}(hI:s.heap.IsTupleIter I t i)(ht:s.heap.IsTuple t vs)(e:vs[i]? = some x)
    (q:∀h',h'.IsTupleIter I t (i+1)→Heap.SameBut I s.heap h'→Q x { s with heap:=h' }):wpAny (model prog w) A (Builtin.SmallTypes.nextOf (.ref I)) Q E s:=by
  obtain⟨o,eo,co,fo⟩:=id hI;obtain⟨u,eu,_,n,fu⟩:=ht;unfold Builtin.SmallTypes.nextOf
  refine wpAny_bind (wpAny_callSpecial?_slot (name:=Str.ofString "__next__") hI.typeIs F.slot_tuple_iterator_next (wpAny_call_entry F.slot_tuple_iterator_next hI.typeIs F.entry_tuple_iterator_next ?_ (F.args_tuple_iterator_next_1 _)))
  show wpAny _ _ (field (.ref I) 0 >>= _) _ _ s
  refine wpAny_bind (wpAny_field eo fo (x:=.ref t) rfl ?_);show wpAny _ _ (if(Value.ref t == Value.none)=true then _ else _) _ _ s
  rw[if_neg (show ¬((Value.ref t == Value.none)=true)from Bool.false_ne_true)];show wpAny _ _ (field (.ref I) 1 >>= _) _ _ s
  refine wpAny_bind (wpAny_field eo fo (x:=.int i 0) rfl ?_);show wpAny _ _ (seqItems? (.ref t) >>= _) _ _ s
  refine wpAny_bind (wpAny_seqItems eu fu ?_);simp only[Int.toNat_natCast,e]
  refine wpAny_bind (wpAny_setField eo fo (by simp) (wpAny_pure ⟨x,rfl,wpAny_pure (q _ ?_ (Heap.SameBut.update ..))⟩))
  exact⟨_,Heap.get?_update_self _ eo (Obj.isFreed_of_fields (Obj.data_mapFields fo _)),(Obj.cls_mapFields ..).trans co,by rw[Obj.data_mapFields fo];simp[rawInt]⟩
theorem nextT_end{I t:Addr}{i:Nat}{vs:Array Value}{Q:Value→Shared→Prop}(hh:A.handled=none)(hI:s.heap.IsTupleIter I t i)(ht:s.heap.IsTuple t vs)(e:vs[i]? = none)
    (q:∀h' x,Heap.ExtBut I s.heap h'→(∃o,h'.get? x=some o∧o.cls=.type "StopIteration")→E (.ref x) { s with heap:=h' }):wpAny (model prog w) A (Builtin.SmallTypes.nextOf (.ref I)) Q E s:=by
  obtain⟨o,eo,co,fo⟩:=id hI;obtain⟨u,eu,_,n,fu⟩:=ht;unfold Builtin.SmallTypes.nextOf
  refine wpAny_bind (wpAny_callSpecial?_slot (name:=Str.ofString "__next__") hI.typeIs F.slot_tuple_iterator_next (wpAny_call_entry F.slot_tuple_iterator_next hI.typeIs F.entry_tuple_iterator_next ?_ (F.args_tuple_iterator_next_1 _)))
  show wpAny _ _ (field (.ref I) 0 >>= _) _ _ s
  refine wpAny_bind (wpAny_field eo fo (x:=.ref t) rfl ?_);show wpAny _ _ (if(Value.ref t == Value.none)=true then _ else _) _ _ s
  rw[if_neg (show ¬((Value.ref t == Value.none)=true)from Bool.false_ne_true)];show wpAny _ _ (field (.ref I) 1 >>= _) _ _ s
  refine wpAny_bind (wpAny_field eo fo (x:=.int i 0) rfl ?_);show wpAny _ _ (seqItems? (.ref t) >>= _) _ _ s
  refine wpAny_bind (wpAny_seqItems eu fu ?_);simp only[Int.toNat_natCast,e]
  refine wpAny_bind (wpAny_rule (wpAny_bind (wpAny_setField eo fo (by simp) ?_)));show wpAny _ _ (newExc (.type "StopIteration") [] >>= _) _ _ _
  refine wpAny_bind ?_;simp only[newExc,newTuple]
  refine wpAny_bind (wpAny_newObj_type ?_ (by size_fits));refine wpAny_bind (m:=firstArgMember _ _) (wpAny_of_eq (a:=Value.none) (by first | rfl | (simp only[firstArgMember];rfl)) ?_)
  refine wpAny_newObj_type ?_ (by size_fits);simp only[raiseNew];refine wpAny_bind (wpAny_handled ?_)
  first | rw[show A.in1.handled=none from hh] | rw[hh]
  refine wpAny_bind (wpAny_pure (wpAny_throw ?_));exact q _ _ (((Heap.SameBut.update ..).extBut.push _).push _) ⟨_,Heap.get?_push_size _ rfl,rfl⟩
end
inductive Sr
  | lst (a:Addr)
  | tup (a:Addr)
  | str (x:Str)
def Sr.it:Sr→Heap→Addr→Nat→Prop
  | .lst a,h,I,i=>h.IsListIter I a i
  | .tup a,h,I,i=>h.IsTupleIter I a i
  | .str x,h,I,i=>∃t,h.IsStrIter I (strIterType x) x t i
def Sr.has:Sr→Heap→Array Value→Prop
  | .lst a,h,vs=>h.IsList a vs
  | .tup a,h,vs=>h.IsTuple a vs
  | .str x,_,vs=>vs.size=x.cps.size
def Sr.is:Sr→Array Value→Nat→Value→Prop
  | .lst _,vs,i,v=>vs[i]? = some v
  | .tup _,vs,i,v=>vs[i]? = some v
  | .str x,_,i,v=>∃c u,x.cps[i]? = some c∧v=.str ⟨#[c]⟩ u
def Sr.fp:Sr→Addr→List Addr
  | .lst a,I=>[I,a]
  | .tup a,I=>[I,a]
  | .str _,I=>[I]
def Sr.off:Sr→Addr→Prop
  | .lst a,I=>a≠I
  | .tup a,I=>a≠I
  | .str _,_=>True
theorem Sr.fp_off{S:Sr}{I b:Addr}(h:S.off b)(hb:b≠I):b ∉ S.fp I:=by
  cases S <;>simp[Sr.fp,Sr.off]at h ⊢ <;>first | exact⟨hb,Ne.symm h⟩ | exact hb
theorem Sr.it.mv{S:Sr}{h h':Heap}{I:Addr}{i:Nat}(x:S.it h I i)(k:∀o,h.get? I=some o→h'.get? I=some o):S.it h' I i:=by
  cases S with
  | lst a=>obtain⟨o,e,r⟩:=x;exact⟨o,k o e,r⟩
  | tup a=>obtain⟨o,e,r⟩:=x;exact⟨o,k o e,r⟩
  | str z=>obtain⟨t,o,e,r⟩:=x;exact⟨t,o,k o e,r⟩
theorem Sr.it.obj{S:Sr}{h:Heap}{I:Addr}{i:Nat}(x:S.it h I i):∃o,h.get? I=some o∧∀v,o.data≠.cell v:=by
  cases S with
  | lst a=>obtain⟨o,e,_,d⟩:=x;exact⟨o,e,fun v z=>by rw[d]at z;cases z⟩
  | tup a=>obtain⟨o,e,_,d⟩:=x;exact⟨o,e,fun v z=>by rw[d]at z;cases z⟩
  | str z=>obtain⟨t,o,e,_,d⟩:=x;exact⟨o,e,fun v z=>by rw[d]at z;cases z⟩
theorem Sr.has.mv{S:Sr}{h h':Heap}{vs:Array Value}{I:Addr}(x:S.has h vs)(k:∀b o,b≠I→h.get? b=some o→h'.get? b=some o)(off:S.off I):S.has h' vs:=by
  cases S with
  | lst a=>obtain⟨o,e,r⟩:=x;exact⟨o,k a o off e,r⟩
  | tup a=>obtain⟨o,e,r⟩:=x;exact⟨o,k a o off e,r⟩
  | str z=>exact x
theorem Sr.draws{prog:Program}{w:World}{A:Around}(S:Sr)(hh:A.handled=none)(I:Addr)(off:S.off I)(vs:Array Value) :
    Draws prog w A I (S.fp I) vs.size (S.is vs) (fun i h=>S.it h I i∧S.has h vs):=by
  cases S with
  | lst a=>exact Draws.list hh I a off vs
  | tup a=>exact{
      live:=fun _ _ st=>let⟨o,e,_⟩:=st.1;⟨o,e⟩
      frame:=fun _ _ _ st k=>⟨let⟨o,e,r⟩:=st.1;⟨o,k I (by simp[Sr.fp]) o e,r⟩,let⟨o,e,r⟩:=st.2;⟨o,k a (by simp[Sr.fp]) o e,r⟩⟩
      item:=fun i s Q E hi st q=>nextT_item st.1 st.2 (x:=vs[i]) (by simp[hi]) fun h' a' b'=>q _ h' s.toks (show vs[i]? = some vs[i] by simp[hi]) ⟨a',Heap.IsTuple.extBut st.2 b'.extBut off⟩ b'
      done:=fun s Q E st q=>nextT_end hh st.1 st.2 (by simp) q }
  | str x=>
    cases ha:x.cps.all (· < 128)with
    | true=>
      have e:strIterType x="str_ascii_iterator":=by simp[strIterType,ha]
      exact{
        live:=fun _ _ st=>let⟨_,o,e,_⟩:=st.1;⟨o,e⟩
        frame:=fun _ _ _ st k=>⟨let⟨t,o,e,r⟩:=st.1;⟨t,o,k I (by simp[Sr.fp]) o e,r⟩,st.2⟩
        item:=fun i s Q E hi st q=>by
          obtain⟨⟨t,g⟩,z⟩:=st
          have hz:vs.size=x.cps.size:=z
          rw[e]at g
          exact(Draws.strAscii (prog:=prog) (w:=w) hh I x t).item i s Q E (by omega) g fun v h' tk p st' sb=>q v h' tk p ⟨⟨t,by rw[e];exact st'⟩,z⟩ sb
        done:=fun s Q E st q=>by
          obtain⟨⟨t,g⟩,z⟩:=st
          have hz:vs.size=x.cps.size:=z
          rw[e,hz]at g
          exact(Draws.strAscii (prog:=prog) (w:=w) hh I x t).done s Q E g q }
    | false=>
      have e:strIterType x="str_iterator":=by simp[strIterType,ha]
      exact{
        live:=fun _ _ st=>let⟨_,o,e,_⟩:=st.1;⟨o,e⟩
        frame:=fun _ _ _ st k=>⟨let⟨t,o,e,r⟩:=st.1;⟨t,o,k I (by simp[Sr.fp]) o e,r⟩,st.2⟩
        item:=fun i s Q E hi st q=>by
          obtain⟨⟨t,g⟩,z⟩:=st
          have hz:vs.size=x.cps.size:=z
          rw[e]at g
          exact(Draws.strWide (prog:=prog) (w:=w) hh I x t).item i s Q E (by omega) g fun v h' tk p st' sb=>q v h' tk p ⟨⟨t,by rw[e];exact st'⟩,z⟩ sb
        done:=fun s Q E st q=>by
          obtain⟨⟨t,g⟩,z⟩:=st
          have hz:vs.size=x.cps.size:=z
          rw[e,hz]at g
          exact(Draws.strWide (prog:=prog) (w:=w) hh I x t).done s Q E g q }
end L2
namespace L2
open PySem PySem.Spec PyProof.Rows
structure ZA(S1 S2:Sr)(z TI TO i1 i2:Addr):Prop where
  a:TI≠z
  b:TO≠z
  c:i1≠z
  d:i2≠z
  e:TI≠TO
  f:TI≠i1
  g:TI≠i2
  h:TO≠i1
  i:TO≠i2
  j:i1≠i2
  k:∀x∈[z,TO,i1,i2],S1.off x∧S2.off x
structure ZS(S1 S2:Sr)(v1 v2:Array Value)(z TI TO i1 i2:Addr)(n:Nat)(u:Value)(h:Heap):Prop where
  z:IsZip h z TI TO u
  ti:IsPair h TI (.ref i1) (.ref i2)
  to:∃x y,IsPair h TO x y
  s1:S1.it h i1 n
  s2:S2.it h i2 n
  h1:S1.has h v1
  h2:S2.has h v2
section
variable{prog:Program}{w:World}{A:Around}{E:Value→Shared→Prop}{s:Shared}{S1 S2:Sr}{v1 v2:Array Value}{z TI TO i1 i2:Addr}{n:Nat}
end
def Sr.val:Sr→Value→Prop
  | .lst a,v=>v=.ref a
  | .tup a,v=>v=.ref a
  | .str x,v=>∃t,v=.str x t
end L2
namespace L2
open PySem PySem.Spec PyProof.Rows
abbrev tIt(l:Addr):Obj:={ cls:=.type "tuple_iterator",data:=.fields #[.ref l,.int 0 0] }
abbrev enO(i:Addr):Obj:={ cls:=.type "enumerate",data:=.fields #[.none,.bool false,.ref i,rawInt 0,.none,.none] }
theorem enum_newT(l:Addr)(vs:Array Value)(n:Nat)(dct:Option Addr)(sl:Array (Option Value)) :
    Meets (Builtin.«enumerate.__new__» ⟨[.type "enumerate",.ref l],[]⟩) (fun _ R s=>s.heap.get? l=some { cls:=.type "tuple",dict:=dct,data:=.seq vs n,slots:=sl }∧
      R (.ok (.ret (.ref (s.heap.push (tIt l)).objs.size))) { s with heap:=(s.heap.push (tIt l)).push (enO s.heap.objs.size) }):=
  .of_wp fun prog w A R s h=>by
    obtain⟨hp,g,d,tk,os⟩:=s;obtain⟨hl,h⟩:=h;have hsub:=sub_enumerate
    have hL:Heap.IsTuple (Shared.heap ⟨hp,g,d,tk,os⟩) l vs:=⟨_,hl,rfl,n,rfl⟩
    wp_walk using AutoSeq1.wpAny_loadPart' hl
    refine wpAny_stack_any fun st=>wpAny_pure ?_;split
    · rename_i c _ _ _ _ _;cases (c == Value.type "enumerate")
      · wp_walk using AutoSeq1.wpAny_loadPart' hl,wpAny_pyIter_tuple hL;exact⟨_,rfl,h⟩
      · wp_walk using AutoSeq1.wpAny_loadPart' hl,wpAny_pyIter_tuple hL;exact⟨_,rfl,h⟩
    · wp_walk using AutoSeq1.wpAny_loadPart' hl,wpAny_pyIter_tuple hL;exact⟨_,rfl,h⟩
theorem call_enumT{prog:Program}{w:World}{A:Around}{E:Value→Shared→Prop}{s:Shared}{l:Addr}{vs:Array Value}{Q:Value→Shared→Prop}(hL:s.heap.IsTuple l vs)
    (h:∀h',IsEnum h' (s.heap.objs.size+1) s.heap.objs.size 0 .none→h'.IsTupleIter s.heap.objs.size l 0→(∀b o,s.heap.get? b=some o→h'.get? b=some o)→Q (.ref (s.heap.objs.size+1)) { s with heap:=h' }) :
    wpAny (model prog w) A (call (.type "enumerate") [.ref l]) Q E s:=by
  obtain⟨⟨c,dct,dt,sl⟩,hl,hc,n,hd⟩:=hL
  replace hc:c=.type "tuple":=hc;replace hd:dt=.seq vs n:=hd;subst hc hd
  refine callType_new F.called_enumerate (by decide) (F.typeCall_enumerate_1 _) (F.newCall_enumerate_1 _) (fun obj=>F.args_object_init_2 obj _) F.entry_enumerate_new (enum_newT l vs n dct sl) ⟨hl,?_⟩
  have hz:(s.heap.push (tIt l)).objs.size=s.heap.objs.size+1:=Heap.size_push ..
  show _∧_
  rw[hz]
  have he:IsEnum ((s.heap.push (tIt l)).push (enO s.heap.objs.size)) (s.heap.objs.size+1) s.heap.objs.size 0 .none:=by
    have:=Heap.get?_push_size (s.heap.push (tIt l)) (o:=enO s.heap.objs.size) rfl
    rw[hz]at this;exact this
  exact⟨⟨_,he,rfl⟩,h _ he ⟨_,Heap.get?_push_of_some _ (Heap.get?_push_size _ rfl),rfl,rfl⟩ fun b o x=>Heap.get?_push_of_some _ (Heap.get?_push_of_some _ x)⟩
theorem call_enum{prog:Program}{w:World}{A:Around}{E:Value→Shared→Prop}{s:Shared}{S:Sr}{vs:Array Value}{v:Value}{Q:Value→Shared→Prop}(e:S.val v)(x:S.has s.heap vs)
    (h:∀h',IsEnum h' (s.heap.objs.size+1) s.heap.objs.size 0 .none→S.it h' s.heap.objs.size 0→(∀b o,s.heap.get? b=some o→h'.get? b=some o)→Q (.ref (s.heap.objs.size+1)) { s with heap:=h' }) :
    wpAny (model prog w) A (call (.type "enumerate") [v]) Q E s:=by
  cases S with
  | lst a=>cases (show v=.ref a from e);exact call_enumerate_list x fun h' a b _ c=>h h' a b c
  | tup a=>cases (show v=.ref a from e);exact call_enumT x h
  | str z=>obtain⟨t,rfl⟩:=(show ∃t,v=.str z t from e);exact call_enumerate_str fun h' a b _ c=>h h' a ⟨t,b⟩ c
end L2
namespace L2
open PySem PySem.Spec PyProof.Rows
section
variable{X:Cx}{pins:List (Addr × Obj)}{σ:St}{H:Hp}{s:Shared}{h':Heap}
theorem Inv.turneds{t':Nat}{ch:List Addr}(I:Inv X pins σ H s)(k:∀b o,b ∉ ch→s.heap.get? b=some o→h'.get? b=some o)(hf:∀b∈ch,FpOk X pins H b):Inv X pins σ H { s with heap:=h',toks:=t' }:=by
  have nit:∀b u,H b=some u→b ∉ ch:=fun b u e z=>by rw[(hf b z).1]at e;cases e
  refine I.step (g':=s.gens) (d':=s.drawn) (ch:=ch) (fun b hb=>?_) (fun b o _ _ hc e _=>k b o hc e) (fun b o _ _ hc e _=>⟨o.slots,k b o hc e⟩) (fun _ _ _ _ n=>n) (fun b o hc e=>⟨o,k b o hc e⟩) (fun _ _ e=>e) (fun _ _ _ e=>e)
    (fun b ps e=>⟨#[],by rw[e];simp⟩) (fun m hm=>?_) (fun b u e=>?_) I.bare
  · obtain⟨f0,f1,f2,f3,f4,f5⟩:=hf b hb
    exact⟨f3,f1,f4,f5⟩
  · obtain⟨o,es,ep,ho,r⟩:=hm
    exact⟨o,es,ep,k _ o (fun z=>(hf _ z).2.1 rfl) ho,r⟩
  · refine(I.hok b u e).stay (fun c v hc q=>k c v ?_ q) (fun _ q=>q) fun _ _ q=>q
    rcases hc with z | z
    · rw[z];exact nit b u e
    · exact nit c _ z
theorem Inv.track{a:Addr}{o:HO}(I:Inv X pins σ H s)(hs:X.s₀.heap.objs.size≤a)(f:FpOk X pins H a)(new:ObjOk X.prog X.w (upd H a o) s.heap a o):Inv X pins σ (upd H a o) s:=
  ⟨I.ok,I.os,I.bare,I.base.track hs f.1,I.loc,I.cell,by rw[a0v (Ne.symm f.2.1)];exact I.free,fun x c e=>by rw[a0v (f.2.2.2.2.1 x c e)];exact I.freeC x c e,fun p hp=>by
    obtain⟨e,n,r⟩:=I.pin p hp
    exact⟨e,by rw[a0v (f.2.2.2.2.2 p hp)];exact n,r⟩,I.hok.track f.1 new,I.len⟩
end
def i0l(x:Str):List V:=x.cps.toList.map fun c=>V.str ⟨#[c]⟩
def Sr.vals(K:PySem.W.Frag)(H:Hp):Sr→List V→Prop
  | .lst a,xs=>SqL K H a xs
  | .tup a,xs=>SqT K H a xs
  | .str x,xs=>xs=i0l x
def Sr.ofV:Sr→V→Prop
  | .lst a,v=>v=.ref a
  | .tup a,v=>v=.ref a
  | .str x,v=>v=.str x
section
variable{X:Cx}{pins:List (Addr × Obj)}{σ:St}{H:Hp}{s:Shared}{S:Sr}{xs ys:List V}
theorem Sr.vals.get(I:Inv X pins σ H s)(h:S.vals X.K H xs):∃vs,S.has s.heap vs∧vs.size=xs.length∧∀i x v,xs[i]? = some x→S.is vs i v→RelV x v:=by
  cases S with
  | lst a=>
    obtain⟨its,rv,p,hz⟩:=I.list h
    refine⟨its.toArray,p.isList,by have:=rv.length;simp;omega,fun i x v e1 e2=>?_⟩
    obtain⟨u,hu,ru⟩:=rv.get e1
    have e2:its.toArray[i]? = some v:=e2
    rw[List.getElem?_toArray,hu]at e2
    cases e2
    exact ru
  | tup a=>
    obtain⟨its,rv,p,hz⟩:=I.tuple h
    refine⟨its.toArray,(show s.heap.IsTuple a its.toArray from p),by have:=rv.length;simp;omega,fun i x v e1 e2=>?_⟩
    obtain⟨u,hu,ru⟩:=rv.get e1
    have e2:its.toArray[i]? = some v:=e2
    rw[List.getElem?_toArray,hu]at e2
    cases e2
    exact ru
  | str z=>
    cases (show xs=i0l z from h)
    refine⟨Array.replicate z.cps.size .none,by show(Array.replicate _ _).size=_;simp,by simp[i0l],fun i x v e1 e2=>?_⟩
    obtain⟨c,u,ec,rfl⟩:=(show ∃c u,z.cps[i]? = some c∧v=.str ⟨#[c]⟩ u from e2)
    have:(i0l z)[i]? = some (V.str ⟨#[c]⟩):=by simp[i0l,ec]
    rw[this]at e1
    cases e1
    exact⟨u,rfl⟩
theorem Sr.vals.inj(I:Inv X pins σ H s)(h:S.vals X.K H xs)(h':S.vals X.K H ys):xs=ys:=by
  cases S with
  | lst a=>exact I.list_inj h h'
  | tup a=>exact I.tuple_inj h h'
  | str z=>exact(show xs=i0l z from h).trans (show ys=i0l z from h').symm
theorem Sr.ofV.val{x:V}{u:Value}(e:S.ofV x)(r:RelV x u):S.val u:=by
  cases S with
  | lst a=>cases (show x=.ref a from e);exact r
  | tup a=>cases (show x=.ref a from e);exact r
  | str z=>cases (show x=.str z from e);exact r
end
theorem Sr.vals.same{K:PySem.W.Frag}{H H':Hp}{S:Sr}{xs:List V}(h:S.vals K H xs)(hl:∀a,SqL K H a xs→SqL K H' a xs)(ht:∀a,SqT K H a xs→SqT K H' a xs):S.vals K H' xs:=by
  cases S with
  | lst a=>exact hl a h
  | tup a=>exact ht a h
  | str z=>exact h
def Ite(K:PySem.W.Frag)(S:Sr):It:=
  ⟨fun i H=>∃xs x,S.vals K H xs∧xs[i]? = some x,fun i H v H'=>∃p x,v=.ref p∧H p=none∧H'=upd H p (.tup [.int i,x])∧∀xs,S.vals K H xs→xs[i]? = some x,fun i H=>∃xs,S.vals K H xs∧i=xs.length⟩
theorem Sr.fp_it(S:Sr)(I:Addr):I∈S.fp I:=by cases S <;>simp[Sr.fp]
theorem turn_enum{P:Program}{w:World}{K:PySem.W.Frag}{es:List Expr}{kk:Nat}{tp:Pos}{S:Sr}{e it:Addr}(D:e≠it)(o1:S.off e)(o2:S.off it) :
    Turn P w K (.Tuple es kk tp) (Ite K S) [e,it] e (fun i h=>(∃old,IsEnum h e it i old)∧S.it h it i)where
  mem:=by simp
  obj:=fun i h st b hb=>by
    obtain⟨⟨old,he⟩,h1⟩:=st
    simp only[List.mem_cons,List.not_mem_nil,or_false]at hb
    rcases hb with rfl | rfl
    · exact⟨_,he,fun v z=>by simp at z⟩
    · exact h1.obj
  keep:=fun i h h' st k=>by
    obtain⟨⟨old,he⟩,h1⟩:=st
    exact⟨⟨old,k e (by simp) _ he⟩,h1.mv fun o q=>k it (by simp) o q⟩
  item:=by
    intro X hP hw hK hc i pins s σ H E I hf st hg
    subst hP hw hK
    obtain⟨xs,x,hx,ex⟩:=hg
    obtain⟨vs,a1,z1,r1⟩:=Sr.vals.get I hx
    obtain⟨⟨old,he⟩,h1⟩:=st
    have l1:=(List.getElem?_eq_some_iff.mp ex).1
    have lt:∀b∈[e,it],b < s.heap.objs.size:=fun b hb=>by
      simp only[List.mem_cons,List.not_mem_nil,or_false]at hb
      rcases hb with rfl | rfl
      · exact Heap.lt_size he
      · obtain⟨_,q,_⟩:=h1.obj;exact Heap.lt_size q
    have hh:X.A.in1.handled=none:=I.ok.hd hc
    have W:=WalksT.enumerateD (prog:=X.prog) (w:=X.w) (A:=X.A) (S.draws hh it o2 vs) e D (Sr.fp_off o1 D) (S.fp_it it)
    refine W.item i s _ E (by omega) ⟨⟨old,he⟩,h1,a1⟩ fun T vals h' tk hP hT ht hM hk=>⟨_,rfl,W.go es kk tp i T _ _ E hM fun h'' st'' hk''=>?_⟩
    obtain⟨t,xv,px,rfl⟩:=hP
    have kk:∀b o,b ∉ [e,it]→s.heap.get? b=some o→h''.get? b=some o:=fun b o hb q=>hk'' b o hb (hk b o hb q)
    have I1:Inv X pins σ H { s with heap:=h'',toks:=tk }:=I.turneds (t':=tk) kk hf
    have fT:FpOk X pins H T:=I.fpOk hT (I.hok.fresh hT)
    have nT:T ∉ [e,it]:=W.apart i T _ hM
    have oT:h''.IsTuple T #[.int i t,xv]:=let⟨o,q,r⟩:=ht;⟨o,hk'' T o nT q,r⟩
    have I2:Inv X pins σ (upd H T (.tup [.int i,x])) { s with heap:=h'',toks:=tk }:=I1.track (Nat.le_trans I.sz hT) fT
      ⟨by show 2≤sizeLine;decide,[.int i t,xv],.cons ⟨t,rfl⟩ (.cons (r1 i x xv ex px) .nil),oT,fun z=>absurd rfl (z i x)⟩
    refine⟨.ref T,_,I2,rfl,⟨_,x,rfl,fT.1,rfl,fun xs' h=>by rw[Sr.vals.inj I h hx];exact ex⟩,⟨st''.1,st''.2.1⟩,fun b hb=>?_⟩
    rw[a0v (Nat.ne_of_lt (Nat.lt_of_lt_of_le (lt b hb) hT))]
    exact(hf b hb).1
  done:=by
    intro X hP hw hK hc i pins s σ H E I hf st hg
    subst hP hw hK
    obtain⟨xs,hx,l⟩:=hg
    obtain⟨vs,a1,z1,r1⟩:=Sr.vals.get I hx
    obtain⟨⟨old,he⟩,h1⟩:=st
    have hh:X.A.in1.handled=none:=I.ok.hd hc
    have W:=WalksT.enumerateD (prog:=X.prog) (w:=X.w) (A:=X.A) (S.draws hh it o2 vs) e D (Sr.fp_off o1 D) (S.fp_it it)
    have ei:i=vs.size:=by omega
    subst ei
    exact W.done s _ E ⟨⟨old,he⟩,h1,a1⟩ fun h' tk hk=>⟨rfl,I.turneds (t':=tk) hk hf⟩
  self:=fun _ _ _ _ _ st h=>by
    obtain⟨⟨old,he⟩,_⟩:=st
    exact wpAny_pyIter_enum he h
def iEnum(K:PySem.W.Frag)(ta:TA):TI:=fun σ H R=>ta σ H fun vs H1=>∃S x xs,vs=[x]∧Sr.ofV S x∧S.vals K H1 xs∧R (Ite K S) H1
theorem pi_enum{X:Cx}{a:Expr}{ta:TA}{p pos tp:Pos}{es:List Expr}{kk:Nat}(hg:Gl X "enumerate")(hm:X.mg "enumerate"=none)(ha:PA X [a] ta)(hs:starEach [a] X.env=[(false,eval a X.env)]:=by rfl) :
    PI X (.Tuple es kk tp) (.Call (.Name "enumerate" p) [a] [] pos) (iEnum X.K ta):=by
  intro pins s σ H R I h
  refine Call_ (g0y I hg hm boot_enumerate (PyProof.Rows.callWith_type1 (thn (ha pos pins s σ H _ I h) fun us s1 ⟨vs,H1,I1,r1,q1⟩=>?_) hs rfl))
  obtain⟨S,x,xs,e,e1,hx,q⟩:=q1
  subst e
  cases r1 with
  | cons r rr=>
    cases rr
    obtain⟨v1,a1,z1,_⟩:=Sr.vals.get I1 hx
    have off:∀k:Nat,S.off (s1.heap.objs.size+k):=fun k=>by
      cases S with
      | lst a=>obtain⟨o,q,_⟩:=a1;exact Nat.ne_of_lt (Nat.lt_of_lt_of_le (Heap.lt_size q) (Nat.le_add_right _ k))
      | tup a=>obtain⟨o,q,_⟩:=a1;exact Nat.ne_of_lt (Nat.lt_of_lt_of_le (Heap.lt_size q) (Nat.le_add_right _ k))
      | str z=>exact trivial
    refine call_enum (e1.val r) a1 fun h' he hi up=>wpAny_pyIter_enum he ⟨_,_,_,_,H1,rfl,I1.kept (t':=s1.toks) up,turn_enum (Nat.succ_ne_self _) (off 1) (off 0),⟨⟨_,he⟩,hi⟩,fun b hb=>?_,q⟩
    simp only[List.mem_cons,List.not_mem_nil,or_false]at hb
    have le:s1.heap.objs.size≤b:=by rcases hb with rfl | rfl <;>omega
    exact I1.fpOk le (I1.hok.fresh le)
end L2
namespace L2
open PySem PySem.Spec PyProof.Rows
section
variable{X:Cx}
theorem vals_bl{bs:List Bool}{its:List Value}(r:Vals (bs.map V.bl) its){i:Nat}{v:Value}(h:its[i]? = some v):∃b,bs[i]? = some b∧v=.bool b:=by
  have len:=r.length
  rw[List.length_map]at len
  have hi:i < its.length:=(List.getElem?_eq_some_iff.mp h).1
  have hb:bs[i]? = some (bs[i]'(by omega)):=List.getElem?_eq_getElem (by omega)
  obtain⟨u,hu,ru⟩:=r.get (i:=i) (x:=V.bl (bs[i]'(by omega))) (by rw[List.getElem?_map,hb];rfl)
  rw[h]at hu
  cases hu
  exact⟨_,hb,ru⟩
theorem all_range(bs:List Bool):(List.range bs.length).all (fun i=>bs[i]?.getD false)=bs.all id:=by
  rw[Bool.eq_iff_iff,List.all_eq_true,List.all_eq_true]
  constructor
  · intro h b hb
    obtain⟨i,hi,e⟩:=List.getElem_of_mem hb
    have:=h i (List.mem_range.mpr hi)
    rw[List.getElem?_eq_getElem hi,Option.getD_some,e]at this
    exact this
  · intro h i hi
    have hi:=List.mem_range.mp hi
    rw[List.getElem?_eq_getElem hi,Option.getD_some]
    exact h _ (List.getElem_mem hi)
def rAll(K:PySem.W.Frag)(f:List Bool→Bool):List V→Hp→VK→Prop:=fun xs H Q=>∃a bs,xs=[.ref a]∧SqL K H a (bs.map V.bl)∧Q (.bl (f bs)) H
theorem call_all(hc:X.calm=true):CallR X (.builtin "all") (rAll X.K fun bs=>bs.all id):=by
  intro pins s σ H xs us Q I r h
  obtain⟨a,bs,rfl,hq,q⟩:=h
  obtain⟨u,rfl,ru⟩:=r.one
  cases (show u=Value.ref a from ru)
  obtain⟨its,rv,p,hz⟩:=I.list hq
  have lt:a≠s.heap.objs.size:=by obtain⟨o,n,e,_⟩:=p;exact Nat.ne_of_lt (Heap.lt_size e)
  have hh:X.A.in1.handled=none:=I.ok.hd hc
  have hl:=p.isList
  have len:=rv.length
  rw[List.length_map]at len
  refine call_all_walk (wpAny_pyIter_list hl ⟨_,_,_,_,_,_,fun i=>bs[i]?.getD false,rfl,Walks.list hh s.heap.objs.size a lt its.toArray,⟨⟨_,Heap.get?_push_size _ rfl,rfl,rfl⟩,Heap.IsList.push hl _⟩,fun i v s' Q' E' hv q'=>?_,fun h' tk k=>?_⟩)
  · have hv:its.toArray[i]? = some v:=hv
    rw[List.getElem?_toArray]at hv
    obtain⟨b,eb,rfl⟩:=vals_bl rv hv
    have q':Q' (bs[i]?.getD false) s':=q'
    rw[eb]at q'
    exact wpAny_truthy_bool q'
  · rw[List.size_toArray,← len,all_range]
    refine⟨.bl _,H,I.kept (t':=tk) fun b o e=>k b o (fun z=>?_) (Heap.get?_push_of_some _ e),rfl,q⟩
    rw[List.mem_singleton]at z
    exact absurd (Heap.lt_size e) (by rw[z];exact Nat.lt_irrefl _)
end
end L2
namespace L2
open PySem PySem.Spec PyProof.Rows
section
variable{prog:Program}{w:World}{A:Around}{E:Value→Shared→Prop}{s:Shared}
end
theorem for_it{J:It}{n:Nat}{g:TG}{tb:TS}{D:Ends}{σ:St}{H:Hp}(Pv:Nat→St→Hp→Prop)(h0:Pv 0 σ H)
    (hs:∀i σ H,i < n→Pv i σ H→J.go i H∧∀x H',J.yld i H x H'→g x σ H' fun σ2 H2=>tb { D with nx:=Pv (i+1),ct:=Pv (i+1),bk:=D.nx } σ2 H2) (hd:∀σ H,Pv n σ H→J.stop n H∧D.nx σ H) :
    ∃W:Nat→Nat→St→Hp→Prop,(∃m,W 0 m σ H)∧∀i m σ H,W i m σ H→
      (J.stop i H∧D.nx σ H)∨(J.go i H∧∃N:St→Hp→Prop,(∀σ' H',N σ' H'→∃m',m' < m∧W (i+1) m' σ' H')∧∀x H',J.yld i H x H'→g x σ H' fun σ2 H2=>tb { D with nx:=N,ct:=N,bk:=D.nx } σ2 H2):=by
  refine⟨fun i m σ H=>m=n - i∧i≤n∧Pv i σ H,⟨n,by simp,Nat.zero_le _,h0⟩,?_⟩
  rintro i m σ H ⟨rfl,hi,p⟩
  by_cases hlt:i < n
  · obtain⟨a,b⟩:=hs i σ H hlt p
    exact .inr ⟨a,Pv (i+1),fun σ' H' p'=>⟨n - (i+1),by omega,rfl,hlt,p'⟩,b⟩
  · have e:i=n:=by omega
    subst e
    exact .inl (hd σ H p)
theorem tuple_addW0(l b:Addr)(items items2:Array Value)(n n2:Nat)(dd dd2:Option Addr)(sl sl2:Array (Option Value))(hc0:items.isEmpty=true) :
    Meets (Builtin.«tuple.__add__» ⟨[.ref l,.ref b],[]⟩) (fun _ R s=>s.heap.get? l=some { cls:=.type "tuple",dict:=dd,data:=.seq items n,slots:=sl }∧s.heap.get? b=some { cls:=.type "tuple",dict:=dd2,data:=.seq items2 n2,slots:=sl2 }∧R (.ok (.ret (Value.ref b))) { s with heap:=s.heap,toks:=s.toks }):=
  .of_wp fun prog w A R s h=>by obtain⟨hp,g,d,tk,os⟩:=s;obtain⟨hl,hb,h⟩:=h;have f1:=AutoSeq1.idx_int;have f2:=AutoSeq1.sub_tuple_tuple;wp_walk using AutoSeq1.wpAny_loadPart' hl,AutoSeq1.wpAny_loadPart' hb;exact⟨_,rfl,h⟩
def rCatA:R2:=fun x y H Q=>∃a b xs ys,x=.ref a∧y=.ref b∧H a=some (.tup xs)∧H b=some (.tup ys)∧xs.length+ys.length≤sizeLine∧
  ∀p H',Same H H'→H' p=some (.tup (xs++ys))→Q (.ref p) H'
theorem h0q{X:Cx}:OpR X (binaryOp .Add) rCatA:=by
  intro pins s σ H x y v u Q I rx ry h
  obtain⟨a,b,xs,ys,rfl,rfl,ha,hb,hz,q⟩:=h
  cases rx
  cases ry
  by_cases hx:xs=[]
  · obtain⟨its,r1,p1,_⟩:=I.tuple (SqT.of ha)
    obtain⟨its2,r2,p2,_⟩:=I.tuple (SqT.of hb)
    have e0:its=[]:=r1.nil_iff.mpr hx
    obtain⟨⟨cls,dd,data,sl⟩,ho,hc,n,hd⟩:=id p1
    obtain⟨⟨cls2,dd2,data2,sl2⟩,ho2,hc2,n2,hd2⟩:=id p2
    simp only at hc hd hc2 hd2
    subst hc hd hc2 hd2
    exact concat_meets ⟨_,ho,rfl⟩ ⟨_,ho2,rfl⟩ noFill_tuple_add seq_tuple_add PySem.F.slot_tuple_add PySem.F.entry_tuple_add (PySem.F.args_tuple_add_2 _ _)
      (tuple_addW0 a b its.toArray its2.toArray n n2 dd dd2 sl sl2 (by rw[e0];rfl)) ⟨ho,ho2,⟨.ref b,H,I,rfl,q b H (Same.refl _) (by rw[hx];exact hb)⟩⟩
  · exact op_catT pins s σ H (.ref a) (.ref b) (.ref a) (.ref b) Q I rfl rfl ⟨a,b,xs,ys,rfl,rfl,SqT.of ha,SqT.of hb,hx,hz,fun z=>q a H (Same.refl _) (by rw[z,List.append_nil];exact ha),fun _ p np=>q p _ (a0d np) a0b⟩
end L2
namespace L2
open PySem PySem.Spec PyProof.Rows
def sg1(z:Str)(i:Nat):Str:=⟨#[(z.cps[i]?).getD 0]⟩
def met(z:Str)(i:Nat)(k:Str):Bool:=(List.range i).any fun j=>k == sg1 z j
section
variable{prog:Program}{w:World}{A:Around}{R:Result→Shared→Prop}{I:Addr}{fp wr:List Addr}{G:Array GenState→Array GenState→Prop}{St:Nat→Shared→Prop}
end
section
variable{prog:Program}{w:World}{A:Around}{E:Value→Shared→Prop}{s:Shared}
set_option maxRecDepth 100000 in
end
end L2
namespace L2
open PySem PySem.Spec PyProof.Rows
def SameT(H H':Hp):Prop:=∀p vs,H p=some (.tup vs)→H' p=some (.tup vs)
theorem SameT.refl(H:Hp):SameT H H:=fun _ _ h=>h
theorem SameT.trans{H H1 H2:Hp}(x:SameT H H1)(y:SameT H1 H2):SameT H H2:=fun p vs h=>y p vs (x p vs h)
theorem Same.t{H H':Hp}(x:Same H H'):SameT H H':=fun p vs h=>x p _ h
def Ents(Pd:Nat→V→Hp→Prop)(ys:List V)(n:Nat)(H:Hp):Prop:=ys.length=n∧∀j,j < n→∃u,ys[j]? = some u∧Pd j u H
section
variable{Pd Pe:Nat→V→Hp→Prop}{ys:List V}{n:Nat}{H H':Hp}{v:V}
theorem Ents.nil:Ents Pd [] 0 H:=⟨rfl,fun j h=>absurd h (Nat.not_lt_zero j)⟩
theorem Ents.mono(h:Ents Pd ys n H)(s:∀j u,j < n→Pd j u H→Pe j u H'):Ents Pe ys n H':=⟨h.1,fun j hj=>by
  obtain⟨u,e,p⟩:=h.2 j hj
  exact⟨u,e,s j u hj p⟩⟩
theorem Ents.snoc(h:Ents Pd ys n H)(p:Pd n v H):Ents Pd (ys++[v]) (n+1) H:=⟨by rw[List.length_append,h.1];rfl,fun j hj=>by
  by_cases hn:j < n
  · obtain⟨u,e,q⟩:=h.2 j hn
    exact⟨u,by rw[List.getElem?_append_left (by rw[h.1];exact hn)];exact e,q⟩
  · have e:j=n:=by omega
    subst e
    exact⟨v,by rw[List.getElem?_append_right (by rw[h.1];exact Nat.le_refl _),h.1,Nat.sub_self];rfl,p⟩⟩
theorem Ents.at(h:Ents Pd ys n H){j:Nat}{u:V}(e:ys[j]? = some u):j < n∧Pd j u H:=by
  have hj:j < n:=by rw[← h.1];exact(List.getElem?_eq_some_iff.mp e).1
  obtain⟨u',e',p⟩:=h.2 j hj
  rw[e]at e'
  cases e'
  exact⟨hj,p⟩
end
def TupOf(Pd:Nat→V→Hp→Prop)(n:Nat)(v:V)(H:Hp):Prop:=∃p vs,v=.ref p∧H p=some (.tup vs)∧Ents Pd vs n H
def SeqOf(K:PySem.W.Frag)(Pd:Nat→V→Hp→Prop)(n:Nat)(v:V)(H:Hp):Prop:=∃S vs,Sr.ofV S v∧S.vals K H vs∧(∀H',Same H H'→S.vals K H' vs∧LenV K v H' vs.length)∧Ents Pd vs n H
theorem TupOf.seq{K:PySem.W.Frag}{Pd:Nat→V→Hp→Prop}{n:Nat}{v:V}{H:Hp}(h:TupOf Pd n v H):SeqOf K Pd n v H:=by
  obtain⟨p,vs,rfl,hp,e⟩:=h
  exact⟨.tup p,vs,rfl,SqT.of hp,fun H' q=>⟨SqT.of (q _ _ hp),.inr ⟨_,SqT.of (q _ _ hp),rfl⟩⟩,e⟩
theorem TupOf.mono{Pd Pe:Nat→V→Hp→Prop}{n:Nat}{v:V}{H H':Hp}(h:TupOf Pd n v H)(s:SameT H H')(m:∀j u,j < n→Pd j u H→Pe j u H'):TupOf Pe n v H':=by
  obtain⟨p,vs,rfl,hp,e⟩:=h
  exact⟨p,vs,rfl,s _ _ hp,e.mono m⟩
theorem SeqOf.mono{K:PySem.W.Frag}{Pd Pe:Nat→V→Hp→Prop}{n:Nat}{v:V}{H H':Hp}(h:SeqOf K Pd n v H)(s:Same H H')(m:∀j u,j < n→Pd j u H→Pe j u H'):SeqOf K Pe n v H':=by
  obtain⟨S,vs,e,hv,hs,he⟩:=h
  exact⟨S,vs,e,(hs _ s).1,fun H2 q=>hs _ (s.trans q),he.mono m⟩
theorem SeqOf.list{K:PySem.W.Frag}{Pd:Nat→V→Hp→Prop}{n:Nat}{p:Addr}{vs:List V}{H:Hp}(hp:H p=some (.lst vs))(e:Ents Pd vs n H):SeqOf K Pd n (.ref p) H:=
  ⟨.lst p,vs,rfl,SqL.of hp,fun H' q=>⟨SqL.of (q _ _ hp),.inl ⟨_,SqL.of (q _ _ hp),rfl⟩⟩,e⟩
theorem TupOf.len{K:PySem.W.Frag}{Pd:Nat→V→Hp→Prop}{n:Nat}{v:V}{H:Hp}(h:TupOf Pd n v H):LenV K v H n:=by
  obtain⟨p,vs,rfl,hp,e⟩:=h
  have e1:=e.1
  subst e1
  exact .inr ⟨_,SqT.of hp,rfl⟩
theorem SeqOf.len{K:PySem.W.Frag}{Pd:Nat→V→Hp→Prop}{n:Nat}{v:V}{H:Hp}(h:SeqOf K Pd n v H):LenV K v H n:=by
  obtain⟨S,vs,_,_,hs,e⟩:=h
  have q:=(hs _ (Same.refl _)).2
  rw[e.1]at q
  exact q
theorem l0b{J:It}{n k:Nat}{g:TG}{te:TE}{σ:St}{Q:VK}{H1:Hp}(Pv:Nat→List V→Hp→Prop)(hn:n≤1000)(h0:Pv 0 [] H1)(hl:∀i ys H,Pv i ys H→ys.length=i)
    (hgo:∀i ys H,i < n→Pv i ys H→J.go i H∧∀x H',J.yld i H x H'→g x (σ++List.replicate k none) H' fun σ2 H2=>(∃zs,σ2=σ++zs∧zs.length=k)∧te σ2 H2 fun v H3=>Pv (i+1) (ys++[v]) H3)
    (hstop:∀ys H,Pv n ys H→J.stop n H) (hend:∀ys H p,Pv n ys H→H p=none→Q (.ref p) (upd H p (.lst ys))) :
    CTail J k g te σ Q H1:=by
  have z:1000 < sizeLine:=by decide
  refine⟨fun i m ys H=>m=n - i∧i≤n∧Pv i ys H,⟨n,rfl,Nat.zero_le _,h0⟩,?_⟩
  rintro i m ys H ⟨rfl,hi,p⟩
  have yl:=hl i ys H p
  by_cases hlt:i < n
  · obtain⟨a,b⟩:=hgo i ys H hlt p
    refine .inr ⟨a,by omega,fun x H' y=>?_⟩
    have c:=b x H' y
    have e:(fun σ2 H2=>(∃zs,σ2=σ++zs∧zs.length=k)∧te σ2 H2 fun v H3=>∃m',m' < n - i∧m'=n - (i+1)∧i+1≤n∧Pv (i+1) (ys++[v]) H3)=fun σ2 H2=>(∃zs,σ2=σ++zs∧zs.length=k)∧te σ2 H2 fun v H3=>Pv (i+1) (ys++[v]) H3:=by
      funext σ2 H2
      congr 2
      funext v H3
      exact propext ⟨fun⟨_,_,_,_,q⟩=>q,fun q=>⟨_,by omega,rfl,hlt,q⟩⟩
    rw[e]
    exact c
  · have e:i=n:=by omega
    subst e
    exact .inl ⟨hstop ys H p,by omega,fun q nq=>hend ys H q p nq⟩
end L2
namespace L2
open PySem PySem.Spec PyProof.Rows
section
variable{X:Cx}{n:Nat}{st:Stmt}{rest:List Stmt}{t u:TS}
def PSn(X:Cx)(n:Nat)(st:Stmt)(t:TS):Prop:=
  ∀pins s σ H D,n≤s.toks→Inv X pins σ H s→t D σ H→wpAny (model X.prog X.w) X.A (exec st X.env) (SP X pins D) X.xe s
def PSsn(X:Cx)(n:Nat)(ss:List Stmt)(t:TS):Prop:=
  ∀pins s σ H D,n≤s.toks→Inv X pins σ H s→t D σ H→wpAny (model X.prog X.w) X.A (execs ss X.env) (SP X pins D) X.xe s
theorem PS.fl(h:PS X st t):PSn X n st t:=fun pins s σ H D _=>h pins s σ H D
theorem PSs.fl(h:PSs X rest t):PSsn X n rest t:=fun pins s σ H D _=>h pins s σ H D
theorem Inv.stored{pins:List (Addr × Obj)}{σ:St}{H:Hp}{s:Shared}{i:Nat}{x:Str}{v:V}{w:Value}{m:Str→Option Value}{h':Heap}(I:Inv X pins σ H s)(hN:X.N.Nodup)(hi:X.N[i]? = some x)
    (hk:X.env.kindOf x=some .local) (r:RelV v w) (hm:∀(j:Nat) (y:Str) (z:V),X.N[j]? = some y→σ[j]? = some (some z)→Vis X.env.scope y→∃w',RelV z w'∧Look X.env s.heap m y w')
    (hn:h'.Ns X.env.locals (fun y=>if y=x then some w else m y)) (hs:Heap.SameBut X.env.locals s.heap h') (k:Nat):Inv X pins (σ.set i (some v)) H { s with heap:=h',toks:=k }:=by
  have old:∀b o,X.s₀.heap.get? b=some o→h'.get? b=s.heap.get? b:=fun b o e=>hs.2 b (Nat.ne_of_lt (Nat.lt_of_lt_of_le (Heap.lt_size e) I.ok.above))
  have hσ:i < σ.length:=by rw[I.len];exact(List.getElem?_eq_some_iff.mp hi).1
  have B:=I.base
  refine{ ok:=I.ok,os:=I.os,bare:=I.bare,base:=⟨?_,?_,B.free,?_,B.tups,B.frzs,B.tbls⟩,loc:=⟨_,hn,?_⟩,cell:=?_,free:=I.free,freeC:=I.freeC,pin:=?_,hok:=?_,len:=by simpa using I.len }
  · intro b o e a1 a2 a3
    rw[← B.keep b o e a1 a2 a3];exact old b o e
  · intro b o e a1 a2 a3
    obtain⟨sl,q⟩:=B.slot b o e a1 a2 a3
    exact⟨sl,(old b o e).trans q⟩
  · intro b o e a1
    obtain⟨o',q⟩:=B.there b o e a1
    exact⟨o',(old b o e).trans q⟩
  · intro j y z e1 e2 e3
    by_cases hj:i=j
    · subst hj
      rw[hi]at e1
      cases e1
      rw[List.getElem?_set_self hσ]at e2
      cases e2
      exact⟨w,r,.inl ⟨hk,if_pos rfl⟩⟩
    · rw[List.getElem?_set_ne hj]at e2
      have ny:y≠x:=fun q=>hj (h0g hN hi (q▸e1))
      obtain⟨w',r',q⟩:=hm j y z e1 e2 e3
      rcases q with ⟨a1,a2⟩ | ⟨a1,c,a2,a3⟩
      · exact⟨w',r',.inl ⟨a1,(if_neg ny).trans a2⟩⟩
      · exact⟨w',r',.inr ⟨a1,c,a2,a3.sameBut hs (I.cne y c a2)⟩⟩
  · intro y c e
    obtain⟨z,q⟩:=I.cell y c e
    exact⟨z,q.sameBut hs (I.cne y c e)⟩
  · intro p hp
    obtain⟨a1,a2,a3,a4⟩:=I.pin p hp
    exact⟨(hs.2 p.1 a3).trans a1,a2,a3,a4⟩
  · intro b ob e
    obtain⟨m0,⟨oL,_,_,hoL,_⟩,_⟩:=I.loc
    refine(I.hok b ob e).stay (fun c w' hc q=>(hs.2 c ?_).trans q) (fun _ q=>q) fun _ _ q=>q
    intro z
    subst z
    rcases hc with z | z
    · subst z;rw[I.free]at e;cases e
    · rw[I.free]at z;cases z
theorem Inv.here{σ:St}{s:Shared}{i:Nat}{x:Str}{v:V}{m:Str→Option Value}(hm:∀(j:Nat) (y:Str) (z:V),X.N[j]? = some y→σ[j]? = some (some z)→Vis X.env.scope y→∃w',RelV z w'∧Look X.env s.heap m y w')
    (hi:X.N[i]? = some x) (e:σ[i]? = some (some v)) (hk:X.env.kindOf x=some .local):∃w,RelV v w∧m x=some w:=by
  obtain⟨w,r,q⟩:=hm i x v hi e (.inl hk)
  rcases q with ⟨_,q⟩ | ⟨q,_⟩
  · exact⟨w,r,q⟩
  · rw[hk]at q
    rcases q with q | q <;>cases q
end
end L2
namespace L2
open PySem PySem.Spec PyProof.Rows
section
variable{X:Cx}
def rStarts:V→List V→Hp→VK→Prop:=fun x xs H Q=>∃z y,x=.str z∧xs=[.str y]∧Q (.bl (Txt.startswith z y)) H
theorem mt_starts:MtR X "str.startswith" rStarts:=by
  intro pins s σ H x xs v us Q I rx rs h
  obtain⟨z,y,rfl,rfl,q⟩:=h
  obtain⟨t,rfl⟩:=rx
  obtain⟨u,rfl,ru⟩:=rs.one
  obtain⟨t',rfl⟩:=ru
  exact PySem.SC.startswith (b0f I q rfl)
def rPartition:V→List V→Hp→VK→Prop:=fun x xs H Q=>∃z y,x=.str z∧xs=[.str y]∧(y.length == 0)=false∧z.length≤sizeLine∧∀p,H p=none→Q (.ref p) (upd H p (.tup [.str (Txt.partition z y).1,.str (Txt.partition z y).2.1,.str (Txt.partition z y).2.2]))
theorem mt_partition:MtR X "str.partition" rPartition:=by
  intro pins s σ H x xs v us Q I rx rs h
  obtain⟨z,y,rfl,rfl,hy,hz,q⟩:=h
  obtain⟨t,rfl⟩:=rx
  obtain⟨u,rfl,ru⟩:=rs.one
  obtain⟨t',rfl⟩:=ru
  refine call_meets F.slot_str_partition (typeIs_str _ _ _) F.entry_str_partition (F.args_str_partition_2 _ _) (meets_str_partition z y t t' hy hz) ?_
  have q':=q _ (I.hok.fresh (Nat.le_refl _))
  revert q'
  unfold Txt.partition
  cases Builtin.Str.occurrences z y 0 z.length 1 with
  | nil=>
    intro q'
    refine⟨.ref _,_,I.laid (t':=s.toks+1) (o:=.tup [.str z,.str Str.empty,.str Str.empty]) (fun b ob q=>Heap.get?_push_of_some _ q) (Nat.le_refl _) ⟨by show 3≤sizeLine;decide,_,.cons ⟨_,rfl⟩ (.cons ⟨_,rfl⟩ (.cons ⟨_,rfl⟩ .nil)),IsTup.new _ _,fun _=>⟨_,Heap.get?_push_size _ rfl,rfl⟩⟩,rfl,q'⟩
  | cons i r=>
    intro q'
    refine⟨.ref _,_,I.laid (t':=s.toks+1+1) (o:=.tup [.str (Builtin.Str.strSub z 0 i),.str y,.str (Builtin.Str.strSub z (i+y.length) z.length)]) (fun b ob q=>Heap.get?_push_of_some _ q) (Nat.le_refl _) ⟨by show 3≤sizeLine;decide,_,.cons ⟨_,rfl⟩ (.cons ⟨_,rfl⟩ (.cons ⟨_,rfl⟩ .nil)),IsTup.new _ _,fun _=>⟨_,Heap.get?_push_size _ rfl,rfl⟩⟩,rfl,q'⟩
theorem g0b:CallR X (.type "int") (fun xs H Q=>∃z n,xs=[.str z]∧PySem.intText? z=some n∧z.length≤640∧Q (.int n) H):=by
  intro pins s σ H xs us Q I rs h
  obtain⟨z,n,rfl,hn,hl,q⟩:=h
  obtain⟨u,rfl,ru⟩:=rs.one
  obtain⟨t,rfl⟩:=ru
  exact PySem.W.KIN.call_text hn hl ⟨.int _,H,I.tok _,⟨_,rfl⟩,q⟩
variable{m:Str}{pos apos:Pos}{e o:Expr}{es:List Expr}{ta:TE}{t:TA}{tx:TX}
end
end L2
namespace L2
open PySem PySem.Spec PyProof.Rows PySem.Builtin PySem.Builtin.Str
section
variable{X:Cx}
theorem vals_str:∀{ls:List Str} {its:List Value},Vals (ls.map V.str) its→∃l:List (Str × Tok),its=strValues l∧l.map (·.1)=ls
  | [],_,.nil=>⟨[],rfl,rfl⟩
  | x::ls,_,.cons r rs=>by
    obtain⟨t,rfl⟩:=r
    obtain⟨l,rfl,e⟩:=vals_str rs
    exact⟨(x,t)::l,rfl,by rw[List.map_cons,e]⟩
theorem vals_of:∀l:List (Str × Tok),Vals ((l.map (·.1)).map V.str) (strValues l)
  | []=>.nil
  | (x,t)::l=>.cons ⟨t,rfl⟩ (vals_of l)
def rJoin(K:PySem.W.Frag):V→List V→Hp→VK→Prop:=fun x xs H Q=>∃z a ls,x=.str z∧xs=[.ref a]∧SqL K H a (ls.map V.str)∧JoinOk z ls=true∧Q (.str (Txt.join z ls)) H
theorem mt_join:MtR X "str.join" (rJoin X.K):=by
  intro pins s σ H x xs v us Q I rx rs h
  obtain⟨z,a,ls,rfl,rfl,hq,ok,q⟩:=h
  obtain⟨t,rfl⟩:=rx
  obtain⟨u,rfl,ru⟩:=rs.one
  cases (show u=Value.ref a from ru)
  obtain⟨its,rv,p,hz⟩:=I.list hq
  obtain⟨l,rfl,e⟩:=vals_str rv
  exact PySem.SC.join (l:=l) p.isList e ok fun t' k=>⟨.str _,H,I.tok _,⟨_,rfl⟩,q⟩
def rSplit:V→List V→Hp→VK→Prop:=fun x xs H Q=>∃z y,x=.str z∧xs=[.str y]∧(y.length == 0)=false∧z.length≤sizeLine∧(partsBetween z (occurrences z y 0 z.length (z.length+1)) y.length).length≤sizeLine∧(Txt.split z y).length≤sizeLine∧∀p,H p=none→Q (.ref p) (upd H p (.lst ((Txt.split z y).map V.str)))
theorem mt_split:MtR X "str.split" rSplit:=by
  intro pins s σ H x xs v us Q I rx rs h
  obtain⟨z,y,rfl,rfl,hy,hz,hz2,hz3,q⟩:=h
  obtain⟨t,rfl⟩:=rx
  obtain⟨u,rfl,ru⟩:=rs.one
  obtain⟨t',rfl⟩:=ru
  have q':=q _ (I.hok.fresh (Nat.le_refl _))
  have fin:∀(l:List (Str × Tok)) (tk:Nat),l.map (·.1)=Txt.split z y→EP X pins σ Q (.ref s.heap.objs.size) { s with heap:=s.heap.push { cls:=.type "list",data:=.seq (strValues l).toArray },toks:=tk }:=fun l tk e=>
    ⟨.ref _,_,I.laid (t':=tk) (o:=.lst ((Txt.split z y).map V.str)) (fun b ob q=>Heap.get?_push_of_some _ q) (Nat.le_refl _) ⟨by rw[List.length_map];exact hz3,_,_,by rw[← e];exact vals_of l,Heap.get?_push_size _ rfl⟩,rfl,q'⟩
  unfold Txt.split at fin
  cases h1:(decide (z.length < y.length) || decide (strKind z < strKind y))
  · rw[h1]at fin
    cases hf:(occurrences z y 0 z.length (z.length+1)).isEmpty
    · rw[hf]at fin
      refine call_meets F.slot_str_split (typeIs_str _ _ _) F.entry_str_split (F.args_str_split_2 _ _) (meets_str_split_sep z y t t' h1 hy hf hz hz2) ?_
      show wants _ _ _ { s with toks:=_,heap:=s.heap.push { cls:=.type "list",data:=.seq (strsFrom s.toks (partsBetween z (occurrences z y 0 z.length (z.length+1)) y.length)).toArray } }
      rw[strsFrom_eq]
      exact fin (numbered s.toks _) _ (by rw[numbered_texts];rfl)
    · rw[hf]at fin
      exact call_meets F.slot_str_split (typeIs_str _ _ _) F.entry_str_split (F.args_str_split_2 _ _) (meets_str_split_not_found z y t t' h1 hy hf) (fin [(z,t)] s.toks rfl)
  · rw[h1]at fin
    exact call_meets F.slot_str_split (typeIs_str _ _ _) F.entry_str_split (F.args_str_split_2 _ _) (meets_str_split_cannot_occur z y t t' h1) (fin [(z,t)] s.toks rfl)
end
end L2
namespace L2
open PySem PySem.Spec PyProof.Rows PySem.Builtin PySem.Builtin.Str
section
variable{X:Cx}
end
end L2
namespace HT
open PySem PySem.Spec PyProof.Rows L2
section
variable{prog:Program}{w:World}{A:Around}{E:Value→Shared→Prop}{s:Shared}
theorem g0s{t sl:Addr}{items:Array Value}{vl vu:Value}{lo hi:Option Int}{Q:Value→Shared→Prop}(ht:IsTup s.heap t items)(hs:s.heap.IsSliceOf sl vl vu .none)(pl:IsPart vl lo)(pu:IsPart vu hi)
    (hw:sIx items.size 0 lo=0∧sIx items.size items.size hi=items.size) (h:Q (.ref t) s):wpAny (model prog w) A (getItem (.ref t) (.ref sl)) Q E s:=by
  obtain⟨os,hos,hcs,hds⟩:=id hs
  have hTs:s.TypeIs (.ref sl) "slice":=⟨os,hos,hcs⟩
  unfold getItem
  try with_reducible refine wpAny_holding ?_
  first | refine wpAny_bind (wpAny_pure ?_) | skip
  refine wpAny_bind (wpAny_sequenceKey ht.typeIs (by decide) ?_)
  refine wpAny_bind (wpAny_callSpecial?_slot (name:=Str.ofString "__getitem__") ht.typeIs PyProof.Rows.slot_tuple_getitem
    (wpAny_call_entry PyProof.Rows.slot_tuple_getitem ht.typeIs entry_tuple_getitem ?_ (args_tuple_getitem _ _)))
  show wpAny _ _ (Builtin.Tuple.tupleItemsOf (.ref t) >>= _) _ _ s
  refine wpAny_bind (tupleItemsOf_ ht ?_)
  refine wpAny_bind (wpAny_typeOf hTs ?_)
  rw[if_pos (by decide)]
  refine wpAny_bind (d0u hs pl pu ?_)
  rw[hw.1,hw.2]
  have hyes:((((0:Nat):Int) == 0 && (1:Int) == 1 && (items.size - 0) == items.size)=true):=by simp
  show wpAny _ _ (if((((0:Nat):Int) == 0 && (1:Int) == 1 && (items.size - 0) == items.size)=true)then _ else _) _ _ s
  rw[if_pos hyes]
  refine wpAny_bind (wpAny_bind (m:=typeOf (.ref t)) (wpAny_typeOf ht.typeIs (wpAny_pure ?_)))
  rw[if_pos (by decide)]
  refine wpAny_bind (wpAny_rule ?_)
  exact wpAny_pure ⟨_,rfl,wpAny_pure h⟩
end
end HT
namespace L2
open PySem PySem.Spec PyProof.Rows
def rSlTA(K:PySem.W.Frag):V→Option Int→Option Int→Hp→VK→Prop:=fun x lo hi H Q=>∃a xs,x=.ref a∧SqT K H a xs∧H a=some (.tup xs)∧
  ∀p H',Same H H'→H' p=some (.tup (cutV xs lo hi))→Q (.ref p) H'
theorem sl_tupA{X:Cx}:SlR X (rSlTA X.K):=by
  intro pins s σ H x v vl vu lo hi sl Q I rx hs pl pu h
  obtain⟨a,xs,rfl,hx,hx',q⟩:=h
  by_cases hw:HT.sIx xs.length 0 lo=0∧HT.sIx xs.length xs.length hi=xs.length
  · cases rx
    obtain⟨its,r,ht,hz⟩:=I.tuple hx
    have hlen:its.toArray.size=xs.length:=by rw[List.size_toArray];exact r.length.symm
    refine⟨"tuple",_,PyProof.Rows.slot_tuple_getitem.lookup,ht.typeIs,?_⟩
    refine HT.g0s ht hs pl pu (by rw[hlen];exact hw) ?_
    refine⟨.ref a,H,I,rfl,q a H (Same.refl _) ?_⟩
    rw[hx']
    unfold cutV
    rw[hw.1,hw.2,Nat.sub_zero,List.drop_zero,List.take_length]
  · exact sl_tup pins s σ H _ v vl vu lo hi sl Q I rx hs pl pu ⟨a,xs,rfl,hx,hw,fun p n=>q p _ (a0d n) a0b⟩
end L2
namespace L2
open PySem PySem.Spec PyProof.Rows
section
variable{prog:Program}{w:World}{A:Around}{E:Value→Shared→Prop}{s:Shared}
end
theorem lri_no_len:typeLookup (.type "list_reverseiterator") "__len__"=pure none:=by rw[typeLookup_type,builtinLookup_eq_fast];kernel_rfl
theorem slot_lri_hint:Slot "list_reverseiterator" "__length_hint__" "list_reverseiterator.__length_hint__":=
  .of (owner:="list_reverseiterator") (n:="__length_hint__") (by rw[typeLookup_type,builtinLookup_eq_fast];kernel_rfl) (by decide +kernel) (by decide +kernel) (by decide +kernel)
    (by first | exact .inl (by decide +kernel) | exact .inr (by decide +kernel)) (by rw[isSubtype_type];kernel_rfl)
section
variable{prog:Program}{w:World}{A:Around}{E:Value→Shared→Prop}{s:Shared}
theorem hint_lri{it l:Addr}{i:Int}{Q:Bool→Shared→Prop}(hit:s.heap.IsRevIter it l i)(h:Q false s):wpAny (model prog w) A (Builtin.List.listLengthHint (.ref it)) Q E s:=by
  unfold Builtin.List.listLengthHint
  refine wpAny_bind (wpAny_specialOf hit.typeIs lri_no_len ?_)
  show wpAny _ _ (specialOf (Value.ref it) (Str.ofString "__length_hint__") >>= _) _ _ _
  refine wpAny_bind (wpAny_specialOf hit.typeIs slot_lri_hint.lookup ?_)
  generalize hid:("list_reverseiterator.__length_hint__":String)=id0
  wp_delta
  rw[show splitId id0=some ("list_reverseiterator","__length_hint__")from by subst hid;decide +kernel]
  subst hid
  refine wpAny_bind (wpAny_isInstance hit.typeIs (b:=true) (by rw[isSubtype_type];kernel_rfl) ?_)
  refine wpAny_ite_split (fun hab=>absurd hab (by decide)) (fun _=>?_)
  refine wpAny_ite_split (fun _=>?_) (fun hab=>absurd (by decide +kernel) hab)
  refine wpAny_ite_split (fun hab=>absurd hab (by decide +kernel)) (fun _=>wpAny_pure h)
theorem ext_lri{R:Result→Shared→Prop}{it l:Addr}{items:Array Value}(hh:A.handled=none)(hit:s.heap.IsRevIter it l ((items.size:Int) - 1))(hl:s.heap.IsList l items)(hne:l≠it)
    (S:Addr) (res:Value) (c₀:Nat) (hS:s.heap.get? S=some { cls:=.type "list",data:=.seq #[] c₀ }) (h1S:S≠it) (h2S:S≠l)
    (hR:∀h' tk acc' c',(∀b o,b≠S→b≠it→s.heap.get? b=some o→h'.get? b=some o)→h'.get? S=some { cls:=.type "list",dict:=none,data:=.seq acc' c',slots:=#[] }→
      ItemsOf (fun i v=>items[items.size - 1 - i]? = some v) acc' items.size→R (.ok (.ret res)) { s with heap:=h',toks:=tk }) (hn:items.size≤sizeLine) :
    wpAny (model prog w) A.in1 (Builtin.List.listExtendWith (.ref S) (.ref it) res)
      (fun fin s'=>match fin with | .done f=>R (.ok f) s' | .again c'=>c'.quiet=true∧codeAny (model prog w) A c' R s') (fun e s'=>R (.error e) s') s:=by
  have W:=(Walks.listRev (prog:=prog) (w:=w) (A:=A.in1) hh it l hne items).toS
  unfold Builtin.List.listExtendWith
  refine wpAny_bind (wpAny_typeOf hit.typeIs ?_)
  have h1:Builtin.List.listSameRef (.ref S) (.ref it)=false:=by simp[Builtin.List.listSameRef,h1S]
  have h2:(Value.type "list_reverseiterator" == Value.type "list")=false:=by decide
  have h3:(Value.type "list_reverseiterator" == Value.type "tuple")=false:=by decide
  simp only[h1,h2,h3,Bool.or_false,Bool.false_eq_true,if_false]
  refine wpAny_bind (wpAny_pyIter_revIter hit ?_)
  refine wpAny_bind (wpAny_holding (hint_lri hit ?_))
  rw[if_neg (by decide +kernel)]
  refine wpAny_pure ⟨plainId_quiet F.plain_extend_loop _,codeAny_extend_loopS W hn _ (by simp[h1S,h2S]) _ items.size 0 _ _ _ rfl (Nat.zero_le _) ⟨Nat.zero_le _,(by simpa using hit),hl⟩ hS (ItemsOf.nil _) fun s' acc' c' hm hS' hacc=>?_⟩
  rw[Moved.eq_with hm]
  refine hR s'.heap s'.toks acc' c' (fun b ob hb hb' e=>hm.heap b ob (fun hmem=>?_) e) hS' hacc
  rcases List.mem_cons.mp hmem with e' | hmem
  · exact hb e'
  · exact hb' (List.mem_singleton.mp hmem)
theorem l0d{Q:Value→Shared→Prop}{it l:Addr}{items:Array Value}(hh:A.handled=none)(hit:s.heap.IsRevIter it l ((items.size:Int) - 1))(hl:s.heap.IsList l items)(hne:l≠it)(hn:items.size≤sizeLine)
    (hQ:∀h' tk acc' c',(∀b o,b≠it→s.heap.get? b=some o→h'.get? b=some o)→
      h'.get? s.heap.objs.size=some { cls:=.type "list",dict:=none,data:=.seq acc' c',slots:=#[] }→ItemsOf (fun i v=>items[items.size - 1 - i]? = some v) acc' items.size→Q (.ref s.heap.objs.size) { s with heap:=h',toks:=tk }) :
    wpAny (model prog w) A (call (.type "list") [.ref it]) Q E s:=by
  refine callType_codes (Q₁:=fun obj s₁=>obj=.ref s.heap.objs.size∧s₁={ s with heap:=s.heap.push { cls:=.type "list",data:=.seq #[] } }) F.called_list (F.typeCall_list_1 _) F.entry_list_init
    (code_list_new _ ⟨rfl,rfl⟩) fun obj s₁ h₁=>?_
  obtain⟨rfl,rfl⟩:=h₁
  have hS:(s.heap.push { cls:=.type "list",data:=.seq #[] }).get? s.heap.objs.size=some { cls:=.type "list",data:=.seq #[] }:=Heap.get?_push_size _ rfl
  have n1:s.heap.objs.size≠it:=by obtain⟨o,e,_⟩:=hit;exact Nat.ne_of_gt (Heap.lt_size e)
  have n2:s.heap.objs.size≠l:=by obtain⟨o,e,_⟩:=hl;exact Nat.ne_of_gt (Heap.lt_size e)
  refine⟨⟨_,hS,rfl⟩,F.args_list_init_2 _ _,?_⟩
  show wpAny _ _ (do let old ← Builtin.List.listItems (.ref s.heap.objs.size);Builtin.List.listUpdate (.ref s.heap.objs.size) (fun _=>#[]);letGo old.toList.reverse;Builtin.List.listExtendWith (.ref s.heap.objs.size) (.ref it) .none) _ _ _
  refine wpAny_bind ?_
  unfold Builtin.List.listItems
  refine wpAny_bind (wpAny_seqItems hS rfl (wpAny_pure ?_))
  show wpAny _ _ (updateSeq s.heap.objs.size (fun _=>#[]) >>= fun _=>letGo (#[]:Array Value).toList.reverse >>= fun _=>Builtin.List.listExtendWith (.ref s.heap.objs.size) (.ref it) .none) _ _ _
  refine wpAny_bind (wpAny_updateSeq hS rfl ?_)
  have hS₂:=Heap.get?_update_self (Obj.mapSeq (fun _=>(#[]:Array Value))) hS rfl
  have oth:∀b o,b≠s.heap.objs.size→s.heap.get? b=some o→((s.heap.push { cls:=.type "list",data:=.seq #[] }).update s.heap.objs.size (Obj.mapSeq (fun _=>(#[]:Array Value)))).get? b=some o:=
    fun b o hb e=>(Heap.get?_update_other _ _ (Ne.symm hb)).trans (Heap.get?_push_of_some _ e)
  refine wpAny_bind (wpAny_letGo ?_)
  refine ext_lri (A:=A.in1) hh (Heap.IsRevIter.at hit fun o e=>oth _ o (Ne.symm n1) e) (hl.at fun o e=>oth _ o (Ne.symm n2) e) hne _ .none _ hS₂ n1 n2 (fun h' tk acc' c' hk hS' hacc=>?_) hn
  exact⟨rfl,hQ h' tk acc' c' (fun b o hb e=>hk b o (Nat.ne_of_lt (Heap.lt_size e)) hb (oth b o (Nat.ne_of_lt (Heap.lt_size e)) e)) hS' hacc⟩
end
def tLRev(K:PySem.W.Frag)(ta:TA):TE:=fun σ H Q=>ta σ H fun vs H1=>∃a xs,vs=[.ref a]∧SqL K H1 a xs∧∀p,H1 p=none→Q (.ref p) (upd H1 p (.lst xs.reverse))
theorem pe_lrev{X:Cx}{a:Expr}{ta:TA}{p p' pos pos':Pos}(hc:X.calm=true)(hg:Gl X "list")(hm:X.mg "list"=none)(hg':Gl X "reversed")(hm':X.mg "reversed"=none)(ha:PA X [a] ta)
    (hs:starEach [a] X.env=[(false,eval a X.env)]:=by rfl) (hs':starEach [.Call (.Name "reversed" p') [a] [] pos'] X.env=[(false,eval (.Call (.Name "reversed" p') [a] [] pos') X.env)]:=by rfl) :
    PE X (.Call (.Name "list" p) [.Call (.Name "reversed" p') [a] [] pos'] [] pos) (tLRev X.K ta):=by
  intro pins s σ H Q I h
  refine wpAny_Call_Name_kw (g0y I hg hm boot_list ?_)
  refine PyProof.Rows.callWith_type1 ?_ hs' rfl
  rw[hs']
  refine Calls.spliced_cons ?_
  refine Call_ (g0y I hg' hm' boot_reversed (PyProof.Rows.callWith_type1 (thn (ha pos' pins s σ H _ I h) fun us s1 ⟨vs,H1,I1,r1,q1⟩=>?_) hs rfl))
  obtain⟨l,xs,e,hq,q⟩:=q1
  subst e
  cases r1 with
  | cons r rr=>
    cases rr
    cases r
    obtain⟨its,rv,pl,hz⟩:=I1.list hq
    have hl:=pl.isList
    have len:=rv.length
    refine call_reversed_list hl ?_
    refine Calls.spliced_nil ?_
    have ne:l≠s1.heap.objs.size:=by obtain⟨o,e,_⟩:=hl;exact Nat.ne_of_lt (Heap.lt_size e)
    have sz:(s1.heap.push (revObj l ((its.toArray.size:Int) - 1))).objs.size=s1.heap.objs.size+1:=Heap.size_push ..
    refine l0d (s:={ s1 with heap:=s1.heap.push (revObj l ((its.toArray.size:Int) - 1)) }) (I1.ok.hd hc) ⟨_,Heap.get?_push_size _ rfl,rfl,rfl⟩ (Heap.IsList.push hl _) ne (by simp;omega) fun h' tk acc' c' hk hS hacc=>?_
    have up:∀b o,s1.heap.get? b=some o→h'.get? b=some o:=fun b o e=>hk b o (Nat.ne_of_lt (Heap.lt_size e)) (Heap.get?_push_of_some _ e)
    have sz2:s1.heap.objs.size≤(s1.heap.push (revObj l ((its.toArray.size:Int) - 1))).objs.size:=by rw[sz];omega
    obtain⟨hsz,hit⟩:=hacc
    have ea:acc'=its.reverse.toArray:=by
      apply Array.ext'
      apply List.ext_getElem?
      intro j
      by_cases hj:j < its.length
      · have hv:=hit j (acc'[j]'(by rw[hsz];simpa using hj)) (by simp)
        simp only[List.size_toArray,List.getElem?_toArray]at hv
        rw[List.getElem?_reverse hj,hv]
        simp[hsz,hj]
      · rw[List.getElem?_eq_none (by simp[hsz];omega),List.getElem?_eq_none (by simp;omega)]
    subst ea
    exact⟨.ref _,_,I1.laid (t':=tk) up sz2 (show ObjOk X.prog X.w _ h' _ (.lst xs.reverse)from⟨by rw[List.length_reverse];exact hz,its.reverse,c',Vals.reverse rv,hS⟩),rfl,q _ (I1.hok.fresh sz2)⟩
end L2
namespace L2
open PySem PySem.Spec PyProof.Rows PySem.W
section
variable{X:Cx}{pins:List (Addr × Obj)}{σ:St}{H:Hp}{s:Shared}{a:Addr}{kvs:List (Key × V)}
end
theorem KV.at{κ:Type}{kvs:List (κ × V)}{vs:List (κ × Value)}(r:KV kvs vs){i:Nat}{p:κ × V}(h:kvs[i]? = some p):∃v,vs[i]? = some (p.1,v):=by
  induction r generalizing i with
  | nil=>cases h
  | cons e _ ih=>
    cases i with
    | zero=>cases h;exact⟨_,by rw[List.getElem?_cons_zero];exact congrArg some (Prod.ext e.1.symm rfl)⟩
    | succ i=>exact ih h
section
variable{X:Cx}{tg:Expr}
end
section
variable{X:Cx}
end
structure M0(X:Cx)(o:Expr)(m:Str)(apos cpos:Pos):Prop where
  base:attributeBase o m X.env (eval o X.env)=eval o X.env
  few:((backTo cpos (starEach [] X.env)).all (fun x=>!x.1) && (backToKw cpos (keywordEach [] X.env)).all (fun x=>x.1.isSome)
    && decide (([]:List Expr).length+([]:List Keyword).length+(if([]:List Keyword).isEmpty then 0 else 1) < 30))=true
  line:(apos.endLine == cpos.line)=true
end L2
namespace L2
open PySem PySem.Spec PyProof.Rows
def kvI(kvs:List (Str × Int)):List (Key × V):=kvs.map fun p=>(Sum.inr p.1,V.int p.2)
structure DictK(P:Program)(w:World)(K:PySem.W.Frag)(a:Addr)(kvs:List (Str × Int)):Prop where
  ns:(a == sysModules)=false
  of:∃vs,KV (kvI kvs) vs∧∀h,K.In h→h.DictOf (b0r P w) a vs
def tGK(a:Addr)(kvs:List (Str × Int))(td ty:TE):TE:=fun σ H Q=>td σ H fun x H1=>ty σ H1 fun y H2=>∃z v,x=.ref a∧y=.str z∧valV (kvI kvs) (.inr z)=some v∧Q v H2
def tNK(a:Addr)(kvs:List (Str × Int))(ty td:TE):TE:=fun σ H Q=>ty σ H fun y H1=>td σ H1 fun x H2=>∃z,x=.ref a∧y=.str z∧Q (.bl (!(valV (kvI kvs) (.inr z)).isSome)) H2
section
variable{X:Cx}{o i:Expr}{pos:Pos}{td ty:TE}{a:Addr}{kvs:List (Str × Int)}
theorem pe_gK(D:DictK X.prog X.w X.K a kvs)(ho:PE X o td)(hi:PE X i ty)(hs:NoSl i):PE X (.Subscript o i pos) (tGK a kvs td ty):=by
  intro pins s σ H Q I h
  refine subD_of PySem.F.slot_dict_getitem.lookup hs (thn (ho pins s σ H _ I h) fun u s1 ⟨x,H1,I1,rx,q1⟩=>thn (hi pins s1 σ H1 _ I1 q1) fun iv s2 ⟨y,H2,I2,ry,z,v,ex,ey,l,q2⟩=>?_)
  subst ex
  subst ey
  obtain rfl:u=Value.ref a:=rx
  obtain⟨vs,rel,dd⟩:=D.of
  have dd:=dd _ I2.kIn
  obtain⟨w',hw,rw'⟩:=RelO.some_of (v:=v) (o:=valueAt vs (.inr z)) (by rw[← l];exact rel.val (.inr z))
  exact⟨dd.typeIs,wpAny_getItem_of (kV_is (k:=.inr z) ry) dd.mapOf hw ⟨v,H2,I2.tok _,rw',q2⟩⟩
theorem pc_nK(D:DictK X.prog X.w X.K a kvs)(hi:PE X i ty)(ho:PE X o td):PC X .NotIn i o (tNK a kvs ty td):=by
  intro pins s σ H Q I h
  refine thn (hi pins s σ H _ I h) fun iv s1 ⟨y,H1,I1,ry,q1⟩=>thn (ho pins s1 σ H1 _ I1 q1) fun u s2 ⟨x,H2,I2,rx,z,ex,ey,q2⟩=>?_
  subst ex
  subst ey
  obtain rfl:u=Value.ref a:=rx
  obtain⟨vs,rel,dd⟩:=D.of
  have dd:=dd _ I2.kIn
  refine wpAny_notIn_of (kV_is (k:=.inr z) ry) D.ns dd.mapOf ?_
  rw[← (rel.val (.inr z)).isSome_eq]
  exact⟨.bl _,H2,I2.tok _,rfl,q2⟩
end
end L2
namespace L2
open PySem PySem.Spec PyProof.Rows
theorem sum_pairs:∀{ns:List Int} {its:List Value},Vals (ns.map V.int) its→∃xs:List (Int × Tok),its=xs.map (fun p=>Value.int p.1 p.2)∧xs.map (·.1)=ns
  | [],_,.nil=>⟨[],rfl,rfl⟩
  | n::ns,_,.cons ⟨t,e⟩ r=>by
    obtain⟨xs,e1,e2⟩:=sum_pairs r
    exact⟨(n,t)::xs,by rw[e,e1];rfl,by rw[← e2];rfl⟩
def rSumL(K:PySem.W.Frag):List V→Hp→VK→Prop:=fun xs H Q=>∃a,∃ns:List Int,xs=[.ref a]∧SqL K H a (ns.map V.int)∧Q (.int ns.sum) H
theorem call_sumL{X:Cx}(hc:X.calm=true):CallR X (.builtin "sum") (rSumL X.K):=by
  intro pins s σ H xs us Q I r h
  obtain⟨a,ns,rfl,hq,q⟩:=h
  obtain⟨u,rfl,ru⟩:=r.one
  cases (show u=Value.ref a from ru)
  obtain⟨its,rv,p,hz⟩:=I.list hq
  obtain⟨ps,e1,e2⟩:=sum_pairs rv
  have hl:s.heap.IsList a (intItems ps.toArray):=by
    have:=p.isList
    rw[e1]at this
    simpa [intItems] using this
  refine sum_intListG (I.ok.hd hc) hl fun h' tk t' hk=>?_
  have es:preSum (numAt ps.toArray) ps.toArray.size=ns.sum:=by
    rw[preSum_eq,List.take_of_length_le (by simp),← e2]
  rw[es]
  exact⟨.int _,H,I.kept (t':=tk) hk,⟨_,rfl⟩,q⟩
end L2
namespace L2
open PySem PySem.Spec PyProof.Rows
section
variable{X:Cx}{k:Nat}{f C:Addr}{fd:FuncData}{ps:List Str}{sp:Sp}{dvs:List V}{ds:List Value}{E:XK}{x m:Str}{p np cpos pos apos:Pos}{e o:Expr}{es:List Expr}{ta:TE}{t:TA}{tx:TX}
theorem pe_callX(R:Thru X E)(F:FnOk X.prog X.w X.K X.mg X.base (CX1 X.prog X.w) k f fd ps sp)(hr:Room k X.A)(hg:Gl X x)(hm:X.mg x=some (.ref f))(hk:PySem.W.keepIn X.K (.ref f)=true)(hb:Binds X.K fd ps ds)(hd:Vals dvs ds)
    (ha:PA X (e::es) t) (hdb:(x == ("__debug__":Str))=false:=by decide) (he:starEach (e::es) X.env=(false,eval e X.env)::starEach es X.env:=by rfl) (hpl:(backTo pos (starEach es X.env)).any (·.1)=false:=by rfl) :
    PE X (.Call (.Name x p) (e::es) [] pos) (fun σ H Q=>tCall sp dvs E t σ H Q):=by
  intro pins s σ H Q I h
  refine wpAny_Call_Name_kw (e0o I hg hm ?_ hdb)
  exact PySem.W.callWith_K (h₀:=X.base) I.ok.mod.kin hk (wpAny_mono (ha pos pins s σ H _ I h) (fun us s1 ⟨vs,H1,I1,r,q⟩=>⟨I1.kIn,wpAny_mono (run_fnX F hr hb hd I1 r q) (fun _ _ z=>z) fun _ _ z=>z.leave R⟩) fun _ _ z=>z) he hpl
theorem pe_methX{pl:Sem Bool}(R:Thru X E)(he:PE X o ta)(c:Cls X.K C)(hm:Meth X.K C m f)(F:FnOk X.prog X.w X.K X.mg X.base (CX1 X.prog X.w) k f fd ps sp)(hr:Room k X.A)(hb:Binds X.K fd ps ds)(hd:Vals dvs ds)(ha:PA X (e::es) t)
    (hst:starEach (e::es) X.env=(false,eval e X.env)::starEach es X.env:=by rfl) (hpl:(backTo pos (starEach es X.env)).any (·.1)=false:=by rfl)
    (ht:eval (.Call (.Attribute o m apos) (e::es) [] pos) X.env=(do
      let ov ← eval o X.env
      standAt apos.atName
      let(f,first) ← holding [ov] (getMethod ov m pl)
      callWith pos f first (backTo pos (starEach (e::es) X.env)) (backToKw pos (keywordEach [] X.env))):=by rfl) :
    PE X (.Call (.Attribute o m apos) (e::es) [] pos) (fun σ H Q=>tMeth C m sp dvs E ta t σ H Q):=by
  intro pins s σ H Q I h
  refine PySem.W.methodCall_KW (pl:=pl) (wpAny_mono (he pins s σ H _ I h) (fun u s1 ⟨x,H1,I1,rx,a,dx,fs,ex,ea,l,q⟩=>?_) fun _ _ z=>z) ht
  subst ex
  obtain rfl:u=Value.ref a:=rx
  refine j0h I1 ea c hm l ?_
  exact PySem.W.callWith_K (first:=[.ref a]) (h₀:=X.base) I.ok.mod.kin hm.kp (wpAny_mono (ha pos pins s1 σ H1 _ I1 q) (fun us s2 ⟨vs,H2,I2,r,q2⟩=>⟨I2.kIn,wpAny_mono (run_fnX (us:=.ref a::us) (vs:=.ref a::vs) F hr hb hd I2 (.cons rfl r) q2) (fun _ _ z=>z) fun _ _ z=>z.leave R⟩) fun _ _ z=>z) hst hpl
end
end L2
namespace L2
open PySem PySem.Spec PyProof.Rows PySem.W
structure Tb(mg:Str→Option Value)(h:Heap)(c P:Addr):Prop where
  cd:CodeHd h c P
  bl:h.BuiltinsAt mg P
  gl:mainGlobals≠P
section
variable{P:Program}{w:World}{H:Hp}{h h':Heap}{p:Addr}{ps qs:Array Value}
end
section
variable{X:Cx}{pins:List (Addr × Obj)}{σ:St}{H:Hp}{s:Shared}
theorem Tb.keeps{mg:Str→Option Value}{h h':Heap}{c P:Addr}(t:Tb mg h c P)(k:∀b o,h.get? b=some o→h'.get? b=some o):Tb mg h' c P:=
  ⟨t.cd.keeps k,let⟨bm,o,a1,a2,a3,a4,a5,r⟩:=t.bl;⟨bm,o,a1,a2,a3,a4,k _ _ a5,r⟩,t.gl⟩
end
section
variable{P:Program}{w:World}{K:PySem.W.Frag}{mg:Str→Option Value}{base:Heap}
end
def rIsxT(K:PySem.W.Frag):List V→Hp→VK→Prop:=fun xs H Q=>∃a C tp,∃(cs:List Addr),∃b,xs=[.ref a,.ref tp]∧H a=some (ExcO a C)∧ExcK K C∧H tp=some (.tup (cs.map V.ref))∧PySem.W.kitAny K (.ref C) (cs.map Value.ref)=some b∧Q (.bl b) H
theorem vals_refs:∀{cs:List Addr} {its:List Value},Vals (cs.map V.ref) its→its=cs.map Value.ref
  | [],_,.nil=>rfl
  | c::r,_,.cons e t=>by
    cases (show _=Value.ref c from e)
    rw[vals_refs t];rfl
theorem call_isxT{X:Cx}:CallR X (.builtin "isinstance") (rIsxT X.K):=by
  intro pins s σ H xs us Q I r h
  obtain⟨a,C,tp,cs,b,rfl,ea,ek,et,e,q⟩:=h
  cases r with
  | cons rx r1=>
    cases r1 with
    | cons ry r2=>
      cases r2
      cases (show _=Value.ref a from rx)
      cases (show _=Value.ref tp from ry)
      obtain⟨p,_,_⟩:=(show ObjOk X.prog X.w H s.heap a (ExcO a C)from I.hok a _ ea)
      obtain⟨_,its,rv,⟨o,eo,hc,n,hd⟩,_⟩:=(show ObjOk X.prog X.w H s.heap tp (.tup (cs.map V.ref))from I.hok tp _ et)
      cases vals_refs rv
      obtain⟨cl,dd,dt,sl⟩:=o
      cases hc
      cases hd
      exact PySem.W.kia_tup (Mine.kitx_exc ek.ga ek.gt ek.cl ek.ob ek.be) I.kIn p eo e (fun z=>nomatch z) fun tk=>⟨.bl b,H,I.tok _,rfl,q⟩
theorem j0m{X:Cx}(K:PySem.W.Frag)(h:X.K=K):CallR X (.builtin "isinstance") (rIsxT K):=h▸call_isxT
end L2
namespace L2
open PySem PySem.Spec PyProof.Rows
theorem h0i{xs:List V}{its:List Value}(r:Vals xs its):∀ix:List Nat,Vals (ix.filterMap (xs[·]?)) (ix.filterMap (its[·]?))
  | []=>.nil
  | j::ix=>by
    have l:=r.length
    cases e:xs[j]? with
    | none=>
      have e2:its[j]? = none:=by
        rw[List.getElem?_eq_none_iff]at e ⊢
        omega
      rw[List.filterMap_cons_none e,List.filterMap_cons_none e2]
      exact h0i r ix
    | some x=>
      obtain⟨u,hu,ru⟩:=r.get e
      rw[List.filterMap_cons_some e,List.filterMap_cons_some hu]
      exact .cons ru (h0i r ix)
end L2
namespace L2
open PySem PySem.Spec PyProof.Rows
theorem pick_lenR{xs:List V}:((sliceRange (sliceBounds none none (some (-1)) xs.length).1 (sliceBounds none none (some (-1)) xs.length).2.1 (sliceBounds none none (some (-1)) xs.length).2.2).filterMap (xs[·]?)).length≤xs.length:=by
  refine Nat.le_trans (List.length_filterMap_le _ _) (sliceRange_length_le _ _ _ xs.length (fun h=>absurd h (by unfold sliceBounds;simp)) (fun _=>?_))
  unfold sliceBounds
  simp
  try omega
theorem pe_rvL{X:Cx}{e st:Expr}{te ts:TE}{p2 pos:Pos}(he:PE X e te)(hst:PE X st ts):PE X (.Subscript e (.Slice none none (some st) p2) pos) (fun σ H Q=>te σ H fun x H1=>ts σ H1 fun z H3=>∃a xs,x=.ref a∧z=.int (-1)∧SqL X.K H3 a xs∧∀p ys,H3 p=none→(∀u∈ys,u∈xs)→ys.length≤xs.length→Q (.ref p) (upd H3 p (.lst ys))):=by
  intro pins s σ H Q I h
  refine Subscript_ (thn (he pins s σ H _ I h) fun v s1 ⟨x,H1,I1,r1,q1⟩=>?_)
  refine wpAny_Slice ?_
  rw[evalPart_none]
  refine wpAny_pure ?_
  refine wpAny_pure ?_
  show wpAny _ _ (eval st X.env) _ _ _
  refine thn (hst pins s1 σ H1 _ I1 q1) fun vk s3 ⟨z,H3,I3,r3,a,xs,ex,ez,hx,q⟩=>?_
  subst ex ez
  cases r1
  obtain⟨uk,rfl⟩:=r3
  have I4:Inv X pins σ H3 { s3 with heap:=s3.heap.push { cls:=.type "slice",data:=.fields #[.none,.none,.int (-1) uk] } }:=I3.kept (t':=s3.toks) fun b ob q=>Heap.get?_push_of_some _ q
  obtain⟨its,r,ht,hz⟩:=I4.list hx
  have hlen:=r.length
  refine tail_any (T:="list") (ops:=[.ref a,.ref s3.heap.objs.size]) ht.isList.typeIs slot_list_getitem.lookup (wpAny_getItem_list_slice ht.isList (Heap.IsSliceOf.new ..) .none .none (.int (-1) uk) (by intro z;cases z) ?_ (by rw[List.size_toArray] <;>omega)) (by with_unfolding_all rfl)
  have ea:slicePick its.toArray none none (some (-1))=((sliceRange (sliceBounds none none (some (-1)) xs.length).1 (sliceBounds none none (some (-1)) xs.length).2.1 (sliceBounds none none (some (-1)) xs.length).2.2).filterMap (its[·]?)).toArray:=by
    unfold slicePick
    rw[List.size_toArray,← hlen]
    simp only[List.getElem?_toArray]
  rw[ea]
  have rp:=h0i r (sliceRange (sliceBounds none none (some (-1)) xs.length).1 (sliceBounds none none (some (-1)) xs.length).2.1 (sliceBounds none none (some (-1)) xs.length).2.2)
  have pl:=pick_lenR (xs:=xs)
  have me:∀u∈(sliceRange (sliceBounds none none (some (-1)) xs.length).1 (sliceBounds none none (some (-1)) xs.length).2.1 (sliceBounds none none (some (-1)) xs.length).2.2).filterMap (xs[·]?),u∈xs:=fun u hu=>by
    obtain⟨j,_,hj⟩:=List.mem_filterMap.mp hu
    exact List.mem_of_getElem? hj
  revert rp pl me
  generalize sliceRange (sliceBounds none none (some (-1)) xs.length).1 (sliceBounds none none (some (-1)) xs.length).2.1 (sliceBounds none none (some (-1)) xs.length).2.2=ix
  intro rp pl me
  refine⟨.ref _,_,I4.laid (t':=s3.toks) (o:=.lst (ix.filterMap (xs[·]?))) (fun b ob q=>Heap.get?_push_of_some _ q) (Nat.le_refl _) ?_,rfl,q _ _ (I4.hok.fresh (Nat.le_refl _)) me pl⟩
  exact⟨by omega,_,0,rp,Heap.get?_push_size _ rfl⟩
end L2
namespace L2
open PySem PySem.Spec PyProof.Rows
def Itv(K:PySem.W.Frag)(a:Addr)(n:Nat):It:=
  ⟨fun i H=>i < n∧∃xs x,SqL K H a xs∧xs[n - 1 - i]? = some x,fun i H x H'=>H'=H∧∀xs,SqL K H a xs→xs[n - 1 - i]? = some x,fun i _=>i=n⟩
theorem turn_rvl{P:Program}{w:World}{K:PySem.W.Frag}{tg:Expr}(a it:Addr)(n:Nat):Turn P w K tg (Itv K a n) [it] it (fun i h=>h.IsRevIter it a ((n:Int) - 1 - (i:Int)))where
  mem:=by simp
  obj:=fun i h st b hb=>by
    have e:b=it:=by simpa using hb
    subst e
    obtain⟨o,e,c,d⟩:=st
    exact⟨o,e,fun v z=>by rw[d]at z;cases z⟩
  keep:=fun i h h' st k=>st.at fun o e=>k it (by simp) o e
  item:=by
    intro X hP hw hK hc i pins s σ H E I hf st hg
    subst hP hw hK
    obtain⟨hi,xs,x,hq,hx⟩:=hg
    obtain⟨its,rv,p,hz⟩:=I.list hq
    obtain⟨u,hu,ru⟩:=rv.get hx
    obtain⟨f0,f1,f2,f3,f4,f5⟩:=hf it (by simp)
    have e1:((n:Int) - 1 - i)=((n - 1 - i:Nat):Int):=by omega
    rw[e1]at st
    refine wpAny_pyNext_rev_item st p.isList (x:=u) (by simpa using hu) fun h' st' sb=>?_
    have I1:Inv X pins σ H { s with heap:=h' }:=I.turned (t':=s.toks) (fun b o hb e=>(sb.2 b hb).trans e) f0 f1 f3 f4 f5
    obtain⟨o,e,c,d⟩:=id st'
    have e2:((n - 1 - i:Nat):Int) - 1=(n:Int) - 1 - ((i+1:Nat):Int):=by omega
    rw[e2]at st'
    exact⟨u,rfl,go_of (s:={ s with heap:=h' }) e c d (by decide) ⟨x,H,I1,ru,⟨rfl,fun ys hy=>by rw[I.list_inj hy hq];exact hx⟩,st',fun b hb=>(hf b hb).1⟩⟩
  done:=by
    intro X hP hw hK hc i pins s σ H E I hf st hg
    subst hP hw hK
    have hg:i=n:=hg
    obtain⟨f0,f1,f2,f3,f4,f5⟩:=hf it (by simp)
    have e:(n:Int) - 1 - i = -1:=by omega
    rw[e]at st
    exact wpAny_pyNext_rev_end (I.ok.hd hc) st fun h' eb=>⟨rfl,I.turned (t':=s.toks) (fun b o hb e=>eb b o hb e) f0 f1 f3 f4 f5⟩
  self:=fun _ _ _ _ _ st h=>wpAny_pyIter_revIter st h
def iRevL(K:PySem.W.Frag)(ta:TA):TI:=fun σ H R=>ta σ H fun vs H1=>∃a xs,vs=[.ref a]∧SqL K H1 a xs∧R (Itv K a xs.length) H1
theorem pi_revL{X:Cx}{tg a:Expr}{ta:TA}{p pos:Pos}(hg:Gl X "reversed")(hm:X.mg "reversed"=none)(ha:PA X [a] ta)(hs:starEach [a] X.env=[(false,eval a X.env)]:=by rfl) :
    PI X tg (.Call (.Name "reversed" p) [a] [] pos) (iRevL X.K ta):=by
  intro pins s σ H R I h
  refine Call_ (g0y I hg hm boot_reversed (PyProof.Rows.callWith_type1 (thn (ha pos pins s σ H _ I h) fun us s1 ⟨vs,H1,I1,r1,q1⟩=>?_) hs rfl))
  obtain⟨l,xs,e,hq,q⟩:=q1
  subst e
  cases r1 with
  | cons r rr=>
    cases rr
    cases r
    obtain⟨its,rv,pl,hz⟩:=I1.list hq
    have len:=rv.length
    refine call_reversed_list pl.isList ?_
    have hit:(s1.heap.push (revObj l ((its.toArray.size:Int) - 1))).IsRevIter s1.heap.objs.size l ((its.toArray.size:Int) - 1):=⟨_,Heap.get?_push_size _ rfl,rfl,rfl⟩
    refine wpAny_pyIter_revIter hit ⟨_,[s1.heap.objs.size],_,Itv X.K l xs.length,H1,rfl,I1.kept (t':=s1.toks) fun b o e=>Heap.get?_push_of_some _ e,turn_rvl l _ _,?_,fun b hb=>?_,q⟩
    · have e:((its.toArray.size:Int) - 1)=(xs.length:Int) - 1 - ((0:Nat):Int):=by rw[List.size_toArray,← len];omega
      rw[e]at hit ⊢
      exact hit
    · have e:b=s1.heap.objs.size:=by simpa using hb
      subst e
      exact I1.fpOk (Nat.le_refl _) (I1.hok.fresh (Nat.le_refl _))
end L2
set_option maxHeartbeats 0
lay_quick PySem.Challenge.pw_weighwalk_k84_odd_sayings
namespace H84
open PySem PySem.W
noncomputable section
abbrev q0:=SL.s658472552662922059x5
abbrev q1:=SL.s14018661285674007319x4
abbrev q2:=SL.s7097527257260152453x26
abbrev q3:=SL.s6070975301684473832x10
abbrev q4:=SL.s11030030927630378310x26
abbrev q5:=SL.s10062305145149207511x16
abbrev q6:=SL.s17162191345867700912x4
abbrev q7:=SL.s5946037652744460706x9
abbrev q8:=SL.s4278001404047624695x13
abbrev q9:=SL.s2742458400755230247x6
abbrev q10:=SL.s4209523147560561109x18
abbrev q11:=SL.s14755015743595814543x17
abbrev q12:=SL.s4290257624100764138x5
abbrev q13:=SL.s4860613602091757760x24
abbrev q14:=SL.s11443829558043349243x14
def i(n:Int):Value:=.int n 0
def r(n:Addr):Value:=.ref n
def tu(a:Array Value)(n:Nat):Obj:=⟨.type SL.s2766695959194262286x5,none,.seq a n,#[]⟩
def co(a:Array Value):Obj:=⟨.type SL.s5856160107412720595x4,none,.fields a,#[]⟩
def fo(n q:Str)(s:Stmt)(m c:Value):Obj:=⟨.type SL.s7174869446012820540x8,none,.func ⟨n,q,L2.c0h s,.stmts (L2.c0a s),L2.a0k s,3,[],.none,.none,.none,m,none,c,.none,0⟩,#[]⟩
def f0(n q:Str)(s:Stmt):Obj:=⟨.none,none,.func ⟨n,q,L2.c0h s,.stmts (L2.c0a s),L2.a0k s,0,[],.none,.none,.none,.none,none,.none,.none,0⟩,#[]⟩
abbrev nd:=@BT.node
abbrev nl:=BT.nil
abbrev lf(x:Obj):BT:=.node x .nil .nil
abbrev kh:=@PySem.PyData.keyHash
def topT(i:Nat):Stmt:=Fast.tw5666497643892974332.main.body.getD i (.Pass ⟨0,0,0,0⟩)
def s0:Str:=⟨⟨[60,109,111,100,117,108,101,62]⟩⟩
def s1:Str:=⟨⟨[47,99,108,97,105,109,47,99,117,116,46,112,121]⟩⟩
def s2:Str:=⟨⟨[95,95,109,97,105,110,95,95]⟩⟩
def s3:Str:=⟨⟨[95,95,110,97,109,101,95,95]⟩⟩
def s4:Str:=⟨⟨[119,101,105,103,104,119,97,108,107,46,107,105,110,100,115]⟩⟩
def s5:Str:=⟨⟨[95,95,100,111,99,95,95]⟩⟩
def s6:Str:=⟨⟨[95,95,112,97,99,107,97,103,101,95,95]⟩⟩
def s7:Str:=⟨⟨[95,95,108,111,97,100,101,114,95,95]⟩⟩
def s8:Str:=⟨⟨[95,95,115,112,101,99,95,95]⟩⟩
def s9:Str:=⟨⟨[95,95,97,110,110,111,116,97,116,105,111,110,115,95,95]⟩⟩
def s10:Str:=⟨⟨[95,95,98,117,105,108,116,105,110,115,95,95]⟩⟩
def s11:Str:=⟨⟨[95,95,102,105,108,101,95,95]⟩⟩
def s12:Str:=⟨⟨[95,95,99,97,99,104,101,100,95,95]⟩⟩
def s13:Str:=⟨⟨[95,119,97,108,108]⟩⟩
def s14:Str:=⟨⟨[87,101,105,103,104,69,114,114,111,114]⟩⟩
def s15:Str:=⟨⟨[78,111,75,105,110,100]⟩⟩
def s16:Str:=⟨⟨[87,114,111,110,103,75,105,110,100]⟩⟩
def s17:Str:=⟨⟨[78,111,87,101,105,103,104,116]⟩⟩
def s18:Str:=⟨⟨[78,111,87,111,114,100]⟩⟩
def s19:Str:=⟨⟨[85,110,108,105,107,101]⟩⟩
def s20:Str:=⟨⟨[78,111,67,108,111,115,117,114,101]⟩⟩
def s21:Str:=⟨⟨[84,111,111,71,114,101,97,116]⟩⟩
def s22:Str:=⟨⟨[78,111,84,101,120,116]⟩⟩
def s23:Str:=⟨⟨[78,111,78,97,109,101]⟩⟩
def s24:Str:=⟨⟨[78,111,82,111,119]⟩⟩
def s25:Str:=⟨⟨[105,115,95,119,111,114,100]⟩⟩
def s26:Str:=⟨⟨[105,115,95,119,104,111,108,101]⟩⟩
def s27:Str:=⟨⟨[100,105,118,105,115,111,114]⟩⟩
def s28:Str:=⟨⟨[102,114,97,99,116,105,111,110]⟩⟩
def s29:Str:=⟨⟨[105,115,95,112,114,105,109,101]⟩⟩
def s30:Str:=⟨⟨[70,73,71,85,82,69,83]⟩⟩
def s31:Str:=⟨⟨[48,49,50,51,52,53,54,55,56,57]⟩⟩
def s32:Str:=⟨⟨[77,79,83,84,95,70,73,71,85,82,69,83]⟩⟩
def s33:Str:=⟨⟨[71,82,69,65,84,69,83,84,95,80,82,73,77,69]⟩⟩
def s34:Str:=⟨⟨[105,115,95,119,114,105,116,116,101,110]⟩⟩
def s35:Str:=⟨⟨[114,101,97,100,95,119,104,111,108,101]⟩⟩
def s36:Str:=⟨⟨[110,101,101,100,95,116,101,120,116]⟩⟩
def s37:Str:=⟨⟨[75,105,110,100]⟩⟩
def s38:Str:=⟨⟨[107]⟩⟩
def s39:Str:=⟨⟨[95,95,109,111,100,117,108,101,95,95]⟩⟩
def s40:Str:=⟨⟨[119,101,105,103,104,119,97,108,107,46,101,114,114,111,114,115]⟩⟩
def s41:Str:=⟨⟨[95,95,113,117,97,108,110,97,109,101,95,95]⟩⟩
def s42:Str:=⟨⟨[95,95,102,105,114,115,116,108,105,110,101,110,111,95,95]⟩⟩
def s43:Str:=⟨⟨[95,95,115,116,97,116,105,99,95,97,116,116,114,105,98,117,116,101,115,95,95]⟩⟩
def s44:Str:=⟨⟨[95,95,119,101,97,107,114,101,102,95,95]⟩⟩
def s45:Str:=⟨⟨[119,101,105,103,104,119,97,108,107,46,109,97,99,104,105,110,101,115]⟩⟩
def s46:Str:=⟨⟨[116,104,105,110,103]⟩⟩
def s47:Str:=⟨⟨[119,101,105,103,104,119,97,108,107,46,114,97,116,105,111,115]⟩⟩
def s48:Str:=⟨⟨[111,110,101]⟩⟩
def s49:Str:=⟨⟨[111,116,104,101,114]⟩⟩
def s50:Str:=⟨⟨[103,114,101,97,116,101,115,116]⟩⟩
def s51:Str:=⟨⟨[114,101,115,116]⟩⟩
def s52:Str:=⟨⟨[108,101,102,116]⟩⟩
def s53:Str:=⟨⟨[116,111,112]⟩⟩
def s54:Str:=⟨⟨[98,111,116,116,111,109]⟩⟩
def s55:Str:=⟨⟨[115,104,97,114,101,100]⟩⟩
def s56:Str:=⟨⟨[110,117,109,98,101,114]⟩⟩
def s57:Str:=⟨⟨[102,97,99,116,111,114]⟩⟩
def s58:Str:=⟨⟨[116,101,120,116]⟩⟩
def s59:Str:=⟨⟨[95,95,100,105,99,116,95,95]⟩⟩
def s60:Str:=⟨⟨[119,101,105,103,104,119,97,108,107,46,115,97,121,105,110,103,115]⟩⟩
def s61:Str:=⟨⟨[70,105,101,108,100]⟩⟩
def s62:Str:=⟨⟨[80,105,99,107,105,110,103]⟩⟩
def s63:Str:=⟨⟨[70,114,97,99,116,105,111,110,115]⟩⟩
def s64:Str:=⟨⟨[82,101,115,105,100,117,101,115]⟩⟩
def s65:Str:=⟨⟨[67,111,115,116,115]⟩⟩
def s66:Str:=⟨⟨[84,114,117,116,104,115]⟩⟩
def s67:Str:=⟨⟨[77,79,83,84,95,80,65,82,84,83]⟩⟩
def s68:Str:=⟨⟨[77,79,83,84,95,72,73,71,72]⟩⟩
def s69:Str:=⟨⟨[105,115,95,102,105,101,108,100]⟩⟩
def s70:Str:=⟨⟨[112,105,99,107,115]⟩⟩
def s71:Str:=⟨⟨[115,101,108,102]⟩⟩
def s72:Str:=⟨⟨[70,105,101,108,100,46,105,115,95,102,105,101,108,100]⟩⟩
def s73:Str:=⟨⟨[70,105,101,108,100,46,112,105,99,107,115]⟩⟩
def s74:Str:=⟨⟨[109,105,110,117,115]⟩⟩
def s75:Str:=⟨⟨[105,110,118,101,114,115,101]⟩⟩
def s76:Str:=⟨⟨[80,105,99,107,105,110,103,46,105,115,95,102,105,101,108,100]⟩⟩
def s77:Str:=⟨⟨[80,105,99,107,105,110,103,46,112,105,99,107,115]⟩⟩
def s78:Str:=⟨⟨[120]⟩⟩
def s79:Str:=⟨⟨[80,105,99,107,105,110,103,46,109,105,110,117,115]⟩⟩
def s80:Str:=⟨⟨[80,105,99,107,105,110,103,46,105,110,118,101,114,115,101]⟩⟩
def s81:Str:=⟨⟨[116,111,108,100]⟩⟩
def s82:Str:=⟨⟨[110,111,117,103,104,116]⟩⟩
def s83:Str:=⟨⟨[112,108,117,115]⟩⟩
def s84:Str:=⟨⟨[116,105,109,101,115]⟩⟩
def s85:Str:=⟨⟨[105,115,95,119,101,105,103,104,116]⟩⟩
def s86:Str:=⟨⟨[115,104,111,119,110]⟩⟩
def s87:Str:=⟨⟨[114,101,97,100]⟩⟩
def s88:Str:=⟨⟨[70,114,97,99,116,105,111,110,115,46,116,111,108,100]⟩⟩
def s89:Str:=⟨⟨[70,114,97,99,116,105,111,110,115,46,110,111,117,103,104,116]⟩⟩
def s90:Str:=⟨⟨[70,114,97,99,116,105,111,110,115,46,111,110,101]⟩⟩
def s91:Str:=⟨⟨[121]⟩⟩
def s92:Str:=⟨⟨[70,114,97,99,116,105,111,110,115,46,112,108,117,115]⟩⟩
def s93:Str:=⟨⟨[70,114,97,99,116,105,111,110,115,46,116,105,109,101,115]⟩⟩
def s94:Str:=⟨⟨[70,114,97,99,116,105,111,110,115,46,109,105,110,117,115]⟩⟩
def s95:Str:=⟨⟨[70,114,97,99,116,105,111,110,115,46,105,110,118,101,114,115,101]⟩⟩
def s96:Str:=⟨⟨[70,114,97,99,116,105,111,110,115,46,105,115,95,119,101,105,103,104,116]⟩⟩
def s97:Str:=⟨⟨[70,114,97,99,116,105,111,110,115,46,115,104,111,119,110]⟩⟩
def s98:Str:=⟨⟨[112,105,101,99,101,115]⟩⟩
def s99:Str:=⟨⟨[70,114,97,99,116,105,111,110,115,46,114,101,97,100]⟩⟩
def s100:Str:=⟨⟨[95,95,105,110,105,116,95,95]⟩⟩
def s101:Str:=⟨⟨[112,114,105,109,101]⟩⟩
def s102:Str:=⟨⟨[82,101,115,105,100,117,101,115,46,95,95,105,110,105,116,95,95]⟩⟩
def s103:Str:=⟨⟨[82,101,115,105,100,117,101,115,46,116,111,108,100]⟩⟩
def s104:Str:=⟨⟨[82,101,115,105,100,117,101,115,46,110,111,117,103,104,116]⟩⟩
def s105:Str:=⟨⟨[82,101,115,105,100,117,101,115,46,111,110,101]⟩⟩
def s106:Str:=⟨⟨[82,101,115,105,100,117,101,115,46,112,108,117,115]⟩⟩
def s107:Str:=⟨⟨[82,101,115,105,100,117,101,115,46,116,105,109,101,115]⟩⟩
def s108:Str:=⟨⟨[82,101,115,105,100,117,101,115,46,109,105,110,117,115]⟩⟩
def s109:Str:=⟨⟨[82,101,115,105,100,117,101,115,46,105,110,118,101,114,115,101]⟩⟩
def s110:Str:=⟨⟨[82,101,115,105,100,117,101,115,46,105,115,95,119,101,105,103,104,116]⟩⟩
def s111:Str:=⟨⟨[82,101,115,105,100,117,101,115,46,115,104,111,119,110]⟩⟩
def s112:Str:=⟨⟨[82,101,115,105,100,117,101,115,46,114,101,97,100]⟩⟩
def s113:Str:=⟨⟨[67,111,115,116,115,46,116,111,108,100]⟩⟩
def s114:Str:=⟨⟨[67,111,115,116,115,46,110,111,117,103,104,116]⟩⟩
def s115:Str:=⟨⟨[67,111,115,116,115,46,111,110,101]⟩⟩
def s116:Str:=⟨⟨[67,111,115,116,115,46,112,108,117,115]⟩⟩
def s117:Str:=⟨⟨[67,111,115,116,115,46,116,105,109,101,115]⟩⟩
def s118:Str:=⟨⟨[67,111,115,116,115,46,105,115,95,119,101,105,103,104,116]⟩⟩
def s119:Str:=⟨⟨[67,111,115,116,115,46,115,104,111,119,110]⟩⟩
def s120:Str:=⟨⟨[67,111,115,116,115,46,114,101,97,100]⟩⟩
def s121:Str:=⟨⟨[84,114,117,116,104,115,46,116,111,108,100]⟩⟩
def s122:Str:=⟨⟨[84,114,117,116,104,115,46,110,111,117,103,104,116]⟩⟩
def s123:Str:=⟨⟨[84,114,117,116,104,115,46,111,110,101]⟩⟩
def s124:Str:=⟨⟨[84,114,117,116,104,115,46,112,108,117,115]⟩⟩
def s125:Str:=⟨⟨[84,114,117,116,104,115,46,116,105,109,101,115]⟩⟩
def s126:Str:=⟨⟨[84,114,117,116,104,115,46,105,115,95,119,101,105,103,104,116]⟩⟩
def s127:Str:=⟨⟨[84,114,117,116,104,115,46,115,104,111,119,110]⟩⟩
def s128:Str:=⟨⟨[84,114,117,116,104,115,46,114,101,97,100]⟩⟩
def s129:Str:=⟨⟨[87,73,84,72,73,78]⟩⟩
def s130:Str:=⟨⟨[110,105,108]⟩⟩
def s131:Str:=⟨⟨[119,111,114,100]⟩⟩
def s132:Str:=⟨⟨[115,117,109]⟩⟩
def s133:Str:=⟨⟨[116,104,101,110]⟩⟩
def s134:Str:=⟨⟨[98,111,116,104]⟩⟩
def s135:Str:=⟨⟨[98,97,99,107]⟩⟩
def s136:Str:=⟨⟨[115,116,97,114]⟩⟩
def s137:Str:=⟨⟨[108,97,119,95,119,101,105,103,104,119,97,108,107,95,107,56,52,95,111,100,100,95,115,97,121,105,110,103,115]⟩⟩
def s138:Str:=⟨⟨[115,97,121,105,110,103,115,95,119,105,116,104,105,110]⟩⟩
def s139:Str:=⟨⟨[114,101,97,100,95,119,111,114,100]⟩⟩
def s140:Str:=⟨⟨[110,101,120,116,95,112,105,101,99,101]⟩⟩
def s141:Str:=⟨⟨[114,101,97,100,95,112,105,101,99,101,115]⟩⟩
def s142:Str:=⟨⟨[112,97,114,116,115,95,119,105,116,104,105,110]⟩⟩
def s143:Str:=⟨⟨[114,101,97,100,95,115,97,121,105,110,103]⟩⟩
def s144:Str:=⟨⟨[95,108,97,119,95,110,101,120,116]⟩⟩
def s145:Str:=⟨⟨[95,108,97,119,95,115,116,97,116,101]⟩⟩
def s146:Str:=⟨⟨[95,108,97,119,95,100,105,118,105,115,111,114]⟩⟩
def s147:Str:=⟨⟨[95,108,97,119,95,108,111,119]⟩⟩
def s148:Str:=⟨⟨[95,108,97,119,95,110,111,117,103,104,116]⟩⟩
def s149:Str:=⟨⟨[95,108,97,119,95,115,111,114,116]⟩⟩
def s150:Str:=⟨⟨[95,108,97,119,95,107,105,110,100]⟩⟩
def s151:Str:=⟨⟨[95,108,97,119,95,119,101,105,103,104,116]⟩⟩
def s152:Str:=⟨⟨[95,108,97,119,95,108,101,116,116,101,114,115]⟩⟩
def s153:Str:=⟨⟨[95,108,97,119,95,115,104,111,119,110,95,119,101,105,103,104,116]⟩⟩
def s154:Str:=⟨⟨[95,108,97,119,95,116,101,120,116,115]⟩⟩
def s155:Str:=⟨⟨[95,108,97,119,95,115,97,121,105,110,103]⟩⟩
def s156:Str:=⟨⟨[95,108,97,119,95,119,104,111,108,101]⟩⟩
def s157:Str:=⟨⟨[95,108,97,119,95,114,101,97,100,95,119,101,105,103,104,116]⟩⟩
def s158:Str:=⟨⟨[95,108,97,119,95,119,111,114,100,95,111,102]⟩⟩
def s159:Str:=⟨⟨[95,108,97,119,95,105,116,101,109,115]⟩⟩
def s160:Str:=⟨⟨[95,108,97,119,95,100,117,101]⟩⟩
def s161:Str:=⟨⟨[95,108,97,119,95,115,112,111,105,108,101,100]⟩⟩
def s162:Str:=⟨⟨[95,108,97,119,95,98,97,108,97,110,99,101,100]⟩⟩
def s163:Str:=⟨⟨[95,108,97,119,95,100,114,97,119,110]⟩⟩
def s164:Str:=⟨⟨[95,108,97,119,95,114,101,97,100]⟩⟩
def s165:Str:=⟨⟨[108,97,119]⟩⟩
def s166:Str:=⟨⟨[115,97,121,105,110,103]⟩⟩
def s167:Str:=⟨⟨[108,101,116,116,101,114,115]⟩⟩
def s168:Str:=⟨⟨[107,105,110,100]⟩⟩
def s169:Str:=⟨⟨[104,105,103,104]⟩⟩
def s170:Str:=⟨⟨[102,111,114,109]⟩⟩
def s171:Str:=⟨⟨[99,111,117,110,116]⟩⟩
def s172:Str:=⟨⟨[95,108,97,119,95,115,116,97,116,101,95,104,101,114,101]⟩⟩
def s173:Str:=⟨⟨[95,108,97,119,95,109,97,110,121]⟩⟩
def s174:Str:=⟨⟨[95,108,97,119,95,102,111,117,110,100]⟩⟩
def s175:Str:=⟨⟨[95,108,97,119,95,115,99,114,105,112,116]⟩⟩
def s176:Str:=⟨⟨[95,108,97,119,95,115,101,101,100]⟩⟩
def s177:Str:=⟨⟨[95,108,97,119,95,99,101,108,108]⟩⟩
def s178:Str:=⟨⟨[95,108,97,119,95,111,110,101]⟩⟩
def s179:Str:=⟨⟨[95,108,97,119,95,111,116,104,101,114]⟩⟩
def s180:Str:=⟨⟨[95,108,97,119,95,116,111,112]⟩⟩
def s181:Str:=⟨⟨[95,108,97,119,95,98,111,116,116,111,109]⟩⟩
def s182:Str:=⟨⟨[95,108,97,119,95,98,121]⟩⟩
def s183:Str:=⟨⟨[95,108,97,119,95,115,111,114,116,95,104,101,114,101]⟩⟩
def s184:Str:=⟨⟨[95,108,97,119,95,112,114,105,109,101]⟩⟩
def s185:Str:=⟨⟨[95,108,97,119,95,120]⟩⟩
def s186:Str:=⟨⟨[95,108,97,119,95,115,97,121,105,110,103,95,104,101,114,101]⟩⟩
def s187:Str:=⟨⟨[95,108,97,119,95,116,101,120,116,115,95,104,101,114,101]⟩⟩
def s188:Str:=⟨⟨[95,108,97,119,95,108,101,116,116,101,114,115,95,104,101,114,101]⟩⟩
def s189:Str:=⟨⟨[95,108,97,119,95,100,101,101,112]⟩⟩
def s190:Str:=⟨⟨[95,108,97,119,95,119,97,121]⟩⟩
def s191:Str:=⟨⟨[95,108,97,119,95,119,111,114,100]⟩⟩
def s192:Str:=⟨⟨[95,108,97,119,95,107]⟩⟩
def s193:Str:=⟨⟨[95,108,97,119,95,116,101,120,116]⟩⟩
def s194:Str:=⟨⟨[95,108,97,119,95,102,105,103,117,114,101,115]⟩⟩
def s195:Str:=⟨⟨[95,108,97,119,95,115,105,103,110]⟩⟩
def s196:Str:=⟨⟨[95,108,97,119,95,110,117,109,98,101,114]⟩⟩
def s197:Str:=⟨⟨[95,108,97,119,95,105,116,101,109,115,95,104,101,114,101]⟩⟩
def s198:Str:=⟨⟨[95,108,97,119,95,97,116]⟩⟩
def s199:Str:=⟨⟨[95,108,97,119,95,102,111,114,109]⟩⟩
def s200:Str:=⟨⟨[95,108,97,119,95,116,111,108,100]⟩⟩
def s201:Str:=⟨⟨[95,108,97,119,95,109,101,110,117]⟩⟩
def s202:Str:=⟨⟨[95,108,97,119,95,98,111,116,104]⟩⟩
def s203:Str:=⟨⟨[95,108,97,119,95,115,112,111,116]⟩⟩
def s204:Str:=⟨⟨[95,108,97,119,95,111,108,100]⟩⟩
def s205:Str:=⟨⟨[95,108,97,119,95,110,101,119]⟩⟩
def s206:Str:=⟨⟨[95,108,97,119,95,116,97,108,108]⟩⟩
def s207:Str:=⟨⟨[95,108,97,119,95,107,105,110,100,95,104,101,114,101]⟩⟩
def s208:Str:=⟨⟨[95,108,97,119,95,116,104,105,110,103]⟩⟩
def s209:Str:=⟨⟨[95,108,97,119,95,107,105,110,100,115]⟩⟩
def s210:Str:=⟨⟨[101]⟩⟩
def s211:Str:=⟨⟨[95,108,97,119,95,111,116,104,101,114,115]⟩⟩
def s212:Str:=⟨⟨[95,108,97,119,95,114,101,102,117,115,101,100]⟩⟩
def s213:Str:=⟨⟨[95,108,97,119,95,100,117,101,95,104,101,114,101]⟩⟩
def o11a:Obj:=tu #[] 0
def o12a:Obj:=⟨.none,none,.fields #[],#[]⟩
def o13a:Obj:=co #[.str s0 182,.str s0 183,.str s1 184,i 1,i 0,i 0,i 0,i 0,r 11,.bool false,i 181,r 12,.none,.none,.none,.none,i 185,i 1,.str s1 186]
def o14a:Obj:=⟨.type q0,none,.plain,#[some (r 13),some (r 3),some (r 3),none,some (.str s2 164),none,some (r 0)]⟩
def o3_0(P:Params):Obj:=⟨.type q1,none,.dict #[⟨kh P s3,.str s3 165,.str s4 419⟩,⟨kh P s5,.str s5 166,.none⟩,⟨kh P s6,.str s6 167,.none⟩,⟨kh P s7,.str s7 168,.builtin q2⟩,⟨kh P s8,.str s8 169,.none⟩,⟨kh P s9,.str s9 170,r 6⟩,⟨kh P s10,.str s10 171,r 4⟩,⟨kh P s11,.str s11 173,.str s1 172⟩,⟨kh P s12,.str s12 174,.none⟩,⟨kh P s13,.str s13 193,r 21⟩,⟨kh P s14,.str s14 213,r 31⟩,⟨kh P s15,.str s15 229,r 44⟩,⟨kh P s16,.str s16 245,r 56⟩,⟨kh P s17,.str s17 261,r 68⟩,⟨kh P s18,.str s18 277,r 80⟩,⟨kh P s19,.str s19 293,r 92⟩,⟨kh P s20,.str s20 309,r 104⟩,⟨kh P s21,.str s21 325,r 116⟩,⟨kh P s22,.str s22 341,r 128⟩,⟨kh P s23,.str s23 357,r 140⟩,⟨kh P s24,.str s24 373,r 152⟩,⟨kh P s25,.str s25 381,r 159⟩,⟨kh P s26,.str s26 390,r 166⟩,⟨kh P s27,.str s27 401,r 173⟩,⟨kh P s28,.str s28 410,r 180⟩,⟨kh P s29,.str s29 418,r 187⟩,⟨kh P s30,.str s30 422,.str s31 421⟩,⟨kh P s32,.str s32 424,.int 30 423⟩,⟨kh P s33,.str s33 426,.int 1000000 425⟩,⟨kh P s34,.str s34 432,r 192⟩,⟨kh P s35,.str s35 439,r 199⟩,⟨kh P s36,.str s36 446,r 206⟩,⟨kh P s37,.str s37 466,r 216⟩] 33,#[]⟩
def o12_0:Obj:=⟨.none,none,.fields #[i 1,i 0,r 20,i 5,i 0,r 27,i 7,i 0,r 40,i 9,i 0,r 52,i 11,i 0,r 64,i 13,i 0,r 76,i 15,i 0,r 88,i 17,i 0,r 100,i 19,i 0,r 112,i 21,i 0,r 124,i 23,i 0,r 136,i 25,i 0,r 148,i 28,i 0,r 158,i 31,i 0,r 165,i 33,i 0,r 172,i 41,i 0,r 179,i 50,i 0,r 186,i 63,i 0,r 191,i 72,i 0,r 198,i 76,i 0,r 205,i 79,i 0,r 212],#[]⟩
def o15:Obj:=tu #[] 0
def o16:Obj:=⟨.none,none,.fields #[],#[]⟩
def o17:Obj:=tu #[.str s38 190] 0
def o18:Obj:=tu #[] 0
def o19:Obj:=f0 s13 s13 (topT 0)
def o20:Obj:=co #[.str s13 187,.str s13 188,.str s1 189,i 1,i 1,i 0,i 0,i 3,r 15,.bool true,i 181,r 16,.none,r 17,r 18,r 19,i 191,i 1,.str s1 192]
def o21:Obj:=fo s13 s13 (topT 0) (.str s2 164) (r 20)
def o22:Obj:=tu #[.type q3] 0
def o23:Obj:=⟨.type q4,none,.fields #[.builtin q5,.type q6],#[]⟩
def o24(P:Params):Obj:=⟨.type q1,none,.dict #[⟨kh P s39,.str s39 203,.str s40 194⟩,⟨kh P s41,.str s41 205,.str s14 204⟩,⟨kh P s42,.str s42 207,.int 5 206⟩,⟨kh P s43,.str s43 208,r 29⟩] 4,#[]⟩
def o25:Obj:=tu #[] 0
def o26:Obj:=⟨.none,none,.fields #[],#[]⟩
def o27:Obj:=co #[.str s14 198,.str s14 199,.str s1 200,i 5,i 0,i 0,i 0,i 0,r 25,.bool false,i 181,r 26,.none,.none,.none,.none,i 201,i 5,.str s1 202]
def o28:Obj:=⟨.type q0,none,.plain,#[some (r 27),some (r 3),some (r 24),none,some (.str s40 194),none,some (r 0)]⟩
def o29:Obj:=tu #[] 0
def o30(P:Params):Obj:=⟨.type q1,none,.dict #[⟨kh P s39,.str s39 203,.str s40 194⟩,⟨kh P s42,.str s42 207,.int 5 206⟩,⟨kh P s43,.str s43 208,r 29⟩,⟨kh P s44,.str s44 210,r 32⟩,⟨kh P s5,.str s5 211,.none⟩] 3,#[]⟩
def o31:Obj:=⟨.type q6,none,.cls ⟨s14,[.type q3],[r 31,.type q3,.type q7,.type q8,.type q9],30,s14,true,[],[r 44,r 56,r 68,r 80,r 92,r 104,r 116,r 128,r 140,r 152],false,none,false⟩,#[some (r 22),none,some (.str s14 196),some (.str s14 204),some (.builtin q10),some (.bool true)]⟩
def o32:Obj:=⟨.type q11,none,.fields #[.str s44 209,r 31,.builtin SL.s10220274742760427390x26,.none],#[]⟩
def o33:Obj:=⟨.type q12,none,.fields #[r 31,r 31,r 31],#[]⟩
def o34:Obj:=⟨.type q4,none,.fields #[.builtin q13,r 31],#[]⟩
def o35:Obj:=tu #[r 31] 0
def o36:Obj:=⟨.type q4,none,.fields #[.builtin q5,.type q6],#[]⟩
def o37(P:Params):Obj:=⟨.type q1,none,.dict #[⟨kh P s39,.str s39 221,.str s40 194⟩,⟨kh P s41,.str s41 223,.str s15 222⟩,⟨kh P s42,.str s42 225,.int 7 224⟩,⟨kh P s43,.str s43 226,r 42⟩] 4,#[]⟩
def o38:Obj:=tu #[] 0
def o39:Obj:=⟨.none,none,.fields #[],#[]⟩
def o40:Obj:=co #[.str s15 216,.str s15 217,.str s1 218,i 7,i 0,i 0,i 0,i 0,r 38,.bool false,i 181,r 39,.none,.none,.none,.none,i 219,i 7,.str s1 220]
def o41:Obj:=⟨.type q0,none,.plain,#[some (r 40),some (r 3),some (r 37),none,some (.str s40 194),none,some (r 0)]⟩
def o42:Obj:=tu #[] 0
def o43(P:Params):Obj:=⟨.type q1,none,.dict #[⟨kh P s39,.str s39 221,.str s40 194⟩,⟨kh P s42,.str s42 225,.int 7 224⟩,⟨kh P s43,.str s43 226,r 42⟩,⟨kh P s5,.str s5 227,.none⟩] 2,#[]⟩
def o44:Obj:=⟨.type q6,none,.cls ⟨s15,[r 31],[r 44,r 31,.type q3,.type q7,.type q8,.type q9],43,s15,true,[],[],false,none,false⟩,#[some (r 35),none,some (.str s15 214),some (.str s15 222),some (.builtin q10),some (.bool true)]⟩
def o45:Obj:=⟨.type q12,none,.fields #[r 44,r 44,r 44],#[]⟩
def o46:Obj:=⟨.type q4,none,.fields #[.builtin q13,r 44],#[]⟩
def o47:Obj:=tu #[r 31] 0
def o48:Obj:=⟨.type q4,none,.fields #[.builtin q5,.type q6],#[]⟩
def o49(P:Params):Obj:=⟨.type q1,none,.dict #[⟨kh P s39,.str s39 237,.str s40 194⟩,⟨kh P s41,.str s41 239,.str s16 238⟩,⟨kh P s42,.str s42 241,.int 9 240⟩,⟨kh P s43,.str s43 242,r 54⟩] 4,#[]⟩
def o50:Obj:=tu #[] 0
def o51:Obj:=⟨.none,none,.fields #[],#[]⟩
def o52:Obj:=co #[.str s16 232,.str s16 233,.str s1 234,i 9,i 0,i 0,i 0,i 0,r 50,.bool false,i 181,r 51,.none,.none,.none,.none,i 235,i 9,.str s1 236]
def o53:Obj:=⟨.type q0,none,.plain,#[some (r 52),some (r 3),some (r 49),none,some (.str s40 194),none,some (r 0)]⟩
def o54:Obj:=tu #[] 0
def o55(P:Params):Obj:=⟨.type q1,none,.dict #[⟨kh P s39,.str s39 237,.str s40 194⟩,⟨kh P s42,.str s42 241,.int 9 240⟩,⟨kh P s43,.str s43 242,r 54⟩,⟨kh P s5,.str s5 243,.none⟩] 2,#[]⟩
def o56:Obj:=⟨.type q6,none,.cls ⟨s16,[r 31],[r 56,r 31,.type q3,.type q7,.type q8,.type q9],55,s16,true,[],[],false,none,false⟩,#[some (r 47),none,some (.str s16 230),some (.str s16 238),some (.builtin q10),some (.bool true)]⟩
def o57:Obj:=⟨.type q12,none,.fields #[r 56,r 56,r 56],#[]⟩
def o58:Obj:=⟨.type q4,none,.fields #[.builtin q13,r 56],#[]⟩
def o59:Obj:=tu #[r 31] 0
def o60:Obj:=⟨.type q4,none,.fields #[.builtin q5,.type q6],#[]⟩
def o61(P:Params):Obj:=⟨.type q1,none,.dict #[⟨kh P s39,.str s39 253,.str s40 194⟩,⟨kh P s41,.str s41 255,.str s17 254⟩,⟨kh P s42,.str s42 257,.int 11 256⟩,⟨kh P s43,.str s43 258,r 66⟩] 4,#[]⟩
def o62:Obj:=tu #[] 0
def o63:Obj:=⟨.none,none,.fields #[],#[]⟩
def o64:Obj:=co #[.str s17 248,.str s17 249,.str s1 250,i 11,i 0,i 0,i 0,i 0,r 62,.bool false,i 181,r 63,.none,.none,.none,.none,i 251,i 11,.str s1 252]
def o65:Obj:=⟨.type q0,none,.plain,#[some (r 64),some (r 3),some (r 61),none,some (.str s40 194),none,some (r 0)]⟩
def o66:Obj:=tu #[] 0
def o67(P:Params):Obj:=⟨.type q1,none,.dict #[⟨kh P s39,.str s39 253,.str s40 194⟩,⟨kh P s42,.str s42 257,.int 11 256⟩,⟨kh P s43,.str s43 258,r 66⟩,⟨kh P s5,.str s5 259,.none⟩] 2,#[]⟩
def o68:Obj:=⟨.type q6,none,.cls ⟨s17,[r 31],[r 68,r 31,.type q3,.type q7,.type q8,.type q9],67,s17,true,[],[],false,none,false⟩,#[some (r 59),none,some (.str s17 246),some (.str s17 254),some (.builtin q10),some (.bool true)]⟩
def o69:Obj:=⟨.type q12,none,.fields #[r 68,r 68,r 68],#[]⟩
def o70:Obj:=⟨.type q4,none,.fields #[.builtin q13,r 68],#[]⟩
def o71:Obj:=tu #[r 31] 0
def o72:Obj:=⟨.type q4,none,.fields #[.builtin q5,.type q6],#[]⟩
def o73(P:Params):Obj:=⟨.type q1,none,.dict #[⟨kh P s39,.str s39 269,.str s40 194⟩,⟨kh P s41,.str s41 271,.str s18 270⟩,⟨kh P s42,.str s42 273,.int 13 272⟩,⟨kh P s43,.str s43 274,r 78⟩] 4,#[]⟩
def o74:Obj:=tu #[] 0
def o75:Obj:=⟨.none,none,.fields #[],#[]⟩
def o76:Obj:=co #[.str s18 264,.str s18 265,.str s1 266,i 13,i 0,i 0,i 0,i 0,r 74,.bool false,i 181,r 75,.none,.none,.none,.none,i 267,i 13,.str s1 268]
def o77:Obj:=⟨.type q0,none,.plain,#[some (r 76),some (r 3),some (r 73),none,some (.str s40 194),none,some (r 0)]⟩
def o78:Obj:=tu #[] 0
def o79(P:Params):Obj:=⟨.type q1,none,.dict #[⟨kh P s39,.str s39 269,.str s40 194⟩,⟨kh P s42,.str s42 273,.int 13 272⟩,⟨kh P s43,.str s43 274,r 78⟩,⟨kh P s5,.str s5 275,.none⟩] 2,#[]⟩
def o80:Obj:=⟨.type q6,none,.cls ⟨s18,[r 31],[r 80,r 31,.type q3,.type q7,.type q8,.type q9],79,s18,true,[],[],false,none,false⟩,#[some (r 71),none,some (.str s18 262),some (.str s18 270),some (.builtin q10),some (.bool true)]⟩
def o81:Obj:=⟨.type q12,none,.fields #[r 80,r 80,r 80],#[]⟩
def o82:Obj:=⟨.type q4,none,.fields #[.builtin q13,r 80],#[]⟩
def o83:Obj:=tu #[r 31] 0
def o84:Obj:=⟨.type q4,none,.fields #[.builtin q5,.type q6],#[]⟩
def o85(P:Params):Obj:=⟨.type q1,none,.dict #[⟨kh P s39,.str s39 285,.str s40 194⟩,⟨kh P s41,.str s41 287,.str s19 286⟩,⟨kh P s42,.str s42 289,.int 15 288⟩,⟨kh P s43,.str s43 290,r 90⟩] 4,#[]⟩
def o86:Obj:=tu #[] 0
def o87:Obj:=⟨.none,none,.fields #[],#[]⟩
def o88:Obj:=co #[.str s19 280,.str s19 281,.str s1 282,i 15,i 0,i 0,i 0,i 0,r 86,.bool false,i 181,r 87,.none,.none,.none,.none,i 283,i 15,.str s1 284]
def o89:Obj:=⟨.type q0,none,.plain,#[some (r 88),some (r 3),some (r 85),none,some (.str s40 194),none,some (r 0)]⟩
def o90:Obj:=tu #[] 0
def o91(P:Params):Obj:=⟨.type q1,none,.dict #[⟨kh P s39,.str s39 285,.str s40 194⟩,⟨kh P s42,.str s42 289,.int 15 288⟩,⟨kh P s43,.str s43 290,r 90⟩,⟨kh P s5,.str s5 291,.none⟩] 2,#[]⟩
def o92:Obj:=⟨.type q6,none,.cls ⟨s19,[r 31],[r 92,r 31,.type q3,.type q7,.type q8,.type q9],91,s19,true,[],[],false,none,false⟩,#[some (r 83),none,some (.str s19 278),some (.str s19 286),some (.builtin q10),some (.bool true)]⟩
def o93:Obj:=⟨.type q12,none,.fields #[r 92,r 92,r 92],#[]⟩
def o94:Obj:=⟨.type q4,none,.fields #[.builtin q13,r 92],#[]⟩
def o95:Obj:=tu #[r 31] 0
def o96:Obj:=⟨.type q4,none,.fields #[.builtin q5,.type q6],#[]⟩
def o97(P:Params):Obj:=⟨.type q1,none,.dict #[⟨kh P s39,.str s39 301,.str s40 194⟩,⟨kh P s41,.str s41 303,.str s20 302⟩,⟨kh P s42,.str s42 305,.int 17 304⟩,⟨kh P s43,.str s43 306,r 102⟩] 4,#[]⟩
def o98:Obj:=tu #[] 0
def o99:Obj:=⟨.none,none,.fields #[],#[]⟩
def o100:Obj:=co #[.str s20 296,.str s20 297,.str s1 298,i 17,i 0,i 0,i 0,i 0,r 98,.bool false,i 181,r 99,.none,.none,.none,.none,i 299,i 17,.str s1 300]
def o101:Obj:=⟨.type q0,none,.plain,#[some (r 100),some (r 3),some (r 97),none,some (.str s40 194),none,some (r 0)]⟩
def o102:Obj:=tu #[] 0
def o103(P:Params):Obj:=⟨.type q1,none,.dict #[⟨kh P s39,.str s39 301,.str s40 194⟩,⟨kh P s42,.str s42 305,.int 17 304⟩,⟨kh P s43,.str s43 306,r 102⟩,⟨kh P s5,.str s5 307,.none⟩] 2,#[]⟩
def o104:Obj:=⟨.type q6,none,.cls ⟨s20,[r 31],[r 104,r 31,.type q3,.type q7,.type q8,.type q9],103,s20,true,[],[],false,none,false⟩,#[some (r 95),none,some (.str s20 294),some (.str s20 302),some (.builtin q10),some (.bool true)]⟩
def o105:Obj:=⟨.type q12,none,.fields #[r 104,r 104,r 104],#[]⟩
def o106:Obj:=⟨.type q4,none,.fields #[.builtin q13,r 104],#[]⟩
def o107:Obj:=tu #[r 31] 0
def o108:Obj:=⟨.type q4,none,.fields #[.builtin q5,.type q6],#[]⟩
def o109(P:Params):Obj:=⟨.type q1,none,.dict #[⟨kh P s39,.str s39 317,.str s40 194⟩,⟨kh P s41,.str s41 319,.str s21 318⟩,⟨kh P s42,.str s42 321,.int 19 320⟩,⟨kh P s43,.str s43 322,r 114⟩] 4,#[]⟩
def o110:Obj:=tu #[] 0
def o111:Obj:=⟨.none,none,.fields #[],#[]⟩
def o112:Obj:=co #[.str s21 312,.str s21 313,.str s1 314,i 19,i 0,i 0,i 0,i 0,r 110,.bool false,i 181,r 111,.none,.none,.none,.none,i 315,i 19,.str s1 316]
def o113:Obj:=⟨.type q0,none,.plain,#[some (r 112),some (r 3),some (r 109),none,some (.str s40 194),none,some (r 0)]⟩
def o114:Obj:=tu #[] 0
def o115(P:Params):Obj:=⟨.type q1,none,.dict #[⟨kh P s39,.str s39 317,.str s40 194⟩,⟨kh P s42,.str s42 321,.int 19 320⟩,⟨kh P s43,.str s43 322,r 114⟩,⟨kh P s5,.str s5 323,.none⟩] 2,#[]⟩
def o116:Obj:=⟨.type q6,none,.cls ⟨s21,[r 31],[r 116,r 31,.type q3,.type q7,.type q8,.type q9],115,s21,true,[],[],false,none,false⟩,#[some (r 107),none,some (.str s21 310),some (.str s21 318),some (.builtin q10),some (.bool true)]⟩
def o117:Obj:=⟨.type q12,none,.fields #[r 116,r 116,r 116],#[]⟩
def o118:Obj:=⟨.type q4,none,.fields #[.builtin q13,r 116],#[]⟩
def o119:Obj:=tu #[r 31] 0
def o120:Obj:=⟨.type q4,none,.fields #[.builtin q5,.type q6],#[]⟩
def o121(P:Params):Obj:=⟨.type q1,none,.dict #[⟨kh P s39,.str s39 333,.str s40 194⟩,⟨kh P s41,.str s41 335,.str s22 334⟩,⟨kh P s42,.str s42 337,.int 21 336⟩,⟨kh P s43,.str s43 338,r 126⟩] 4,#[]⟩
def o122:Obj:=tu #[] 0
def o123:Obj:=⟨.none,none,.fields #[],#[]⟩
def o124:Obj:=co #[.str s22 328,.str s22 329,.str s1 330,i 21,i 0,i 0,i 0,i 0,r 122,.bool false,i 181,r 123,.none,.none,.none,.none,i 331,i 21,.str s1 332]
def o125:Obj:=⟨.type q0,none,.plain,#[some (r 124),some (r 3),some (r 121),none,some (.str s40 194),none,some (r 0)]⟩
def o126:Obj:=tu #[] 0
def o127(P:Params):Obj:=⟨.type q1,none,.dict #[⟨kh P s39,.str s39 333,.str s40 194⟩,⟨kh P s42,.str s42 337,.int 21 336⟩,⟨kh P s43,.str s43 338,r 126⟩,⟨kh P s5,.str s5 339,.none⟩] 2,#[]⟩
def o128:Obj:=⟨.type q6,none,.cls ⟨s22,[r 31],[r 128,r 31,.type q3,.type q7,.type q8,.type q9],127,s22,true,[],[],false,none,false⟩,#[some (r 119),none,some (.str s22 326),some (.str s22 334),some (.builtin q10),some (.bool true)]⟩
def o129:Obj:=⟨.type q12,none,.fields #[r 128,r 128,r 128],#[]⟩
def o130:Obj:=⟨.type q4,none,.fields #[.builtin q13,r 128],#[]⟩
def o131:Obj:=tu #[r 31] 0
def o132:Obj:=⟨.type q4,none,.fields #[.builtin q5,.type q6],#[]⟩
def o133(P:Params):Obj:=⟨.type q1,none,.dict #[⟨kh P s39,.str s39 349,.str s40 194⟩,⟨kh P s41,.str s41 351,.str s23 350⟩,⟨kh P s42,.str s42 353,.int 23 352⟩,⟨kh P s43,.str s43 354,r 138⟩] 4,#[]⟩
def o134:Obj:=tu #[] 0
def o135:Obj:=⟨.none,none,.fields #[],#[]⟩
def o136:Obj:=co #[.str s23 344,.str s23 345,.str s1 346,i 23,i 0,i 0,i 0,i 0,r 134,.bool false,i 181,r 135,.none,.none,.none,.none,i 347,i 23,.str s1 348]
def o137:Obj:=⟨.type q0,none,.plain,#[some (r 136),some (r 3),some (r 133),none,some (.str s40 194),none,some (r 0)]⟩
def o138:Obj:=tu #[] 0
def o139(P:Params):Obj:=⟨.type q1,none,.dict #[⟨kh P s39,.str s39 349,.str s40 194⟩,⟨kh P s42,.str s42 353,.int 23 352⟩,⟨kh P s43,.str s43 354,r 138⟩,⟨kh P s5,.str s5 355,.none⟩] 2,#[]⟩
def o140:Obj:=⟨.type q6,none,.cls ⟨s23,[r 31],[r 140,r 31,.type q3,.type q7,.type q8,.type q9],139,s23,true,[],[],false,none,false⟩,#[some (r 131),none,some (.str s23 342),some (.str s23 350),some (.builtin q10),some (.bool true)]⟩
def o141:Obj:=⟨.type q12,none,.fields #[r 140,r 140,r 140],#[]⟩
def o142:Obj:=⟨.type q4,none,.fields #[.builtin q13,r 140],#[]⟩
def o143:Obj:=tu #[r 31] 0
def o144:Obj:=⟨.type q4,none,.fields #[.builtin q5,.type q6],#[]⟩
def o145(P:Params):Obj:=⟨.type q1,none,.dict #[⟨kh P s39,.str s39 365,.str s40 194⟩,⟨kh P s41,.str s41 367,.str s24 366⟩,⟨kh P s42,.str s42 369,.int 25 368⟩,⟨kh P s43,.str s43 370,r 150⟩] 4,#[]⟩
def o146:Obj:=tu #[] 0
def o147:Obj:=⟨.none,none,.fields #[],#[]⟩
def o148:Obj:=co #[.str s24 360,.str s24 361,.str s1 362,i 25,i 0,i 0,i 0,i 0,r 146,.bool false,i 181,r 147,.none,.none,.none,.none,i 363,i 25,.str s1 364]
def o149:Obj:=⟨.type q0,none,.plain,#[some (r 148),some (r 3),some (r 145),none,some (.str s40 194),none,some (r 0)]⟩
def o150:Obj:=tu #[] 0
def o151(P:Params):Obj:=⟨.type q1,none,.dict #[⟨kh P s39,.str s39 365,.str s40 194⟩,⟨kh P s42,.str s42 369,.int 25 368⟩,⟨kh P s43,.str s43 370,r 150⟩,⟨kh P s5,.str s5 371,.none⟩] 2,#[]⟩
def o152:Obj:=⟨.type q6,none,.cls ⟨s24,[r 31],[r 152,r 31,.type q3,.type q7,.type q8,.type q9],151,s24,true,[],[],false,none,false⟩,#[some (r 143),none,some (.str s24 358),some (.str s24 366),some (.builtin q10),some (.bool true)]⟩
def o153:Obj:=⟨.type q12,none,.fields #[r 152,r 152,r 152],#[]⟩
def o154:Obj:=⟨.type q4,none,.fields #[.builtin q13,r 152],#[]⟩
def o155:Obj:=tu #[] 0
def o156:Obj:=⟨.none,none,.fields #[],#[]⟩
def o157:Obj:=f0 s25 s25 (topT 14)
def o158:Obj:=co #[.str s25 376,.str s25 377,.str s1 378,i 28,i 2,i 0,i 0,i 3,r 155,.bool true,i 181,r 156,.none,.none,.none,r 157,i 379,i 28,.str s1 380]
def o159:Obj:=fo s25 s25 (topT 14) (.str s45 374) (r 158)
def o160:Obj:=tu #[] 0
def o161:Obj:=⟨.none,none,.fields #[],#[]⟩
def o162:Obj:=tu #[.str s46 387] 0
def o163:Obj:=tu #[] 0
def o164:Obj:=f0 s26 s26 (topT 16)
def o165:Obj:=co #[.str s26 384,.str s26 385,.str s1 386,i 31,i 1,i 0,i 0,i 3,r 160,.bool true,i 181,r 161,.none,r 162,r 163,r 164,i 388,i 31,.str s1 389]
def o166:Obj:=fo s26 s26 (topT 16) (.str s47 382) (r 165)
def o167:Obj:=tu #[] 0
def o168:Obj:=⟨.none,none,.fields #[],#[]⟩
def o169:Obj:=tu #[.str s48 394,.str s49 395,.str s50 396,.str s51 397,.str s52 398] 0
def o170:Obj:=tu #[] 0
def o171:Obj:=f0 s27 s27 (topT 17)
def o172:Obj:=co #[.str s27 391,.str s27 392,.str s1 393,i 33,i 2,i 0,i 0,i 3,r 167,.bool true,i 181,r 168,.none,r 169,r 170,r 171,i 399,i 33,.str s1 400]
def o173:Obj:=fo s27 s27 (topT 17) (.str s47 382) (r 172)
def o174:Obj:=tu #[] 0
def o175:Obj:=⟨.none,none,.fields #[],#[]⟩
def o176:Obj:=tu #[.str s53 405,.str s54 406,.str s55 407] 0
def o177:Obj:=tu #[] 0
def o178:Obj:=f0 s28 s28 (topT 18)
def o179:Obj:=co #[.str s28 402,.str s28 403,.str s1 404,i 41,i 2,i 0,i 0,i 3,r 174,.bool true,i 181,r 175,.none,r 176,r 177,r 178,i 408,i 41,.str s1 409]
def o180:Obj:=fo s28 s28 (topT 18) (.str s47 382) (r 179)
def o181:Obj:=tu #[] 0
def o182:Obj:=⟨.none,none,.fields #[],#[]⟩
def o183:Obj:=tu #[.str s56 414,.str s57 415] 0
def o184:Obj:=tu #[] 0
def o185:Obj:=f0 s29 s29 (topT 19)
def o186:Obj:=co #[.str s29 411,.str s29 412,.str s1 413,i 50,i 1,i 0,i 0,i 3,r 181,.bool true,i 181,r 182,.none,r 183,r 184,r 185,i 416,i 50,.str s1 417]
def o187:Obj:=fo s29 s29 (topT 19) (.str s47 382) (r 186)
def o188:Obj:=tu #[] 0
def o189:Obj:=⟨.none,none,.fields #[],#[]⟩
def o190:Obj:=f0 s34 s34 (topT 24)
def o191:Obj:=co #[.str s34 427,.str s34 428,.str s1 429,i 63,i 1,i 0,i 0,i 3,r 188,.bool true,i 181,r 189,.none,.none,.none,r 190,i 430,i 63,.str s1 431]
def o192:Obj:=fo s34 s34 (topT 24) (.str s4 419) (r 191)
def o193:Obj:=tu #[] 0
def o194:Obj:=⟨.none,none,.fields #[],#[]⟩
def o195:Obj:=tu #[.str s58 436] 0
def o196:Obj:=tu #[] 0
def o197:Obj:=f0 s35 s35 (topT 25)
def o198:Obj:=co #[.str s35 433,.str s35 434,.str s1 435,i 72,i 1,i 0,i 0,i 3,r 193,.bool true,i 181,r 194,.none,r 195,r 196,r 197,i 437,i 72,.str s1 438]
def o199:Obj:=fo s35 s35 (topT 25) (.str s4 419) (r 198)
def o200:Obj:=tu #[] 0
def o201:Obj:=⟨.none,none,.fields #[],#[]⟩
def o202:Obj:=tu #[.str s58 443] 0
def o203:Obj:=tu #[] 0
def o204:Obj:=f0 s36 s36 (topT 26)
def o205:Obj:=co #[.str s36 440,.str s36 441,.str s1 442,i 76,i 1,i 0,i 0,i 3,r 200,.bool true,i 181,r 201,.none,r 202,r 203,r 204,i 444,i 76,.str s1 445]
def o206:Obj:=fo s36 s36 (topT 26) (.str s4 419) (r 205)
def o207:Obj:=tu #[] 0
def o208:Obj:=⟨.type q4,none,.fields #[.builtin q5,.type q6],#[]⟩
def o209(P:Params):Obj:=⟨.type q1,none,.dict #[⟨kh P s39,.str s39 454,.str s4 419⟩,⟨kh P s41,.str s41 456,.str s37 455⟩,⟨kh P s42,.str s42 458,.int 79 457⟩,⟨kh P s43,.str s43 459,r 214⟩] 4,#[]⟩
def o210:Obj:=tu #[] 0
def o211:Obj:=⟨.none,none,.fields #[],#[]⟩
def o212:Obj:=co #[.str s37 449,.str s37 450,.str s1 451,i 79,i 0,i 0,i 0,i 0,r 210,.bool false,i 181,r 211,.none,.none,.none,.none,i 452,i 79,.str s1 453]
def o213:Obj:=⟨.type q0,none,.plain,#[some (r 212),some (r 3),some (r 209),none,some (.str s4 419),none,some (r 0)]⟩
def o214:Obj:=tu #[] 0
def o215(P:Params):Obj:=⟨.type q1,none,.dict #[⟨kh P s39,.str s39 454,.str s4 419⟩,⟨kh P s42,.str s42 458,.int 79 457⟩,⟨kh P s43,.str s43 459,r 214⟩,⟨kh P s59,.str s59 461,r 217⟩,⟨kh P s44,.str s44 463,r 218⟩,⟨kh P s5,.str s5 464,.none⟩] 4,#[]⟩
def o216_0:Obj:=⟨.type q6,none,.cls ⟨s37,[.type q9],[r 216,.type q9],215,s37,true,[],[],false,none,false⟩,#[none,none,some (.str s37 447),some (.str s37 455),some (.builtin q14),some (.bool true)]⟩
def o217:Obj:=⟨.type q11,none,.fields #[.str s59 460,r 216,.builtin SL.s6511155373996960695x17,.builtin SL.s12411053484034534018x21],#[]⟩
def o218:Obj:=⟨.type q11,none,.fields #[.str s44 462,r 216,.builtin SL.s10220274742760427390x26,.none],#[]⟩
def o219:Obj:=⟨.type q12,none,.fields #[r 216,r 216,r 216],#[]⟩
def o220:Obj:=⟨.type q4,none,.fields #[.builtin q13,r 216],#[]⟩
def o3_1(P:Params):Obj:=⟨.type q1,none,.dict #[⟨kh P s3,.str s3 165,.str s60 905⟩,⟨kh P s5,.str s5 166,.none⟩,⟨kh P s6,.str s6 167,.none⟩,⟨kh P s7,.str s7 168,.builtin q2⟩,⟨kh P s8,.str s8 169,.none⟩,⟨kh P s9,.str s9 170,r 6⟩,⟨kh P s10,.str s10 171,r 4⟩,⟨kh P s11,.str s11 173,.str s1 172⟩,⟨kh P s12,.str s12 174,.none⟩,⟨kh P s13,.str s13 193,r 21⟩,⟨kh P s14,.str s14 213,r 31⟩,⟨kh P s15,.str s15 229,r 44⟩,⟨kh P s16,.str s16 245,r 56⟩,⟨kh P s17,.str s17 261,r 68⟩,⟨kh P s18,.str s18 277,r 80⟩,⟨kh P s19,.str s19 293,r 92⟩,⟨kh P s20,.str s20 309,r 104⟩,⟨kh P s21,.str s21 325,r 116⟩,⟨kh P s22,.str s22 341,r 128⟩,⟨kh P s23,.str s23 357,r 140⟩,⟨kh P s24,.str s24 373,r 152⟩,⟨kh P s25,.str s25 381,r 159⟩,⟨kh P s26,.str s26 390,r 166⟩,⟨kh P s27,.str s27 401,r 173⟩,⟨kh P s28,.str s28 410,r 180⟩,⟨kh P s29,.str s29 418,r 187⟩,⟨kh P s30,.str s30 422,.str s31 421⟩,⟨kh P s32,.str s32 424,.int 30 423⟩,⟨kh P s33,.str s33 426,.int 1000000 425⟩,⟨kh P s34,.str s34 432,r 192⟩,⟨kh P s35,.str s35 439,r 199⟩,⟨kh P s36,.str s36 446,r 206⟩,⟨kh P s37,.str s37 466,r 216⟩,⟨kh P s61,.str s61 496,r 244⟩,⟨kh P s62,.str s62 542,r 284⟩,⟨kh P s63,.str s63 640,r 366⟩,⟨kh P s64,.str s64 746,r 455⟩,⟨kh P s65,.str s65 825,r 523⟩,⟨kh P s66,.str s66 904,r 591⟩,⟨kh P s67,.str s67 908,.int 40 907⟩,⟨kh P s68,.str s68 910,.int 12 909⟩] 41,#[]⟩
def o12_1:Obj:=⟨.none,none,.fields #[i 1,i 0,r 20,i 5,i 0,r 27,i 7,i 0,r 40,i 9,i 0,r 52,i 11,i 0,r 64,i 13,i 0,r 76,i 15,i 0,r 88,i 17,i 0,r 100,i 19,i 0,r 112,i 21,i 0,r 124,i 23,i 0,r 136,i 25,i 0,r 148,i 28,i 0,r 158,i 31,i 0,r 165,i 33,i 0,r 172,i 41,i 0,r 179,i 50,i 0,r 186,i 63,i 0,r 191,i 72,i 0,r 198,i 76,i 0,r 205,i 79,i 0,r 212,i 81,i 0,r 226,i 88,i 0,r 252,i 101,i 0,r 292,i 144,i 0,r 374,i 184,i 0,r 463,i 214,i 0,r 531],#[]⟩
def o216_1:Obj:=⟨.type q6,none,.cls ⟨s37,[.type q9],[r 216,.type q9],215,s37,true,[],[r 244,r 284],false,none,false⟩,#[none,none,some (.str s37 447),some (.str s37 455),some (.builtin q14),some (.bool true)]⟩
def o221:Obj:=tu #[r 216] 0
def o222:Obj:=⟨.type q4,none,.fields #[.builtin q5,.type q6],#[]⟩
def o223(P:Params):Obj:=⟨.type q1,none,.dict #[⟨kh P s39,.str s39 474,.str s4 419⟩,⟨kh P s41,.str s41 476,.str s61 475⟩,⟨kh P s42,.str s42 478,.int 81 477⟩,⟨kh P s69,.str s69 485,r 234⟩,⟨kh P s70,.str s70 492,r 241⟩,⟨kh P s43,.str s43 493,r 242⟩] 6,#[]⟩
def o224:Obj:=tu #[] 0
def o225:Obj:=⟨.none,none,.fields #[i 83,i 4,r 233,i 86,i 4,r 240],#[]⟩
def o226:Obj:=co #[.str s61 469,.str s61 470,.str s1 471,i 81,i 0,i 0,i 0,i 0,r 224,.bool false,i 181,r 225,.none,.none,.none,.none,i 472,i 81,.str s1 473]
def o227:Obj:=⟨.type q0,none,.plain,#[some (r 226),some (r 3),some (r 223),none,some (.str s4 419),none,some (r 0)]⟩
def o228:Obj:=tu #[] 0
def o229:Obj:=⟨.none,none,.fields #[],#[]⟩
def o230:Obj:=tu #[.str s71 482] 0
def o231:Obj:=tu #[] 0
def o232:Obj:=f0 s69 s72 (L2.a0i (topT 28) 0)
def o233:Obj:=co #[.str s69 479,.str s72 480,.str s1 481,i 83,i 1,i 0,i 0,i 3,r 228,.bool true,i 181,r 229,.none,r 230,r 231,r 232,i 483,i 83,.str s1 484]
def o234:Obj:=fo s69 s72 (L2.a0i (topT 28) 0) (.str s4 419) (r 233)
def o235:Obj:=tu #[] 0
def o236:Obj:=⟨.none,none,.fields #[],#[]⟩
def o237:Obj:=tu #[.str s71 489] 0
def o238:Obj:=tu #[] 0
def o239:Obj:=f0 s70 s73 (L2.a0i (topT 28) 1)
def o240:Obj:=co #[.str s70 486,.str s73 487,.str s1 488,i 86,i 1,i 0,i 0,i 3,r 235,.bool true,i 181,r 236,.none,r 237,r 238,r 239,i 490,i 86,.str s1 491]
def o241:Obj:=fo s70 s73 (L2.a0i (topT 28) 1) (.str s4 419) (r 240)
def o242:Obj:=tu #[] 0
def o243(P:Params):Obj:=⟨.type q1,none,.dict #[⟨kh P s39,.str s39 474,.str s4 419⟩,⟨kh P s42,.str s42 478,.int 81 477⟩,⟨kh P s69,.str s69 485,r 234⟩,⟨kh P s70,.str s70 492,r 241⟩,⟨kh P s43,.str s43 493,r 242⟩,⟨kh P s5,.str s5 494,.none⟩] 2,#[]⟩
def o244:Obj:=⟨.type q6,none,.cls ⟨s61,[r 216],[r 244,r 216,.type q9],243,s61,true,[],[r 366,r 455],false,none,false⟩,#[some (r 221),none,some (.str s61 467),some (.str s61 475),some (.builtin q14),some (.bool true)]⟩
def o245:Obj:=⟨.type q12,none,.fields #[r 244,r 244,r 244],#[]⟩
def o246:Obj:=⟨.type q4,none,.fields #[.builtin q13,r 244],#[]⟩
def o247:Obj:=tu #[r 216] 0
def o248:Obj:=⟨.type q4,none,.fields #[.builtin q5,.type q6],#[]⟩
def o249(P:Params):Obj:=⟨.type q1,none,.dict #[⟨kh P s39,.str s39 504,.str s4 419⟩,⟨kh P s41,.str s41 506,.str s62 505⟩,⟨kh P s42,.str s42 508,.int 88 507⟩,⟨kh P s69,.str s69 515,r 260⟩,⟨kh P s70,.str s70 522,r 267⟩,⟨kh P s74,.str s74 530,r 274⟩,⟨kh P s75,.str s75 538,r 281⟩,⟨kh P s43,.str s43 539,r 282⟩] 8,#[]⟩
def o250:Obj:=tu #[] 0
def o251:Obj:=⟨.none,none,.fields #[i 90,i 4,r 259,i 93,i 4,r 266,i 96,i 4,r 273,i 99,i 4,r 280],#[]⟩
def o252:Obj:=co #[.str s62 499,.str s62 500,.str s1 501,i 88,i 0,i 0,i 0,i 0,r 250,.bool false,i 181,r 251,.none,.none,.none,.none,i 502,i 88,.str s1 503]
def o253:Obj:=⟨.type q0,none,.plain,#[some (r 252),some (r 3),some (r 249),none,some (.str s4 419),none,some (r 0)]⟩
def o254:Obj:=tu #[] 0
def o255:Obj:=⟨.none,none,.fields #[],#[]⟩
def o256:Obj:=tu #[.str s71 512] 0
def o257:Obj:=tu #[] 0
def o258:Obj:=f0 s69 s76 (L2.a0i (topT 29) 0)
def o259:Obj:=co #[.str s69 509,.str s76 510,.str s1 511,i 90,i 1,i 0,i 0,i 3,r 254,.bool true,i 181,r 255,.none,r 256,r 257,r 258,i 513,i 90,.str s1 514]
def o260:Obj:=fo s69 s76 (L2.a0i (topT 29) 0) (.str s4 419) (r 259)
def o261:Obj:=tu #[] 0
def o262:Obj:=⟨.none,none,.fields #[],#[]⟩
def o263:Obj:=tu #[.str s71 519] 0
def o264:Obj:=tu #[] 0
def o265:Obj:=f0 s70 s77 (L2.a0i (topT 29) 1)
def o266:Obj:=co #[.str s70 516,.str s77 517,.str s1 518,i 93,i 1,i 0,i 0,i 3,r 261,.bool true,i 181,r 262,.none,r 263,r 264,r 265,i 520,i 93,.str s1 521]
def o267:Obj:=fo s70 s77 (L2.a0i (topT 29) 1) (.str s4 419) (r 266)
def o268:Obj:=tu #[] 0
def o269:Obj:=⟨.none,none,.fields #[],#[]⟩
def o270:Obj:=tu #[.str s71 526,.str s78 527] 0
def o271:Obj:=tu #[] 0
def o272:Obj:=f0 s74 s79 (L2.a0i (topT 29) 2)
def o273:Obj:=co #[.str s74 523,.str s79 524,.str s1 525,i 96,i 2,i 0,i 0,i 3,r 268,.bool true,i 181,r 269,.none,r 270,r 271,r 272,i 528,i 96,.str s1 529]
def o274:Obj:=fo s74 s79 (L2.a0i (topT 29) 2) (.str s4 419) (r 273)
def o275:Obj:=tu #[] 0
def o276:Obj:=⟨.none,none,.fields #[],#[]⟩
def o277:Obj:=tu #[.str s71 534,.str s78 535] 0
def o278:Obj:=tu #[] 0
def o279:Obj:=f0 s75 s80 (L2.a0i (topT 29) 3)
def o280:Obj:=co #[.str s75 531,.str s80 532,.str s1 533,i 99,i 2,i 0,i 0,i 3,r 275,.bool true,i 181,r 276,.none,r 277,r 278,r 279,i 536,i 99,.str s1 537]
def o281:Obj:=fo s75 s80 (L2.a0i (topT 29) 3) (.str s4 419) (r 280)
def o282:Obj:=tu #[] 0
def o283(P:Params):Obj:=⟨.type q1,none,.dict #[⟨kh P s39,.str s39 504,.str s4 419⟩,⟨kh P s42,.str s42 508,.int 88 507⟩,⟨kh P s69,.str s69 515,r 260⟩,⟨kh P s70,.str s70 522,r 267⟩,⟨kh P s74,.str s74 530,r 274⟩,⟨kh P s75,.str s75 538,r 281⟩,⟨kh P s43,.str s43 539,r 282⟩,⟨kh P s5,.str s5 540,.none⟩] 2,#[]⟩
def o284:Obj:=⟨.type q6,none,.cls ⟨s62,[r 216],[r 284,r 216,.type q9],283,s62,true,[],[r 523,r 591],false,none,false⟩,#[some (r 247),none,some (.str s62 497),some (.str s62 505),some (.builtin q14),some (.bool true)]⟩
def o285:Obj:=⟨.type q12,none,.fields #[r 284,r 284,r 284],#[]⟩
def o286:Obj:=⟨.type q4,none,.fields #[.builtin q13,r 284],#[]⟩
def o287:Obj:=tu #[r 244] 0
def o288:Obj:=⟨.type q4,none,.fields #[.builtin q5,.type q6],#[]⟩
def o289(P:Params):Obj:=⟨.type q1,none,.dict #[⟨kh P s39,.str s39 550,.str s4 419⟩,⟨kh P s41,.str s41 552,.str s63 551⟩,⟨kh P s42,.str s42 554,.int 101 553⟩,⟨kh P s81,.str s81 561,r 300⟩,⟨kh P s82,.str s82 568,r 307⟩,⟨kh P s48,.str s48 575,r 314⟩,⟨kh P s83,.str s83 584,r 321⟩,⟨kh P s84,.str s84 593,r 328⟩,⟨kh P s74,.str s74 601,r 335⟩,⟨kh P s75,.str s75 609,r 342⟩,⟨kh P s85,.str s85 617,r 349⟩,⟨kh P s86,.str s86 625,r 356⟩,⟨kh P s87,.str s87 636,r 363⟩,⟨kh P s43,.str s43 637,r 364⟩] 14,#[]⟩
def o290:Obj:=tu #[] 0
def o291:Obj:=⟨.none,none,.fields #[i 103,i 4,r 299,i 106,i 4,r 306,i 109,i 4,r 313,i 112,i 4,r 320,i 115,i 4,r 327,i 118,i 4,r 334,i 121,i 4,r 341,i 124,i 4,r 348,i 131,i 4,r 355,i 134,i 4,r 362],#[]⟩
def o292:Obj:=co #[.str s63 545,.str s63 546,.str s1 547,i 101,i 0,i 0,i 0,i 0,r 290,.bool false,i 181,r 291,.none,.none,.none,.none,i 548,i 101,.str s1 549]
def o293:Obj:=⟨.type q0,none,.plain,#[some (r 292),some (r 3),some (r 289),none,some (.str s4 419),none,some (r 0)]⟩
def o294:Obj:=tu #[] 0
def o295:Obj:=⟨.none,none,.fields #[],#[]⟩
def o296:Obj:=tu #[.str s71 558] 0
def o297:Obj:=tu #[] 0
def o298:Obj:=f0 s81 s88 (L2.a0i (topT 30) 0)
def o299:Obj:=co #[.str s81 555,.str s88 556,.str s1 557,i 103,i 1,i 0,i 0,i 3,r 294,.bool true,i 181,r 295,.none,r 296,r 297,r 298,i 559,i 103,.str s1 560]
def o300:Obj:=fo s81 s88 (L2.a0i (topT 30) 0) (.str s4 419) (r 299)
def o301:Obj:=tu #[] 0
def o302:Obj:=⟨.none,none,.fields #[],#[]⟩
def o303:Obj:=tu #[.str s71 565] 0
def o304:Obj:=tu #[] 0
def o305:Obj:=f0 s82 s89 (L2.a0i (topT 30) 1)
def o306:Obj:=co #[.str s82 562,.str s89 563,.str s1 564,i 106,i 1,i 0,i 0,i 3,r 301,.bool true,i 181,r 302,.none,r 303,r 304,r 305,i 566,i 106,.str s1 567]
def o307:Obj:=fo s82 s89 (L2.a0i (topT 30) 1) (.str s4 419) (r 306)
def o308:Obj:=tu #[] 0
def o309:Obj:=⟨.none,none,.fields #[],#[]⟩
def o310:Obj:=tu #[.str s71 572] 0
def o311:Obj:=tu #[] 0
def o312:Obj:=f0 s48 s90 (L2.a0i (topT 30) 2)
def o313:Obj:=co #[.str s48 569,.str s90 570,.str s1 571,i 109,i 1,i 0,i 0,i 3,r 308,.bool true,i 181,r 309,.none,r 310,r 311,r 312,i 573,i 109,.str s1 574]
def o314:Obj:=fo s48 s90 (L2.a0i (topT 30) 2) (.str s4 419) (r 313)
def o315:Obj:=tu #[] 0
def o316:Obj:=⟨.none,none,.fields #[],#[]⟩
def o317:Obj:=tu #[.str s71 579,.str s78 580,.str s91 581] 0
def o318:Obj:=tu #[] 0
def o319:Obj:=f0 s83 s92 (L2.a0i (topT 30) 3)
def o320:Obj:=co #[.str s83 576,.str s92 577,.str s1 578,i 112,i 3,i 0,i 0,i 3,r 315,.bool true,i 181,r 316,.none,r 317,r 318,r 319,i 582,i 112,.str s1 583]
def o321:Obj:=fo s83 s92 (L2.a0i (topT 30) 3) (.str s4 419) (r 320)
def o322:Obj:=tu #[] 0
def o323:Obj:=⟨.none,none,.fields #[],#[]⟩
def o324:Obj:=tu #[.str s71 588,.str s78 589,.str s91 590] 0
def o325:Obj:=tu #[] 0
def o326:Obj:=f0 s84 s93 (L2.a0i (topT 30) 4)
def o327:Obj:=co #[.str s84 585,.str s93 586,.str s1 587,i 115,i 3,i 0,i 0,i 3,r 322,.bool true,i 181,r 323,.none,r 324,r 325,r 326,i 591,i 115,.str s1 592]
def o328:Obj:=fo s84 s93 (L2.a0i (topT 30) 4) (.str s4 419) (r 327)
def o329:Obj:=tu #[] 0
def o330:Obj:=⟨.none,none,.fields #[],#[]⟩
def o331:Obj:=tu #[.str s71 597,.str s78 598] 0
def o332:Obj:=tu #[] 0
def o333:Obj:=f0 s74 s94 (L2.a0i (topT 30) 5)
def o334:Obj:=co #[.str s74 594,.str s94 595,.str s1 596,i 118,i 2,i 0,i 0,i 3,r 329,.bool true,i 181,r 330,.none,r 331,r 332,r 333,i 599,i 118,.str s1 600]
def o335:Obj:=fo s74 s94 (L2.a0i (topT 30) 5) (.str s4 419) (r 334)
def o336:Obj:=tu #[] 0
def o337:Obj:=⟨.none,none,.fields #[],#[]⟩
def o338:Obj:=tu #[.str s71 605,.str s78 606] 0
def o339:Obj:=tu #[] 0
def o340:Obj:=f0 s75 s95 (L2.a0i (topT 30) 6)
def o341:Obj:=co #[.str s75 602,.str s95 603,.str s1 604,i 121,i 2,i 0,i 0,i 3,r 336,.bool true,i 181,r 337,.none,r 338,r 339,r 340,i 607,i 121,.str s1 608]
def o342:Obj:=fo s75 s95 (L2.a0i (topT 30) 6) (.str s4 419) (r 341)
def o343:Obj:=tu #[] 0
def o344:Obj:=⟨.none,none,.fields #[],#[]⟩
def o345:Obj:=tu #[.str s71 613,.str s46 614] 0
def o346:Obj:=tu #[] 0
def o347:Obj:=f0 s85 s96 (L2.a0i (topT 30) 7)
def o348:Obj:=co #[.str s85 610,.str s96 611,.str s1 612,i 124,i 2,i 0,i 0,i 3,r 343,.bool true,i 181,r 344,.none,r 345,r 346,r 347,i 615,i 124,.str s1 616]
def o349:Obj:=fo s85 s96 (L2.a0i (topT 30) 7) (.str s4 419) (r 348)
def o350:Obj:=tu #[] 0
def o351:Obj:=⟨.none,none,.fields #[],#[]⟩
def o352:Obj:=tu #[.str s71 621,.str s78 622] 0
def o353:Obj:=tu #[] 0
def o354:Obj:=f0 s86 s97 (L2.a0i (topT 30) 8)
def o355:Obj:=co #[.str s86 618,.str s97 619,.str s1 620,i 131,i 2,i 0,i 0,i 3,r 350,.bool true,i 181,r 351,.none,r 352,r 353,r 354,i 623,i 131,.str s1 624]
def o356:Obj:=fo s86 s97 (L2.a0i (topT 30) 8) (.str s4 419) (r 355)
def o357:Obj:=tu #[] 0
def o358:Obj:=⟨.none,none,.fields #[],#[]⟩
def o359:Obj:=tu #[.str s71 629,.str s58 630,.str s98 631,.str s53 632,.str s54 633] 0
def o360:Obj:=tu #[] 0
def o361:Obj:=f0 s87 s99 (L2.a0i (topT 30) 9)
def o362:Obj:=co #[.str s87 626,.str s99 627,.str s1 628,i 134,i 2,i 0,i 0,i 3,r 357,.bool true,i 181,r 358,.none,r 359,r 360,r 361,i 634,i 134,.str s1 635]
def o363:Obj:=fo s87 s99 (L2.a0i (topT 30) 9) (.str s4 419) (r 362)
def o364:Obj:=tu #[] 0
def o365(P:Params):Obj:=⟨.type q1,none,.dict #[⟨kh P s39,.str s39 550,.str s4 419⟩,⟨kh P s42,.str s42 554,.int 101 553⟩,⟨kh P s81,.str s81 561,r 300⟩,⟨kh P s82,.str s82 568,r 307⟩,⟨kh P s48,.str s48 575,r 314⟩,⟨kh P s83,.str s83 584,r 321⟩,⟨kh P s84,.str s84 593,r 328⟩,⟨kh P s74,.str s74 601,r 335⟩,⟨kh P s75,.str s75 609,r 342⟩,⟨kh P s85,.str s85 617,r 349⟩,⟨kh P s86,.str s86 625,r 356⟩,⟨kh P s87,.str s87 636,r 363⟩,⟨kh P s43,.str s43 637,r 364⟩,⟨kh P s5,.str s5 638,.none⟩] 2,#[]⟩
def o366:Obj:=⟨.type q6,none,.cls ⟨s63,[r 244],[r 366,r 244,r 216,.type q9],365,s63,true,[],[],false,none,false⟩,#[some (r 287),none,some (.str s63 543),some (.str s63 551),some (.builtin q14),some (.bool true)]⟩
def o367:Obj:=⟨.type q12,none,.fields #[r 366,r 366,r 366],#[]⟩
def o368:Obj:=⟨.type q4,none,.fields #[.builtin q13,r 366],#[]⟩
def o369:Obj:=tu #[r 244] 0
def o370:Obj:=⟨.type q4,none,.fields #[.builtin q5,.type q6],#[]⟩
def o371(P:Params):Obj:=⟨.type q1,none,.dict #[⟨kh P s39,.str s39 648,.str s4 419⟩,⟨kh P s41,.str s41 650,.str s64 649⟩,⟨kh P s42,.str s42 652,.int 144 651⟩,⟨kh P s100,.str s100 660,r 382⟩,⟨kh P s81,.str s81 668,r 389⟩,⟨kh P s82,.str s82 675,r 396⟩,⟨kh P s48,.str s48 682,r 403⟩,⟨kh P s83,.str s83 691,r 410⟩,⟨kh P s84,.str s84 700,r 417⟩,⟨kh P s74,.str s74 708,r 424⟩,⟨kh P s75,.str s75 716,r 431⟩,⟨kh P s85,.str s85 724,r 438⟩,⟨kh P s86,.str s86 732,r 445⟩,⟨kh P s87,.str s87 741,r 452⟩,⟨kh P s43,.str s43 743,r 453⟩] 15,#[]⟩
def o372:Obj:=tu #[] 0
def o373:Obj:=⟨.none,none,.fields #[i 146,i 4,r 381,i 151,i 4,r 388,i 155,i 4,r 395,i 158,i 4,r 402,i 161,i 4,r 409,i 164,i 4,r 416,i 167,i 4,r 423,i 170,i 4,r 430,i 173,i 4,r 437,i 176,i 4,r 444,i 179,i 4,r 451],#[]⟩
def o374:Obj:=co #[.str s64 643,.str s64 644,.str s1 645,i 144,i 0,i 0,i 0,i 0,r 372,.bool false,i 181,r 373,.none,.none,.none,.none,i 646,i 144,.str s1 647]
def o375:Obj:=⟨.type q0,none,.plain,#[some (r 374),some (r 3),some (r 371),none,some (.str s4 419),none,some (r 0)]⟩
def o376:Obj:=tu #[] 0
def o377:Obj:=⟨.none,none,.fields #[],#[]⟩
def o378:Obj:=tu #[.str s71 656,.str s101 657] 0
def o379:Obj:=tu #[] 0
def o380:Obj:=f0 s100 s102 (L2.a0i (topT 31) 0)
def o381:Obj:=co #[.str s100 653,.str s102 654,.str s1 655,i 146,i 2,i 0,i 0,i 3,r 376,.bool true,i 181,r 377,.none,r 378,r 379,r 380,i 658,i 146,.str s1 659]
def o382:Obj:=fo s100 s102 (L2.a0i (topT 31) 0) (.str s4 419) (r 381)
def o383:Obj:=tu #[] 0
def o384:Obj:=⟨.none,none,.fields #[],#[]⟩
def o385:Obj:=tu #[.str s71 664,.str s101 665] 0
def o386:Obj:=tu #[] 0
def o387:Obj:=f0 s81 s103 (L2.a0i (topT 31) 1)
def o388:Obj:=co #[.str s81 661,.str s103 662,.str s1 663,i 151,i 1,i 0,i 0,i 3,r 383,.bool true,i 181,r 384,.none,r 385,r 386,r 387,i 666,i 151,.str s1 667]
def o389:Obj:=fo s81 s103 (L2.a0i (topT 31) 1) (.str s4 419) (r 388)
def o390:Obj:=tu #[] 0
def o391:Obj:=⟨.none,none,.fields #[],#[]⟩
def o392:Obj:=tu #[.str s71 672] 0
def o393:Obj:=tu #[] 0
def o394:Obj:=f0 s82 s104 (L2.a0i (topT 31) 2)
def o395:Obj:=co #[.str s82 669,.str s104 670,.str s1 671,i 155,i 1,i 0,i 0,i 3,r 390,.bool true,i 181,r 391,.none,r 392,r 393,r 394,i 673,i 155,.str s1 674]
def o396:Obj:=fo s82 s104 (L2.a0i (topT 31) 2) (.str s4 419) (r 395)
def o397:Obj:=tu #[] 0
def o398:Obj:=⟨.none,none,.fields #[],#[]⟩
def o399:Obj:=tu #[.str s71 679] 0
def o400:Obj:=tu #[] 0
def o401:Obj:=f0 s48 s105 (L2.a0i (topT 31) 3)
def o402:Obj:=co #[.str s48 676,.str s105 677,.str s1 678,i 158,i 1,i 0,i 0,i 3,r 397,.bool true,i 181,r 398,.none,r 399,r 400,r 401,i 680,i 158,.str s1 681]
def o403:Obj:=fo s48 s105 (L2.a0i (topT 31) 3) (.str s4 419) (r 402)
def o404:Obj:=tu #[] 0
def o405:Obj:=⟨.none,none,.fields #[],#[]⟩
def o406:Obj:=tu #[.str s71 686,.str s78 687,.str s91 688] 0
def o407:Obj:=tu #[] 0
def o408:Obj:=f0 s83 s106 (L2.a0i (topT 31) 4)
def o409:Obj:=co #[.str s83 683,.str s106 684,.str s1 685,i 161,i 3,i 0,i 0,i 3,r 404,.bool true,i 181,r 405,.none,r 406,r 407,r 408,i 689,i 161,.str s1 690]
def o410:Obj:=fo s83 s106 (L2.a0i (topT 31) 4) (.str s4 419) (r 409)
def o411:Obj:=tu #[] 0
def o412:Obj:=⟨.none,none,.fields #[],#[]⟩
def o413:Obj:=tu #[.str s71 695,.str s78 696,.str s91 697] 0
def o414:Obj:=tu #[] 0
def o415:Obj:=f0 s84 s107 (L2.a0i (topT 31) 5)
def o416:Obj:=co #[.str s84 692,.str s107 693,.str s1 694,i 164,i 3,i 0,i 0,i 3,r 411,.bool true,i 181,r 412,.none,r 413,r 414,r 415,i 698,i 164,.str s1 699]
def o417:Obj:=fo s84 s107 (L2.a0i (topT 31) 5) (.str s4 419) (r 416)
def o418:Obj:=tu #[] 0
def o419:Obj:=⟨.none,none,.fields #[],#[]⟩
def o420:Obj:=tu #[.str s71 704,.str s78 705] 0
def o421:Obj:=tu #[] 0
def o422:Obj:=f0 s74 s108 (L2.a0i (topT 31) 6)
def o423:Obj:=co #[.str s74 701,.str s108 702,.str s1 703,i 167,i 2,i 0,i 0,i 3,r 418,.bool true,i 181,r 419,.none,r 420,r 421,r 422,i 706,i 167,.str s1 707]
def o424:Obj:=fo s74 s108 (L2.a0i (topT 31) 6) (.str s4 419) (r 423)
def o425:Obj:=tu #[] 0
def o426:Obj:=⟨.none,none,.fields #[],#[]⟩
def o427:Obj:=tu #[.str s71 712,.str s78 713] 0
def o428:Obj:=tu #[] 0
def o429:Obj:=f0 s75 s109 (L2.a0i (topT 31) 7)
def o430:Obj:=co #[.str s75 709,.str s109 710,.str s1 711,i 170,i 2,i 0,i 0,i 3,r 425,.bool true,i 181,r 426,.none,r 427,r 428,r 429,i 714,i 170,.str s1 715]
def o431:Obj:=fo s75 s109 (L2.a0i (topT 31) 7) (.str s4 419) (r 430)
def o432:Obj:=tu #[] 0
def o433:Obj:=⟨.none,none,.fields #[],#[]⟩
def o434:Obj:=tu #[.str s71 720,.str s46 721] 0
def o435:Obj:=tu #[] 0
def o436:Obj:=f0 s85 s110 (L2.a0i (topT 31) 8)
def o437:Obj:=co #[.str s85 717,.str s110 718,.str s1 719,i 173,i 2,i 0,i 0,i 3,r 432,.bool true,i 181,r 433,.none,r 434,r 435,r 436,i 722,i 173,.str s1 723]
def o438:Obj:=fo s85 s110 (L2.a0i (topT 31) 8) (.str s4 419) (r 437)
def o439:Obj:=tu #[] 0
def o440:Obj:=⟨.none,none,.fields #[],#[]⟩
def o441:Obj:=tu #[.str s71 728,.str s78 729] 0
def o442:Obj:=tu #[] 0
def o443:Obj:=f0 s86 s111 (L2.a0i (topT 31) 9)
def o444:Obj:=co #[.str s86 725,.str s111 726,.str s1 727,i 176,i 2,i 0,i 0,i 3,r 439,.bool true,i 181,r 440,.none,r 441,r 442,r 443,i 730,i 176,.str s1 731]
def o445:Obj:=fo s86 s111 (L2.a0i (topT 31) 9) (.str s4 419) (r 444)
def o446:Obj:=tu #[] 0
def o447:Obj:=⟨.none,none,.fields #[],#[]⟩
def o448:Obj:=tu #[.str s71 736,.str s58 737,.str s56 738] 0
def o449:Obj:=tu #[] 0
def o450:Obj:=f0 s87 s112 (L2.a0i (topT 31) 10)
def o451:Obj:=co #[.str s87 733,.str s112 734,.str s1 735,i 179,i 2,i 0,i 0,i 3,r 446,.bool true,i 181,r 447,.none,r 448,r 449,r 450,i 739,i 179,.str s1 740]
def o452:Obj:=fo s87 s112 (L2.a0i (topT 31) 10) (.str s4 419) (r 451)
def o453:Obj:=tu #[.str s101 742] 0
def o454(P:Params):Obj:=⟨.type q1,none,.dict #[⟨kh P s39,.str s39 648,.str s4 419⟩,⟨kh P s42,.str s42 652,.int 144 651⟩,⟨kh P s100,.str s100 660,r 382⟩,⟨kh P s81,.str s81 668,r 389⟩,⟨kh P s82,.str s82 675,r 396⟩,⟨kh P s48,.str s48 682,r 403⟩,⟨kh P s83,.str s83 691,r 410⟩,⟨kh P s84,.str s84 700,r 417⟩,⟨kh P s74,.str s74 708,r 424⟩,⟨kh P s75,.str s75 716,r 431⟩,⟨kh P s85,.str s85 724,r 438⟩,⟨kh P s86,.str s86 732,r 445⟩,⟨kh P s87,.str s87 741,r 452⟩,⟨kh P s43,.str s43 743,r 453⟩,⟨kh P s5,.str s5 744,.none⟩] 2,#[]⟩
def o455:Obj:=⟨.type q6,none,.cls ⟨s64,[r 244],[r 455,r 244,r 216,.type q9],454,s64,true,[],[],false,none,false⟩,#[some (r 369),none,some (.str s64 641),some (.str s64 649),some (.builtin q14),some (.bool true)]⟩
def o456:Obj:=⟨.type q12,none,.fields #[r 455,r 455,r 455],#[]⟩
def o457:Obj:=⟨.type q4,none,.fields #[.builtin q13,r 455],#[]⟩
def o458:Obj:=tu #[r 284] 0
def o459:Obj:=⟨.type q4,none,.fields #[.builtin q5,.type q6],#[]⟩
def o460(P:Params):Obj:=⟨.type q1,none,.dict #[⟨kh P s39,.str s39 754,.str s4 419⟩,⟨kh P s41,.str s41 756,.str s65 755⟩,⟨kh P s42,.str s42 758,.int 184 757⟩,⟨kh P s81,.str s81 765,r 471⟩,⟨kh P s82,.str s82 772,r 478⟩,⟨kh P s48,.str s48 779,r 485⟩,⟨kh P s83,.str s83 788,r 492⟩,⟨kh P s84,.str s84 797,r 499⟩,⟨kh P s85,.str s85 805,r 506⟩,⟨kh P s86,.str s86 813,r 513⟩,⟨kh P s87,.str s87 821,r 520⟩,⟨kh P s43,.str s43 822,r 521⟩] 12,#[]⟩
def o461:Obj:=tu #[] 0
def o462:Obj:=⟨.none,none,.fields #[i 186,i 4,r 470,i 189,i 4,r 477,i 192,i 4,r 484,i 195,i 4,r 491,i 198,i 4,r 498,i 203,i 4,r 505,i 206,i 4,r 512,i 209,i 4,r 519],#[]⟩
def o463:Obj:=co #[.str s65 749,.str s65 750,.str s1 751,i 184,i 0,i 0,i 0,i 0,r 461,.bool false,i 181,r 462,.none,.none,.none,.none,i 752,i 184,.str s1 753]
def o464:Obj:=⟨.type q0,none,.plain,#[some (r 463),some (r 3),some (r 460),none,some (.str s4 419),none,some (r 0)]⟩
def o465:Obj:=tu #[] 0
def o466:Obj:=⟨.none,none,.fields #[],#[]⟩
def o467:Obj:=tu #[.str s71 762] 0
def o468:Obj:=tu #[] 0
def o469:Obj:=f0 s81 s113 (L2.a0i (topT 32) 0)
def o470:Obj:=co #[.str s81 759,.str s113 760,.str s1 761,i 186,i 1,i 0,i 0,i 3,r 465,.bool true,i 181,r 466,.none,r 467,r 468,r 469,i 763,i 186,.str s1 764]
def o471:Obj:=fo s81 s113 (L2.a0i (topT 32) 0) (.str s4 419) (r 470)
def o472:Obj:=tu #[] 0
def o473:Obj:=⟨.none,none,.fields #[],#[]⟩
def o474:Obj:=tu #[.str s71 769] 0
def o475:Obj:=tu #[] 0
def o476:Obj:=f0 s82 s114 (L2.a0i (topT 32) 1)
def o477:Obj:=co #[.str s82 766,.str s114 767,.str s1 768,i 189,i 1,i 0,i 0,i 3,r 472,.bool true,i 181,r 473,.none,r 474,r 475,r 476,i 770,i 189,.str s1 771]
def o478:Obj:=fo s82 s114 (L2.a0i (topT 32) 1) (.str s4 419) (r 477)
def o479:Obj:=tu #[] 0
def o480:Obj:=⟨.none,none,.fields #[],#[]⟩
def o481:Obj:=tu #[.str s71 776] 0
def o482:Obj:=tu #[] 0
def o483:Obj:=f0 s48 s115 (L2.a0i (topT 32) 2)
def o484:Obj:=co #[.str s48 773,.str s115 774,.str s1 775,i 192,i 1,i 0,i 0,i 3,r 479,.bool true,i 181,r 480,.none,r 481,r 482,r 483,i 777,i 192,.str s1 778]
def o485:Obj:=fo s48 s115 (L2.a0i (topT 32) 2) (.str s4 419) (r 484)
def o486:Obj:=tu #[] 0
def o487:Obj:=⟨.none,none,.fields #[],#[]⟩
def o488:Obj:=tu #[.str s71 783,.str s78 784,.str s91 785] 0
def o489:Obj:=tu #[] 0
def o490:Obj:=f0 s83 s116 (L2.a0i (topT 32) 3)
def o491:Obj:=co #[.str s83 780,.str s116 781,.str s1 782,i 195,i 3,i 0,i 0,i 3,r 486,.bool true,i 181,r 487,.none,r 488,r 489,r 490,i 786,i 195,.str s1 787]
def o492:Obj:=fo s83 s116 (L2.a0i (topT 32) 3) (.str s4 419) (r 491)
def o493:Obj:=tu #[] 0
def o494:Obj:=⟨.none,none,.fields #[],#[]⟩
def o495:Obj:=tu #[.str s71 792,.str s78 793,.str s91 794] 0
def o496:Obj:=tu #[] 0
def o497:Obj:=f0 s84 s117 (L2.a0i (topT 32) 4)
def o498:Obj:=co #[.str s84 789,.str s117 790,.str s1 791,i 198,i 3,i 0,i 0,i 3,r 493,.bool true,i 181,r 494,.none,r 495,r 496,r 497,i 795,i 198,.str s1 796]
def o499:Obj:=fo s84 s117 (L2.a0i (topT 32) 4) (.str s4 419) (r 498)
def o500:Obj:=tu #[] 0
def o501:Obj:=⟨.none,none,.fields #[],#[]⟩
def o502:Obj:=tu #[.str s71 801,.str s46 802] 0
def o503:Obj:=tu #[] 0
def o504:Obj:=f0 s85 s118 (L2.a0i (topT 32) 5)
def o505:Obj:=co #[.str s85 798,.str s118 799,.str s1 800,i 203,i 2,i 0,i 0,i 3,r 500,.bool true,i 181,r 501,.none,r 502,r 503,r 504,i 803,i 203,.str s1 804]
def o506:Obj:=fo s85 s118 (L2.a0i (topT 32) 5) (.str s4 419) (r 505)
def o507:Obj:=tu #[] 0
def o508:Obj:=⟨.none,none,.fields #[],#[]⟩
def o509:Obj:=tu #[.str s71 809,.str s78 810] 0
def o510:Obj:=tu #[] 0
def o511:Obj:=f0 s86 s119 (L2.a0i (topT 32) 6)
def o512:Obj:=co #[.str s86 806,.str s119 807,.str s1 808,i 206,i 2,i 0,i 0,i 3,r 507,.bool true,i 181,r 508,.none,r 509,r 510,r 511,i 811,i 206,.str s1 812]
def o513:Obj:=fo s86 s119 (L2.a0i (topT 32) 6) (.str s4 419) (r 512)
def o514:Obj:=tu #[] 0
def o515:Obj:=⟨.none,none,.fields #[],#[]⟩
def o516:Obj:=tu #[.str s71 817,.str s58 818] 0
def o517:Obj:=tu #[] 0
def o518:Obj:=f0 s87 s120 (L2.a0i (topT 32) 7)
def o519:Obj:=co #[.str s87 814,.str s120 815,.str s1 816,i 209,i 2,i 0,i 0,i 3,r 514,.bool true,i 181,r 515,.none,r 516,r 517,r 518,i 819,i 209,.str s1 820]
def o520:Obj:=fo s87 s120 (L2.a0i (topT 32) 7) (.str s4 419) (r 519)
def o521:Obj:=tu #[] 0
def o522(P:Params):Obj:=⟨.type q1,none,.dict #[⟨kh P s39,.str s39 754,.str s4 419⟩,⟨kh P s42,.str s42 758,.int 184 757⟩,⟨kh P s81,.str s81 765,r 471⟩,⟨kh P s82,.str s82 772,r 478⟩,⟨kh P s48,.str s48 779,r 485⟩,⟨kh P s83,.str s83 788,r 492⟩,⟨kh P s84,.str s84 797,r 499⟩,⟨kh P s85,.str s85 805,r 506⟩,⟨kh P s86,.str s86 813,r 513⟩,⟨kh P s87,.str s87 821,r 520⟩,⟨kh P s43,.str s43 822,r 521⟩,⟨kh P s5,.str s5 823,.none⟩] 2,#[]⟩
def o523:Obj:=⟨.type q6,none,.cls ⟨s65,[r 284],[r 523,r 284,r 216,.type q9],522,s65,true,[],[],false,none,false⟩,#[some (r 458),none,some (.str s65 747),some (.str s65 755),some (.builtin q14),some (.bool true)]⟩
def o524:Obj:=⟨.type q12,none,.fields #[r 523,r 523,r 523],#[]⟩
def o525:Obj:=⟨.type q4,none,.fields #[.builtin q13,r 523],#[]⟩
def o526:Obj:=tu #[r 284] 0
def o527:Obj:=⟨.type q4,none,.fields #[.builtin q5,.type q6],#[]⟩
def o528(P:Params):Obj:=⟨.type q1,none,.dict #[⟨kh P s39,.str s39 833,.str s4 419⟩,⟨kh P s41,.str s41 835,.str s66 834⟩,⟨kh P s42,.str s42 837,.int 214 836⟩,⟨kh P s81,.str s81 844,r 539⟩,⟨kh P s82,.str s82 851,r 546⟩,⟨kh P s48,.str s48 858,r 553⟩,⟨kh P s83,.str s83 867,r 560⟩,⟨kh P s84,.str s84 876,r 567⟩,⟨kh P s85,.str s85 884,r 574⟩,⟨kh P s86,.str s86 892,r 581⟩,⟨kh P s87,.str s87 900,r 588⟩,⟨kh P s43,.str s43 901,r 589⟩] 12,#[]⟩
def o529:Obj:=tu #[] 0
def o530:Obj:=⟨.none,none,.fields #[i 216,i 4,r 538,i 219,i 4,r 545,i 222,i 4,r 552,i 225,i 4,r 559,i 228,i 4,r 566,i 231,i 4,r 573,i 234,i 4,r 580,i 237,i 4,r 587],#[]⟩
def o531:Obj:=co #[.str s66 828,.str s66 829,.str s1 830,i 214,i 0,i 0,i 0,i 0,r 529,.bool false,i 181,r 530,.none,.none,.none,.none,i 831,i 214,.str s1 832]
def o532:Obj:=⟨.type q0,none,.plain,#[some (r 531),some (r 3),some (r 528),none,some (.str s4 419),none,some (r 0)]⟩
def o533:Obj:=tu #[] 0
def o534:Obj:=⟨.none,none,.fields #[],#[]⟩
def o535:Obj:=tu #[.str s71 841] 0
def o536:Obj:=tu #[] 0
def o537:Obj:=f0 s81 s121 (L2.a0i (topT 33) 0)
def o538:Obj:=co #[.str s81 838,.str s121 839,.str s1 840,i 216,i 1,i 0,i 0,i 3,r 533,.bool true,i 181,r 534,.none,r 535,r 536,r 537,i 842,i 216,.str s1 843]
def o539:Obj:=fo s81 s121 (L2.a0i (topT 33) 0) (.str s4 419) (r 538)
def o540:Obj:=tu #[] 0
def o541:Obj:=⟨.none,none,.fields #[],#[]⟩
def o542:Obj:=tu #[.str s71 848] 0
def o543:Obj:=tu #[] 0
def o544:Obj:=f0 s82 s122 (L2.a0i (topT 33) 1)
def o545:Obj:=co #[.str s82 845,.str s122 846,.str s1 847,i 219,i 1,i 0,i 0,i 3,r 540,.bool true,i 181,r 541,.none,r 542,r 543,r 544,i 849,i 219,.str s1 850]
def o546:Obj:=fo s82 s122 (L2.a0i (topT 33) 1) (.str s4 419) (r 545)
def o547:Obj:=tu #[] 0
def o548:Obj:=⟨.none,none,.fields #[],#[]⟩
def o549:Obj:=tu #[.str s71 855] 0
def o550:Obj:=tu #[] 0
def o551:Obj:=f0 s48 s123 (L2.a0i (topT 33) 2)
def o552:Obj:=co #[.str s48 852,.str s123 853,.str s1 854,i 222,i 1,i 0,i 0,i 3,r 547,.bool true,i 181,r 548,.none,r 549,r 550,r 551,i 856,i 222,.str s1 857]
def o553:Obj:=fo s48 s123 (L2.a0i (topT 33) 2) (.str s4 419) (r 552)
def o554:Obj:=tu #[] 0
def o555:Obj:=⟨.none,none,.fields #[],#[]⟩
def o556:Obj:=tu #[.str s71 862,.str s78 863,.str s91 864] 0
def o557:Obj:=tu #[] 0
def o558:Obj:=f0 s83 s124 (L2.a0i (topT 33) 3)
def o559:Obj:=co #[.str s83 859,.str s124 860,.str s1 861,i 225,i 3,i 0,i 0,i 3,r 554,.bool true,i 181,r 555,.none,r 556,r 557,r 558,i 865,i 225,.str s1 866]
def o560:Obj:=fo s83 s124 (L2.a0i (topT 33) 3) (.str s4 419) (r 559)
def o561:Obj:=tu #[] 0
def o562:Obj:=⟨.none,none,.fields #[],#[]⟩
def o563:Obj:=tu #[.str s71 871,.str s78 872,.str s91 873] 0
def o564:Obj:=tu #[] 0
def o565:Obj:=f0 s84 s125 (L2.a0i (topT 33) 4)
def o566:Obj:=co #[.str s84 868,.str s125 869,.str s1 870,i 228,i 3,i 0,i 0,i 3,r 561,.bool true,i 181,r 562,.none,r 563,r 564,r 565,i 874,i 228,.str s1 875]
def o567:Obj:=fo s84 s125 (L2.a0i (topT 33) 4) (.str s4 419) (r 566)
def o568:Obj:=tu #[] 0
def o569:Obj:=⟨.none,none,.fields #[],#[]⟩
def o570:Obj:=tu #[.str s71 880,.str s46 881] 0
def o571:Obj:=tu #[] 0
def o572:Obj:=f0 s85 s126 (L2.a0i (topT 33) 5)
def o573:Obj:=co #[.str s85 877,.str s126 878,.str s1 879,i 231,i 2,i 0,i 0,i 3,r 568,.bool true,i 181,r 569,.none,r 570,r 571,r 572,i 882,i 231,.str s1 883]
def o574:Obj:=fo s85 s126 (L2.a0i (topT 33) 5) (.str s4 419) (r 573)
def o575:Obj:=tu #[] 0
def o576:Obj:=⟨.none,none,.fields #[],#[]⟩
def o577:Obj:=tu #[.str s71 888,.str s78 889] 0
def o578:Obj:=tu #[] 0
def o579:Obj:=f0 s86 s127 (L2.a0i (topT 33) 6)
def o580:Obj:=co #[.str s86 885,.str s127 886,.str s1 887,i 234,i 2,i 0,i 0,i 3,r 575,.bool true,i 181,r 576,.none,r 577,r 578,r 579,i 890,i 234,.str s1 891]
def o581:Obj:=fo s86 s127 (L2.a0i (topT 33) 6) (.str s4 419) (r 580)
def o582:Obj:=tu #[] 0
def o583:Obj:=⟨.none,none,.fields #[],#[]⟩
def o584:Obj:=tu #[.str s71 896,.str s58 897] 0
def o585:Obj:=tu #[] 0
def o586:Obj:=f0 s87 s128 (L2.a0i (topT 33) 7)
def o587:Obj:=co #[.str s87 893,.str s128 894,.str s1 895,i 237,i 2,i 0,i 0,i 3,r 582,.bool true,i 181,r 583,.none,r 584,r 585,r 586,i 898,i 237,.str s1 899]
def o588:Obj:=fo s87 s128 (L2.a0i (topT 33) 7) (.str s4 419) (r 587)
def o589:Obj:=tu #[] 0
def o590(P:Params):Obj:=⟨.type q1,none,.dict #[⟨kh P s39,.str s39 833,.str s4 419⟩,⟨kh P s42,.str s42 837,.int 214 836⟩,⟨kh P s81,.str s81 844,r 539⟩,⟨kh P s82,.str s82 851,r 546⟩,⟨kh P s48,.str s48 858,r 553⟩,⟨kh P s83,.str s83 867,r 560⟩,⟨kh P s84,.str s84 876,r 567⟩,⟨kh P s85,.str s85 884,r 574⟩,⟨kh P s86,.str s86 892,r 581⟩,⟨kh P s87,.str s87 900,r 588⟩,⟨kh P s43,.str s43 901,r 589⟩,⟨kh P s5,.str s5 902,.none⟩] 2,#[]⟩
def o591:Obj:=⟨.type q6,none,.cls ⟨s66,[r 284],[r 591,r 284,r 216,.type q9],590,s66,true,[],[],false,none,false⟩,#[some (r 526),none,some (.str s66 826),some (.str s66 834),some (.builtin q14),some (.bool true)]⟩
def o592:Obj:=⟨.type q12,none,.fields #[r 591,r 591,r 591],#[]⟩
def o593:Obj:=⟨.type q4,none,.fields #[.builtin q13,r 591],#[]⟩
def o3_2(P:Params):Obj:=⟨.type q1,none,.dict #[⟨kh P s3,.str s3 165,.str s60 905⟩,⟨kh P s5,.str s5 166,.none⟩,⟨kh P s6,.str s6 167,.none⟩,⟨kh P s7,.str s7 168,.builtin q2⟩,⟨kh P s8,.str s8 169,.none⟩,⟨kh P s9,.str s9 170,r 6⟩,⟨kh P s10,.str s10 171,r 4⟩,⟨kh P s11,.str s11 173,.str s1 172⟩,⟨kh P s12,.str s12 174,.none⟩,⟨kh P s13,.str s13 193,r 21⟩,⟨kh P s14,.str s14 213,r 31⟩,⟨kh P s15,.str s15 229,r 44⟩,⟨kh P s16,.str s16 245,r 56⟩,⟨kh P s17,.str s17 261,r 68⟩,⟨kh P s18,.str s18 277,r 80⟩,⟨kh P s19,.str s19 293,r 92⟩,⟨kh P s20,.str s20 309,r 104⟩,⟨kh P s21,.str s21 325,r 116⟩,⟨kh P s22,.str s22 341,r 128⟩,⟨kh P s23,.str s23 357,r 140⟩,⟨kh P s24,.str s24 373,r 152⟩,⟨kh P s25,.str s25 381,r 159⟩,⟨kh P s26,.str s26 390,r 166⟩,⟨kh P s27,.str s27 401,r 173⟩,⟨kh P s28,.str s28 410,r 180⟩,⟨kh P s29,.str s29 418,r 187⟩,⟨kh P s30,.str s30 422,.str s31 421⟩,⟨kh P s32,.str s32 424,.int 30 423⟩,⟨kh P s33,.str s33 426,.int 1000000 425⟩,⟨kh P s34,.str s34 432,r 192⟩,⟨kh P s35,.str s35 439,r 199⟩,⟨kh P s36,.str s36 446,r 206⟩,⟨kh P s37,.str s37 466,r 216⟩,⟨kh P s61,.str s61 496,r 244⟩,⟨kh P s62,.str s62 542,r 284⟩,⟨kh P s63,.str s63 640,r 366⟩,⟨kh P s64,.str s64 746,r 455⟩,⟨kh P s65,.str s65 825,r 523⟩,⟨kh P s66,.str s66 904,r 591⟩,⟨kh P s67,.str s67 908,.int 40 907⟩,⟨kh P s68,.str s68 910,.int 12 909⟩,⟨kh P s129,.str s129 935,r 594⟩] 42,#[]⟩
def o594(P:Params):Obj:=⟨.type q1,none,.dict #[⟨kh P s130,.str s130 911,.int 0 912⟩,⟨kh P s131,.str s131 913,.int 0 914⟩,⟨kh P s84,.str s84 915,.int 1 916⟩,⟨kh P s132,.str s132 917,.int 2 918⟩,⟨kh P s133,.str s133 919,.int 2 920⟩,⟨kh P s134,.str s134 921,.int 2 922⟩,⟨kh P s135,.str s135 923,.int 1 924⟩,⟨kh P s136,.str s136 925,.int 1 926⟩] 8,#[]⟩
def o3_3(P:Params):Obj:=⟨.type q1,none,.dict #[⟨kh P s3,.str s3 165,.str s137 988⟩,⟨kh P s5,.str s5 166,.none⟩,⟨kh P s6,.str s6 167,.none⟩,⟨kh P s7,.str s7 168,.builtin q2⟩,⟨kh P s8,.str s8 169,.none⟩,⟨kh P s9,.str s9 170,r 6⟩,⟨kh P s10,.str s10 171,r 4⟩,⟨kh P s11,.str s11 173,.str s1 172⟩,⟨kh P s12,.str s12 174,.none⟩,⟨kh P s13,.str s13 193,r 21⟩,⟨kh P s14,.str s14 213,r 31⟩,⟨kh P s15,.str s15 229,r 44⟩,⟨kh P s16,.str s16 245,r 56⟩,⟨kh P s17,.str s17 261,r 68⟩,⟨kh P s18,.str s18 277,r 80⟩,⟨kh P s19,.str s19 293,r 92⟩,⟨kh P s20,.str s20 309,r 104⟩,⟨kh P s21,.str s21 325,r 116⟩,⟨kh P s22,.str s22 341,r 128⟩,⟨kh P s23,.str s23 357,r 140⟩,⟨kh P s24,.str s24 373,r 152⟩,⟨kh P s25,.str s25 381,r 159⟩,⟨kh P s26,.str s26 390,r 166⟩,⟨kh P s27,.str s27 401,r 173⟩,⟨kh P s28,.str s28 410,r 180⟩,⟨kh P s29,.str s29 418,r 187⟩,⟨kh P s30,.str s30 422,.str s31 421⟩,⟨kh P s32,.str s32 424,.int 30 423⟩,⟨kh P s33,.str s33 426,.int 1000000 425⟩,⟨kh P s34,.str s34 432,r 192⟩,⟨kh P s35,.str s35 439,r 199⟩,⟨kh P s36,.str s36 446,r 206⟩,⟨kh P s37,.str s37 466,r 216⟩,⟨kh P s61,.str s61 496,r 244⟩,⟨kh P s62,.str s62 542,r 284⟩,⟨kh P s63,.str s63 640,r 366⟩,⟨kh P s64,.str s64 746,r 455⟩,⟨kh P s65,.str s65 825,r 523⟩,⟨kh P s66,.str s66 904,r 591⟩,⟨kh P s67,.str s67 908,.int 40 907⟩,⟨kh P s68,.str s68 910,.int 12 909⟩,⟨kh P s129,.str s129 935,r 594⟩,⟨kh P s138,.str s138 942,r 601⟩,⟨kh P s139,.str s139 950,r 608⟩,⟨kh P s140,.str s140 957,r 615⟩,⟨kh P s141,.str s141 970,r 622⟩,⟨kh P s142,.str s142 976,r 627⟩,⟨kh P s143,.str s143 987,r 634⟩,⟨kh P s144,.str s144 998,r 641⟩,⟨kh P s145,.str s145 1007,r 648⟩,⟨kh P s146,.str s146 1015,r 655⟩,⟨kh P s147,.str s147 1024,r 662⟩,⟨kh P s148,.str s148 1031,r 669⟩,⟨kh P s149,.str s149 1039,r 676⟩,⟨kh P s150,.str s150 1046,r 683⟩,⟨kh P s151,.str s151 1054,r 690⟩,⟨kh P s152,.str s152 1060,r 695⟩,⟨kh P s153,.str s153 1068,r 702⟩,⟨kh P s154,.str s154 1078,r 709⟩,⟨kh P s155,.str s155 1092,r 716⟩,⟨kh P s156,.str s156 1101,r 723⟩,⟨kh P s157,.str s157 1112,r 730⟩,⟨kh P s158,.str s158 1118,r 735⟩,⟨kh P s159,.str s159 1131,r 742⟩,⟨kh P s160,.str s160 1137,r 747⟩,⟨kh P s161,.str s161 1153,r 754⟩,⟨kh P s162,.str s162 1160,r 761⟩,⟨kh P s163,.str s163 1173,r 768⟩,⟨kh P s164,.str s164 1186,r 775⟩,⟨kh P s165,.str s165 1202,r 782⟩] 70,#[]⟩
def o12_3:Obj:=⟨.none,none,.fields #[i 1,i 0,r 20,i 5,i 0,r 27,i 7,i 0,r 40,i 9,i 0,r 52,i 11,i 0,r 64,i 13,i 0,r 76,i 15,i 0,r 88,i 17,i 0,r 100,i 19,i 0,r 112,i 21,i 0,r 124,i 23,i 0,r 136,i 25,i 0,r 148,i 28,i 0,r 158,i 31,i 0,r 165,i 33,i 0,r 172,i 41,i 0,r 179,i 50,i 0,r 186,i 63,i 0,r 191,i 72,i 0,r 198,i 76,i 0,r 205,i 79,i 0,r 212,i 81,i 0,r 226,i 88,i 0,r 252,i 101,i 0,r 292,i 144,i 0,r 374,i 184,i 0,r 463,i 214,i 0,r 531,i 248,i 0,r 600,i 250,i 0,r 607,i 256,i 0,r 614,i 260,i 0,r 621,i 272,i 0,r 626,i 274,i 0,r 633,i 282,i 0,r 640,i 291,i 0,r 647,i 298,i 0,r 654,i 302,i 0,r 661,i 305,i 0,r 668,i 307,i 0,r 675,i 310,i 0,r 682,i 318,i 0,r 689,i 328,i 0,r 694,i 335,i 0,r 701,i 345,i 0,r 708,i 356,i 0,r 715,i 371,i 0,r 722,i 381,i 0,r 729,i 398,i 0,r 734,i 404,i 0,r 741,i 425,i 0,r 746,i 444,i 0,r 753,i 465,i 0,r 760,i 469,i 0,r 767,i 482,i 0,r 774,i 492,i 0,r 781],#[]⟩
def o595:Obj:=tu #[] 0
def o596:Obj:=⟨.none,none,.fields #[],#[]⟩
def o597:Obj:=tu #[.str s166 939] 0
def o598:Obj:=tu #[] 0
def o599:Obj:=f0 s138 s138 (topT 38)
def o600:Obj:=co #[.str s138 936,.str s138 937,.str s1 938,i 248,i 1,i 0,i 0,i 3,r 595,.bool true,i 181,r 596,.none,r 597,r 598,r 599,i 940,i 248,.str s1 941]
def o601:Obj:=fo s138 s138 (topT 38) (.str s60 905) (r 600)
def o602:Obj:=tu #[] 0
def o603:Obj:=⟨.none,none,.fields #[],#[]⟩
def o604:Obj:=tu #[.str s167 946,.str s58 947] 0
def o605:Obj:=tu #[] 0
def o606:Obj:=f0 s139 s139 (topT 39)
def o607:Obj:=co #[.str s139 943,.str s139 944,.str s1 945,i 250,i 2,i 0,i 0,i 3,r 602,.bool true,i 181,r 603,.none,r 604,r 605,r 606,i 948,i 250,.str s1 949]
def o608:Obj:=fo s139 s139 (topT 39) (.str s60 905) (r 607)
def o609:Obj:=tu #[] 0
def o610:Obj:=⟨.none,none,.fields #[],#[]⟩
def o611:Obj:=tu #[.str s98 954] 0
def o612:Obj:=tu #[] 0
def o613:Obj:=f0 s140 s140 (topT 40)
def o614:Obj:=co #[.str s140 951,.str s140 952,.str s1 953,i 256,i 1,i 0,i 0,i 3,r 609,.bool true,i 181,r 610,.none,r 611,r 612,r 613,i 955,i 256,.str s1 956]
def o615:Obj:=fo s140 s140 (topT 40) (.str s60 905) (r 614)
def o616:Obj:=tu #[] 0
def o617:Obj:=⟨.none,none,.fields #[],#[]⟩
def o618:Obj:=tu #[.str s168 961,.str s167 962,.str s98 963,.str s169 964,.str s170 965,.str s81 966,.str s171 967] 0
def o619:Obj:=tu #[] 0
def o620:Obj:=f0 s141 s141 (topT 41)
def o621:Obj:=co #[.str s141 958,.str s141 959,.str s1 960,i 260,i 4,i 0,i 0,i 3,r 616,.bool true,i 181,r 617,.none,r 618,r 619,r 620,i 968,i 260,.str s1 969]
def o622:Obj:=fo s141 s141 (topT 41) (.str s60 905) (r 621)
def o623:Obj:=tu #[] 0
def o624:Obj:=⟨.none,none,.fields #[],#[]⟩
def o625:Obj:=f0 s142 s142 (topT 42)
def o626:Obj:=co #[.str s142 971,.str s142 972,.str s1 973,i 272,i 1,i 0,i 0,i 3,r 623,.bool true,i 181,r 624,.none,.none,.none,r 625,i 974,i 272,.str s1 975]
def o627:Obj:=fo s142 s142 (topT 42) (.str s60 905) (r 626)
def o628:Obj:=tu #[] 0
def o629:Obj:=⟨.none,none,.fields #[],#[]⟩
def o630:Obj:=tu #[.str s168 980,.str s167 981,.str s58 982,.str s98 983,.str s81 984] 0
def o631:Obj:=tu #[] 0
def o632:Obj:=f0 s143 s143 (topT 43)
def o633:Obj:=co #[.str s143 977,.str s143 978,.str s1 979,i 274,i 3,i 0,i 0,i 3,r 628,.bool true,i 181,r 629,.none,r 630,r 631,r 632,i 985,i 274,.str s1 986]
def o634:Obj:=fo s143 s143 (topT 43) (.str s60 905) (r 633)
def o635:Obj:=tu #[] 0
def o636:Obj:=⟨.none,none,.fields #[],#[]⟩
def o637:Obj:=tu #[.str s172 993,.str s173 994,.str s174 995] 0
def o638:Obj:=tu #[] 0
def o639:Obj:=f0 s144 s144 (topT 45)
def o640:Obj:=co #[.str s144 990,.str s144 991,.str s1 992,i 282,i 2,i 0,i 0,i 3,r 635,.bool true,i 181,r 636,.none,r 637,r 638,r 639,i 996,i 282,.str s1 997]
def o641:Obj:=fo s144 s144 (topT 45) (.str s137 988) (r 640)
def o642:Obj:=tu #[] 0
def o643:Obj:=⟨.none,none,.fields #[],#[]⟩
def o644:Obj:=tu #[.str s175 1002,.str s176 1003,.str s177 1004] 0
def o645:Obj:=tu #[] 0
def o646:Obj:=f0 s145 s145 (topT 46)
def o647:Obj:=co #[.str s145 999,.str s145 1000,.str s1 1001,i 291,i 1,i 0,i 0,i 3,r 642,.bool true,i 181,r 643,.none,r 644,r 645,r 646,i 1005,i 291,.str s1 1006]
def o648:Obj:=fo s145 s145 (topT 46) (.str s137 988) (r 647)
def o649:Obj:=tu #[] 0
def o650:Obj:=⟨.none,none,.fields #[],#[]⟩
def o651:Obj:=tu #[.str s178 1011,.str s179 1012] 0
def o652:Obj:=tu #[] 0
def o653:Obj:=f0 s146 s146 (topT 47)
def o654:Obj:=co #[.str s146 1008,.str s146 1009,.str s1 1010,i 298,i 2,i 0,i 0,i 3,r 649,.bool true,i 181,r 650,.none,r 651,r 652,r 653,i 1013,i 298,.str s1 1014]
def o655:Obj:=fo s146 s146 (topT 47) (.str s137 988) (r 654)
def o656:Obj:=tu #[] 0
def o657:Obj:=⟨.none,none,.fields #[],#[]⟩
def o658:Obj:=tu #[.str s180 1019,.str s181 1020,.str s182 1021] 0
def o659:Obj:=tu #[] 0
def o660:Obj:=f0 s147 s147 (topT 48)
def o661:Obj:=co #[.str s147 1016,.str s147 1017,.str s1 1018,i 302,i 2,i 0,i 0,i 3,r 656,.bool true,i 181,r 657,.none,r 658,r 659,r 660,i 1022,i 302,.str s1 1023]
def o662:Obj:=fo s147 s147 (topT 48) (.str s137 988) (r 661)
def o663:Obj:=tu #[] 0
def o664:Obj:=⟨.none,none,.fields #[],#[]⟩
def o665:Obj:=tu #[.str s183 1028] 0
def o666:Obj:=tu #[] 0
def o667:Obj:=f0 s148 s148 (topT 49)
def o668:Obj:=co #[.str s148 1025,.str s148 1026,.str s1 1027,i 305,i 1,i 0,i 0,i 3,r 663,.bool true,i 181,r 664,.none,r 665,r 666,r 667,i 1029,i 305,.str s1 1030]
def o669:Obj:=fo s148 s148 (topT 49) (.str s137 988) (r 668)
def o670:Obj:=tu #[] 0
def o671:Obj:=⟨.none,none,.fields #[],#[]⟩
def o672:Obj:=tu #[.str s172 1035,.str s184 1036] 0
def o673:Obj:=tu #[] 0
def o674:Obj:=f0 s149 s149 (topT 50)
def o675:Obj:=co #[.str s149 1032,.str s149 1033,.str s1 1034,i 307,i 1,i 0,i 0,i 3,r 670,.bool true,i 181,r 671,.none,r 672,r 673,r 674,i 1037,i 307,.str s1 1038]
def o676:Obj:=fo s149 s149 (topT 50) (.str s137 988) (r 675)
def o677:Obj:=tu #[] 0
def o678:Obj:=⟨.none,none,.fields #[],#[]⟩
def o679:Obj:=tu #[.str s183 1043] 0
def o680:Obj:=tu #[] 0
def o681:Obj:=f0 s150 s150 (topT 51)
def o682:Obj:=co #[.str s150 1040,.str s150 1041,.str s1 1042,i 310,i 1,i 0,i 0,i 3,r 677,.bool true,i 181,r 678,.none,r 679,r 680,r 681,i 1044,i 310,.str s1 1045]
def o683:Obj:=fo s150 s150 (topT 51) (.str s137 988) (r 682)
def o684:Obj:=tu #[] 0
def o685:Obj:=⟨.none,none,.fields #[],#[]⟩
def o686:Obj:=tu #[.str s172 1050,.str s183 1051] 0
def o687:Obj:=tu #[] 0
def o688:Obj:=f0 s151 s151 (topT 52)
def o689:Obj:=co #[.str s151 1047,.str s151 1048,.str s1 1049,i 318,i 2,i 0,i 0,i 3,r 684,.bool true,i 181,r 685,.none,r 686,r 687,r 688,i 1052,i 318,.str s1 1053]
def o690:Obj:=fo s151 s151 (topT 52) (.str s137 988) (r 689)
def o691:Obj:=tu #[] 0
def o692:Obj:=⟨.none,none,.fields #[],#[]⟩
def o693:Obj:=f0 s152 s152 (topT 53)
def o694:Obj:=co #[.str s152 1055,.str s152 1056,.str s1 1057,i 328,i 2,i 0,i 0,i 3,r 691,.bool true,i 181,r 692,.none,.none,.none,r 693,i 1058,i 328,.str s1 1059]
def o695:Obj:=fo s152 s152 (topT 53) (.str s137 988) (r 694)
def o696:Obj:=tu #[] 0
def o697:Obj:=⟨.none,none,.fields #[],#[]⟩
def o698:Obj:=tu #[.str s183 1064,.str s185 1065] 0
def o699:Obj:=tu #[] 0
def o700:Obj:=f0 s153 s153 (topT 54)
def o701:Obj:=co #[.str s153 1061,.str s153 1062,.str s1 1063,i 335,i 2,i 0,i 0,i 3,r 696,.bool true,i 181,r 697,.none,r 698,r 699,r 700,i 1066,i 335,.str s1 1067]
def o702:Obj:=fo s153 s153 (topT 54) (.str s137 988) (r 701)
def o703:Obj:=tu #[] 0
def o704:Obj:=⟨.none,none,.fields #[],#[]⟩
def o705:Obj:=tu #[.str s183 1072,.str s186 1073,.str s187 1074,.str s178 1075] 0
def o706:Obj:=tu #[] 0
def o707:Obj:=f0 s154 s154 (topT 55)
def o708:Obj:=co #[.str s154 1069,.str s154 1070,.str s1 1071,i 345,i 2,i 0,i 0,i 3,r 703,.bool true,i 181,r 704,.none,r 705,r 706,r 707,i 1076,i 345,.str s1 1077]
def o709:Obj:=fo s154 s154 (topT 55) (.str s137 988) (r 708)
def o710:Obj:=tu #[] 0
def o711:Obj:=⟨.none,none,.fields #[],#[]⟩
def o712:Obj:=tu #[.str s172 1082,.str s183 1083,.str s188 1084,.str s189 1085,.str s190 1086,.str s191 1087,.str s192 1088,.str s178 1089] 0
def o713:Obj:=tu #[] 0
def o714:Obj:=f0 s155 s155 (topT 56)
def o715:Obj:=co #[.str s155 1079,.str s155 1080,.str s1 1081,i 356,i 4,i 0,i 0,i 3,r 710,.bool true,i 181,r 711,.none,r 712,r 713,r 714,i 1090,i 356,.str s1 1091]
def o716:Obj:=fo s155 s155 (topT 56) (.str s137 988) (r 715)
def o717:Obj:=tu #[] 0
def o718:Obj:=⟨.none,none,.fields #[],#[]⟩
def o719:Obj:=tu #[.str s193 1096,.str s194 1097,.str s195 1098] 0
def o720:Obj:=tu #[] 0
def o721:Obj:=f0 s156 s156 (topT 57)
def o722:Obj:=co #[.str s156 1093,.str s156 1094,.str s1 1095,i 371,i 1,i 0,i 0,i 3,r 717,.bool true,i 181,r 718,.none,r 719,r 720,r 721,i 1099,i 371,.str s1 1100]
def o723:Obj:=fo s156 s156 (topT 57) (.str s137 988) (r 722)
def o724:Obj:=tu #[] 0
def o725:Obj:=⟨.none,none,.fields #[],#[]⟩
def o726:Obj:=tu #[.str s183 1105,.str s193 1106,.str s180 1107,.str s181 1108,.str s196 1109] 0
def o727:Obj:=tu #[] 0
def o728:Obj:=f0 s157 s157 (topT 58)
def o729:Obj:=co #[.str s157 1102,.str s157 1103,.str s1 1104,i 381,i 2,i 0,i 0,i 3,r 724,.bool true,i 181,r 725,.none,r 726,r 727,r 728,i 1110,i 381,.str s1 1111]
def o730:Obj:=fo s157 s157 (topT 58) (.str s137 988) (r 729)
def o731:Obj:=tu #[] 0
def o732:Obj:=⟨.none,none,.fields #[],#[]⟩
def o733:Obj:=f0 s158 s158 (topT 59)
def o734:Obj:=co #[.str s158 1113,.str s158 1114,.str s1 1115,i 398,i 2,i 0,i 0,i 3,r 731,.bool true,i 181,r 732,.none,.none,.none,r 733,i 1116,i 398,.str s1 1117]
def o735:Obj:=fo s158 s158 (topT 59) (.str s137 988) (r 734)
def o736:Obj:=tu #[] 0
def o737:Obj:=⟨.none,none,.fields #[],#[]⟩
def o738:Obj:=tu #[.str s183 1122,.str s188 1123,.str s187 1124,.str s197 1125,.str s198 1126,.str s199 1127,.str s200 1128] 0
def o739:Obj:=tu #[] 0
def o740:Obj:=f0 s159 s159 (topT 60)
def o741:Obj:=co #[.str s159 1119,.str s159 1120,.str s1 1121,i 404,i 3,i 0,i 0,i 3,r 736,.bool true,i 181,r 737,.none,r 738,r 739,r 740,i 1129,i 404,.str s1 1130]
def o742:Obj:=fo s159 s159 (topT 60) (.str s137 988) (r 741)
def o743:Obj:=tu #[] 0
def o744:Obj:=⟨.none,none,.fields #[],#[]⟩
def o745:Obj:=f0 s160 s160 (topT 61)
def o746:Obj:=co #[.str s160 1132,.str s160 1133,.str s1 1134,i 425,i 3,i 0,i 0,i 3,r 743,.bool true,i 181,r 744,.none,.none,.none,r 745,i 1135,i 425,.str s1 1136]
def o747:Obj:=fo s160 s160 (topT 61) (.str s137 988) (r 746)
def o748:Obj:=tu #[] 0
def o749:Obj:=⟨.none,none,.fields #[],#[]⟩
def o750:Obj:=tu #[.str s172 1141,.str s187 1142,.str s198 1143,.str s190 1144,.str s201 1145,.str s202 1146,.str s203 1147,.str s195 1148,.str s204 1149,.str s205 1150] 0
def o751:Obj:=tu #[] 0
def o752:Obj:=f0 s161 s161 (topT 62)
def o753:Obj:=co #[.str s161 1138,.str s161 1139,.str s1 1140,i 444,i 2,i 0,i 0,i 3,r 748,.bool true,i 181,r 749,.none,r 750,r 751,r 752,i 1151,i 444,.str s1 1152]
def o754:Obj:=fo s161 s161 (topT 62) (.str s137 988) (r 753)
def o755:Obj:=tu #[] 0
def o756:Obj:=⟨.none,none,.fields #[],#[]⟩
def o757:Obj:=tu #[.str s173 1157] 0
def o758:Obj:=tu #[] 0
def o759:Obj:=f0 s162 s162 (topT 63)
def o760:Obj:=co #[.str s162 1154,.str s162 1155,.str s1 1156,i 465,i 1,i 0,i 0,i 3,r 755,.bool true,i 181,r 756,.none,r 757,r 758,r 759,i 1158,i 465,.str s1 1159]
def o761:Obj:=fo s162 s162 (topT 63) (.str s137 988) (r 760)
def o762:Obj:=tu #[] 0
def o763:Obj:=⟨.none,none,.fields #[],#[]⟩
def o764:Obj:=tu #[.str s172 1164,.str s183 1165,.str s188 1166,.str s190 1167,.str s206 1168,.str s187 1169,.str s192 1170] 0
def o765:Obj:=tu #[] 0
def o766:Obj:=f0 s163 s163 (topT 64)
def o767:Obj:=co #[.str s163 1161,.str s163 1162,.str s1 1163,i 469,i 3,i 0,i 0,i 3,r 762,.bool true,i 181,r 763,.none,r 764,r 765,r 766,i 1171,i 469,.str s1 1172]
def o768:Obj:=fo s163 s163 (topT 64) (.str s137 988) (r 767)
def o769:Obj:=tu #[] 0
def o770:Obj:=⟨.none,none,.fields #[],#[]⟩
def o771:Obj:=tu #[.str s207 1177,.str s188 1178,.str s208 1179,.str s174 1180,.str s209 1181,.str s210 1182,.str s211 1183] 0
def o772:Obj:=tu #[] 0
def o773:Obj:=f0 s164 s164 (topT 65)
def o774:Obj:=co #[.str s164 1174,.str s164 1175,.str s1 1176,i 482,i 3,i 0,i 0,i 3,r 769,.bool true,i 181,r 770,.none,r 771,r 772,r 773,i 1184,i 482,.str s1 1185]
def o775:Obj:=fo s164 s164 (topT 65) (.str s137 988) (r 774)
def o776:Obj:=tu #[] 0
def o777:Obj:=⟨.none,none,.fields #[],#[]⟩
def o778:Obj:=tu #[.str s175 1190,.str s172 1191,.str s183 1192,.str s207 1193,.str s188 1194,.str s212 1195,.str s208 1196,.str s192 1197,.str s193 1198,.str s213 1199] 0
def o779:Obj:=tu #[] 0
def o780:Obj:=f0 s165 s165 (topT 66)
def o781:Obj:=co #[.str s165 1187,.str s165 1188,.str s1 1189,i 492,i 1,i 0,i 0,i 3,r 776,.bool true,i 181,r 777,.none,r 778,r 779,r 780,i 1200,i 492,.str s1 1201]
def o782:Obj:=fo s165 s165 (topT 66) (.str s137 988) (r 781)
def envT:Env:={ scope:=Fast.tw5666497643892974332.main.scope,locals:=mainNs,globals:=mainNs,cells:=[],code:=(r 13),frame:=some 14 }
def cT:Code:=.body (behindTheImports Fast.tw5666497643892974332) envT
def qP:Pos:=⟨0,0,0,0⟩
def Ha(P:Params):Heap:=⟨⟨[boot_o_0 P,boot_o_1 P,boot_o_2 P,boot_o_3 P,boot_o_4 P,boot_o_5 P,boot_o_6 P,boot_o_7 P,boot_o_8 P,boot_o_9 P,boot_o_10 P,o11a,o12a,o13a,o14a]⟩,PySem.Life.mk [] [] [] 0 [] [] false #[] [] 0 false false false 0 [2000,10,10] false 0 true [] [] 0 false⟩
def Sa(w:World)(os:OsState):Shared:=⟨Ha w.params,⟨[]⟩,PySem.Drawn.mk 0 0 0 0,187,os⟩
def Tb(P:Params):BT:=(nd (boot_o_0 P) (nd (boot_o_1 P) (nd (boot_o_3 P) (lf (boot_o_7 P)) (lf o11a)) (nd (boot_o_5 P) (lf (boot_o_9 P)) (lf o13a))) (nd (boot_o_2 P) (nd (boot_o_4 P) (lf (boot_o_8 P)) (lf o12a)) (nd (boot_o_6 P) (lf (boot_o_10 P)) (lf o14a))))
def Sb(w:World)(os:OsState):SharedT:=⟨Tb w.params,15,PySem.Life.mk [] [] [] 0 [] [] false #[] [] 0 false false false 0 [2000,10,10] false 0 true [] [] 0 false,⟨[]⟩,PySem.Drawn.mk 0 0 0 0,187,os⟩
def T0(P:Params):BT:=(nd (boot_o_0 P) (nd (boot_o_1 P) (nd (o3_0 P) (nd (boot_o_7 P) (nd o15 (nd o31 (nd o63 (lf (o127 P)) (lf o191)) (nd o95 (lf o159) nl)) (nd o47 (nd (o79 P) (lf o143) (lf o207)) (nd o111 (lf o175) nl))) (nd o23 (nd o39 (nd o71 (lf o135) (lf o199)) (nd (o103 P) (lf o167) nl)) (nd (o55 P) (nd o87 (lf (o151 P)) (lf (o215 P))) (nd o119 (lf o183) nl)))) (nd o11a (nd o19 (nd o35 (nd (o67 P) (lf o131) (lf o195)) (nd o99 (lf o163) nl)) (nd o51 (nd o83 (lf o147) (lf o211)) (nd (o115 P) (lf o179) nl))) (nd o27 (nd (o43 P) (nd o75 (lf (o139 P)) (lf o203)) (nd o107 (lf o171) nl)) (nd o59 (nd (o91 P) (lf o155) (lf o219)) (nd o123 (lf o187) nl))))) (nd (boot_o_5 P) (nd (boot_o_9 P) (nd o17 (nd o33 (nd o65 (lf o129) (lf o193)) (nd (o97 P) (lf o161) nl)) (nd (o49 P) (nd o81 (lf (o145 P)) (lf (o209 P))) (nd o113 (lf o177) nl))) (nd o25 (nd o41 (nd (o73 P) (lf o137) (lf o201)) (nd o105 (lf o169) nl)) (nd o57 (nd o89 (lf o153) (lf o217)) (nd (o121 P) (lf o185) nl)))) (nd o13a (nd o21 (nd (o37 P) (nd o69 (lf (o133 P)) (lf o197)) (nd o101 (lf o165) nl)) (nd o53 (nd (o85 P) (lf o149) (lf o213)) (nd o117 (lf o181) nl))) (nd o29 (nd o45 (nd o77 (lf o141) (lf o205)) (nd (o109 P) (lf o173) nl)) (nd (o61 P) (nd o93 (lf o157) nl) (nd o125 (lf o189) nl)))))) (nd (boot_o_2 P) (nd (boot_o_4 P) (nd (boot_o_8 P) (nd o16 (nd o32 (nd o64 (lf o128) (lf o192)) (nd o96 (lf o160) nl)) (nd o48 (nd o80 (lf o144) (lf o208)) (nd o112 (lf o176) nl))) (nd (o24 P) (nd o40 (nd o72 (lf o136) (lf o200)) (nd o104 (lf o168) nl)) (nd o56 (nd o88 (lf o152) (lf o216_0)) (nd o120 (lf o184) nl)))) (nd o12_0 (nd o20 (nd o36 (nd o68 (lf o132) (lf o196)) (nd o100 (lf o164) nl)) (nd o52 (nd o84 (lf o148) (lf o212)) (nd o116 (lf o180) nl))) (nd o28 (nd o44 (nd o76 (lf o140) (lf o204)) (nd o108 (lf o172) nl)) (nd o60 (nd o92 (lf o156) (lf o220)) (nd o124 (lf o188) nl))))) (nd (boot_o_6 P) (nd (boot_o_10 P) (nd o18 (nd o34 (nd o66 (lf o130) (lf o194)) (nd o98 (lf o162) nl)) (nd o50 (nd o82 (lf o146) (lf o210)) (nd o114 (lf o178) nl))) (nd o26 (nd o42 (nd o74 (lf o138) (lf o202)) (nd o106 (lf o170) nl)) (nd o58 (nd o90 (lf o154) (lf o218)) (nd o122 (lf o186) nl)))) (nd o14a (nd o22 (nd o38 (nd o70 (lf o134) (lf o198)) (nd o102 (lf o166) nl)) (nd o54 (nd o86 (lf o150) (lf o214)) (nd o118 (lf o182) nl))) (nd (o30 P) (nd o46 (nd o78 (lf o142) (lf o206)) (nd o110 (lf o174) nl)) (nd o62 (nd o94 (lf o158) nl) (nd o126 (lf o190) nl)))))))
def S0(w:World)(os:OsState):SharedT:=⟨T0 w.params,221,PySem.Life.mk [] [] [] 0 [] [] false #[] [] 0 false false false 0 [2000,10,10] false 0 true [] [] 0 false,⟨[]⟩,PySem.Drawn.mk 0 0 0 0,467,os⟩
def T1(P:Params):BT:=(nd (boot_o_0 P) (nd (boot_o_1 P) (nd (o3_1 P) (nd (boot_o_7 P) (nd o15 (nd o31 (nd o63 (nd (o127 P) (nd o255 (lf o511) nl) (lf o383)) (nd o191 (nd o319 (lf o575) nl) (lf o447))) (nd o95 (nd o159 (nd o287 (lf o543) nl) (lf o415)) (nd (o223 P) (lf o351) (lf o479)))) (nd o47 (nd (o79 P) (nd o143 (nd o271 (lf o527) nl) (lf o399)) (nd o207 (nd o335 (lf o591) nl) (lf o463))) (nd o111 (nd o175 (nd o303 (lf o559) nl) (lf o431)) (nd o239 (lf o367) (lf o495))))) (nd o23 (nd o39 (nd o71 (nd o135 (nd o263 (lf o519) nl) (lf o391)) (nd o199 (nd o327 (lf o583) nl) (lf o455))) (nd (o103 P) (nd o167 (nd o295 (lf o551) nl) (lf o423)) (nd o231 (lf o359) (lf o487)))) (nd (o55 P) (nd o87 (nd (o151 P) (nd o279 (lf o535) nl) (lf o407)) (nd (o215 P) (lf o343) (lf o471))) (nd o119 (nd o183 (nd o311 (lf o567) nl) (lf o439)) (nd o247 (lf o375) (lf o503)))))) (nd o11a (nd o19 (nd o35 (nd (o67 P) (nd o131 (nd o259 (lf o515) nl) (lf o387)) (nd o195 (nd o323 (lf o579) nl) (lf o451))) (nd o99 (nd o163 (nd o291 (lf o547) nl) (lf o419)) (nd o227 (lf o355) (lf o483)))) (nd o51 (nd o83 (nd o147 (nd o275 (lf o531) nl) (lf o403)) (nd o211 (lf o339) (lf o467))) (nd (o115 P) (nd o179 (nd o307 (lf o563) nl) (lf o435)) (nd (o243 P) (lf (o371 P)) (lf o499))))) (nd o27 (nd (o43 P) (nd o75 (nd (o139 P) (nd o267 (lf o523) nl) (lf o395)) (nd o203 (nd o331 (lf o587) nl) (lf o459))) (nd o107 (nd o171 (nd o299 (lf o555) nl) (lf o427)) (nd o235 (lf o363) (lf o491)))) (nd o59 (nd (o91 P) (nd o155 (nd (o283 P) (lf o539) nl) (lf o411)) (nd o219 (lf o347) (lf o475))) (nd o123 (nd o187 (nd o315 (lf o571) nl) (lf o443)) (nd o251 (lf o379) (lf o507))))))) (nd (boot_o_5 P) (nd (boot_o_9 P) (nd o17 (nd o33 (nd o65 (nd o129 (nd o257 (lf o513) nl) (lf o385)) (nd o193 (nd o321 (lf o577) nl) (lf o449))) (nd (o97 P) (nd o161 (nd (o289 P) (lf o545) nl) (lf o417)) (nd o225 (lf o353) (lf o481)))) (nd (o49 P) (nd o81 (nd (o145 P) (nd o273 (lf o529) nl) (lf o401)) (nd (o209 P) (nd o337 (lf o593) nl) (lf o465))) (nd o113 (nd o177 (nd o305 (lf o561) nl) (lf o433)) (nd o241 (lf o369) (lf o497))))) (nd o25 (nd o41 (nd (o73 P) (nd o137 (nd o265 (lf o521) nl) (lf o393)) (nd o201 (nd o329 (lf o585) nl) (lf o457))) (nd o105 (nd o169 (nd o297 (lf o553) nl) (lf o425)) (nd o233 (lf o361) (lf o489)))) (nd o57 (nd o89 (nd o153 (nd o281 (lf o537) nl) (lf o409)) (nd o217 (lf o345) (lf o473))) (nd (o121 P) (nd o185 (nd o313 (lf o569) nl) (lf o441)) (nd (o249 P) (lf o377) (lf o505)))))) (nd o13a (nd o21 (nd (o37 P) (nd o69 (nd (o133 P) (nd o261 (lf o517) nl) (lf o389)) (nd o197 (nd o325 (lf o581) nl) (lf o453))) (nd o101 (nd o165 (nd o293 (lf o549) nl) (lf o421)) (nd o229 (lf o357) (lf o485)))) (nd o53 (nd (o85 P) (nd o149 (nd o277 (lf o533) nl) (lf o405)) (nd o213 (lf o341) (lf o469))) (nd o117 (nd o181 (nd o309 (lf o565) nl) (lf o437)) (nd o245 (lf o373) (lf o501))))) (nd o29 (nd o45 (nd o77 (nd o141 (nd o269 (lf o525) nl) (lf o397)) (nd o205 (nd o333 (lf o589) nl) (lf o461))) (nd (o109 P) (nd o173 (nd o301 (lf o557) nl) (lf o429)) (nd o237 (lf (o365 P)) (lf o493)))) (nd (o61 P) (nd o93 (nd o157 (nd o285 (lf o541) nl) (lf o413)) (nd o221 (lf o349) (lf o477))) (nd o125 (nd o189 (nd o317 (lf o573) nl) (lf o445)) (nd o253 (lf o381) (lf o509)))))))) (nd (boot_o_2 P) (nd (boot_o_4 P) (nd (boot_o_8 P) (nd o16 (nd o32 (nd o64 (nd o128 (nd o256 (lf o512) nl) (lf o384)) (nd o192 (nd o320 (lf o576) nl) (lf o448))) (nd o96 (nd o160 (nd o288 (lf o544) nl) (lf o416)) (nd o224 (lf o352) (lf o480)))) (nd o48 (nd o80 (nd o144 (nd o272 (lf (o528 P)) nl) (lf o400)) (nd o208 (nd o336 (lf o592) nl) (lf o464))) (nd o112 (nd o176 (nd o304 (lf o560) nl) (lf o432)) (nd o240 (lf o368) (lf o496))))) (nd (o24 P) (nd o40 (nd o72 (nd o136 (nd o264 (lf o520) nl) (lf o392)) (nd o200 (nd o328 (lf o584) nl) (lf o456))) (nd o104 (nd o168 (nd o296 (lf o552) nl) (lf o424)) (nd o232 (lf o360) (lf o488)))) (nd o56 (nd o88 (nd o152 (nd o280 (lf o536) nl) (lf o408)) (nd o216_1 (lf o344) (lf o472))) (nd o120 (nd o184 (nd o312 (lf o568) nl) (lf o440)) (nd o248 (lf o376) (lf o504)))))) (nd o12_1 (nd o20 (nd o36 (nd o68 (nd o132 (nd o260 (lf o516) nl) (lf o388)) (nd o196 (nd o324 (lf o580) nl) (lf o452))) (nd o100 (nd o164 (nd o292 (lf o548) nl) (lf o420)) (nd o228 (lf o356) (lf o484)))) (nd o52 (nd o84 (nd o148 (nd o276 (lf o532) nl) (lf o404)) (nd o212 (lf o340) (lf o468))) (nd o116 (nd o180 (nd o308 (lf o564) nl) (lf o436)) (nd o244 (lf o372) (lf o500))))) (nd o28 (nd o44 (nd o76 (nd o140 (nd o268 (lf o524) nl) (lf o396)) (nd o204 (nd o332 (lf o588) nl) (lf (o460 P)))) (nd o108 (nd o172 (nd o300 (lf o556) nl) (lf o428)) (nd o236 (lf o364) (lf o492)))) (nd o60 (nd o92 (nd o156 (nd o284 (lf o540) nl) (lf o412)) (nd o220 (lf o348) (lf o476))) (nd o124 (nd o188 (nd o316 (lf o572) nl) (lf o444)) (nd o252 (lf o380) (lf o508))))))) (nd (boot_o_6 P) (nd (boot_o_10 P) (nd o18 (nd o34 (nd o66 (nd o130 (nd o258 (lf o514) nl) (lf o386)) (nd o194 (nd o322 (lf o578) nl) (lf o450))) (nd o98 (nd o162 (nd o290 (lf o546) nl) (lf o418)) (nd o226 (lf o354) (lf o482)))) (nd o50 (nd o82 (nd o146 (nd o274 (lf o530) nl) (lf o402)) (nd o210 (lf o338) (lf o466))) (nd o114 (nd o178 (nd o306 (lf o562) nl) (lf o434)) (nd o242 (lf o370) (lf o498))))) (nd o26 (nd o42 (nd o74 (nd o138 (nd o266 (lf (o522 P)) nl) (lf o394)) (nd o202 (nd o330 (lf o586) nl) (lf o458))) (nd o106 (nd o170 (nd o298 (lf o554) nl) (lf o426)) (nd o234 (lf o362) (lf o490)))) (nd o58 (nd o90 (nd o154 (nd o282 (lf o538) nl) (lf o410)) (nd o218 (lf o346) (lf o474))) (nd o122 (nd o186 (nd o314 (lf o570) nl) (lf o442)) (nd o250 (lf o378) (lf o506)))))) (nd o14a (nd o22 (nd o38 (nd o70 (nd o134 (nd o262 (lf o518) nl) (lf o390)) (nd o198 (nd o326 (lf o582) nl) (lf (o454 P)))) (nd o102 (nd o166 (nd o294 (lf o550) nl) (lf o422)) (nd o230 (lf o358) (lf o486)))) (nd o54 (nd o86 (nd o150 (nd o278 (lf o534) nl) (lf o406)) (nd o214 (lf o342) (lf o470))) (nd o118 (nd o182 (nd o310 (lf o566) nl) (lf o438)) (nd o246 (lf o374) (lf o502))))) (nd (o30 P) (nd o46 (nd o78 (nd o142 (nd o270 (lf o526) nl) (lf o398)) (nd o206 (nd o334 (lf (o590 P)) nl) (lf o462))) (nd o110 (nd o174 (nd o302 (lf o558) nl) (lf o430)) (nd o238 (lf o366) (lf o494)))) (nd o62 (nd o94 (nd o158 (nd o286 (lf o542) nl) (lf o414)) (nd o222 (lf o350) (lf o478))) (nd o126 (nd o190 (nd o318 (lf o574) nl) (lf o446)) (nd o254 (lf o382) (lf o510)))))))))
def S1(w:World)(os:OsState):SharedT:=⟨T1 w.params,594,PySem.Life.mk [] [] [] 0 [] [] false #[] [] 0 false false false 0 [2000,10,10] false 0 true [] [] 0 false,⟨[]⟩,PySem.Drawn.mk 0 0 0 0,911,os⟩
def T2(P:Params):BT:=(nd (boot_o_0 P) (nd (boot_o_1 P) (nd (o3_2 P) (nd (boot_o_7 P) (nd o15 (nd o31 (nd o63 (nd (o127 P) (nd o255 (lf o511) nl) (lf o383)) (nd o191 (nd o319 (lf o575) nl) (lf o447))) (nd o95 (nd o159 (nd o287 (lf o543) nl) (lf o415)) (nd (o223 P) (lf o351) (lf o479)))) (nd o47 (nd (o79 P) (nd o143 (nd o271 (lf o527) nl) (lf o399)) (nd o207 (nd o335 (lf o591) nl) (lf o463))) (nd o111 (nd o175 (nd o303 (lf o559) nl) (lf o431)) (nd o239 (lf o367) (lf o495))))) (nd o23 (nd o39 (nd o71 (nd o135 (nd o263 (lf o519) nl) (lf o391)) (nd o199 (nd o327 (lf o583) nl) (lf o455))) (nd (o103 P) (nd o167 (nd o295 (lf o551) nl) (lf o423)) (nd o231 (lf o359) (lf o487)))) (nd (o55 P) (nd o87 (nd (o151 P) (nd o279 (lf o535) nl) (lf o407)) (nd (o215 P) (lf o343) (lf o471))) (nd o119 (nd o183 (nd o311 (lf o567) nl) (lf o439)) (nd o247 (lf o375) (lf o503)))))) (nd o11a (nd o19 (nd o35 (nd (o67 P) (nd o131 (nd o259 (lf o515) nl) (lf o387)) (nd o195 (nd o323 (lf o579) nl) (lf o451))) (nd o99 (nd o163 (nd o291 (lf o547) nl) (lf o419)) (nd o227 (lf o355) (lf o483)))) (nd o51 (nd o83 (nd o147 (nd o275 (lf o531) nl) (lf o403)) (nd o211 (lf o339) (lf o467))) (nd (o115 P) (nd o179 (nd o307 (lf o563) nl) (lf o435)) (nd (o243 P) (lf (o371 P)) (lf o499))))) (nd o27 (nd (o43 P) (nd o75 (nd (o139 P) (nd o267 (lf o523) nl) (lf o395)) (nd o203 (nd o331 (lf o587) nl) (lf o459))) (nd o107 (nd o171 (nd o299 (lf o555) nl) (lf o427)) (nd o235 (lf o363) (lf o491)))) (nd o59 (nd (o91 P) (nd o155 (nd (o283 P) (lf o539) nl) (lf o411)) (nd o219 (lf o347) (lf o475))) (nd o123 (nd o187 (nd o315 (lf o571) nl) (lf o443)) (nd o251 (lf o379) (lf o507))))))) (nd (boot_o_5 P) (nd (boot_o_9 P) (nd o17 (nd o33 (nd o65 (nd o129 (nd o257 (lf o513) nl) (lf o385)) (nd o193 (nd o321 (lf o577) nl) (lf o449))) (nd (o97 P) (nd o161 (nd (o289 P) (lf o545) nl) (lf o417)) (nd o225 (lf o353) (lf o481)))) (nd (o49 P) (nd o81 (nd (o145 P) (nd o273 (lf o529) nl) (lf o401)) (nd (o209 P) (nd o337 (lf o593) nl) (lf o465))) (nd o113 (nd o177 (nd o305 (lf o561) nl) (lf o433)) (nd o241 (lf o369) (lf o497))))) (nd o25 (nd o41 (nd (o73 P) (nd o137 (nd o265 (lf o521) nl) (lf o393)) (nd o201 (nd o329 (lf o585) nl) (lf o457))) (nd o105 (nd o169 (nd o297 (lf o553) nl) (lf o425)) (nd o233 (lf o361) (lf o489)))) (nd o57 (nd o89 (nd o153 (nd o281 (lf o537) nl) (lf o409)) (nd o217 (lf o345) (lf o473))) (nd (o121 P) (nd o185 (nd o313 (lf o569) nl) (lf o441)) (nd (o249 P) (lf o377) (lf o505)))))) (nd o13a (nd o21 (nd (o37 P) (nd o69 (nd (o133 P) (nd o261 (lf o517) nl) (lf o389)) (nd o197 (nd o325 (lf o581) nl) (lf o453))) (nd o101 (nd o165 (nd o293 (lf o549) nl) (lf o421)) (nd o229 (lf o357) (lf o485)))) (nd o53 (nd (o85 P) (nd o149 (nd o277 (lf o533) nl) (lf o405)) (nd o213 (lf o341) (lf o469))) (nd o117 (nd o181 (nd o309 (lf o565) nl) (lf o437)) (nd o245 (lf o373) (lf o501))))) (nd o29 (nd o45 (nd o77 (nd o141 (nd o269 (lf o525) nl) (lf o397)) (nd o205 (nd o333 (lf o589) nl) (lf o461))) (nd (o109 P) (nd o173 (nd o301 (lf o557) nl) (lf o429)) (nd o237 (lf (o365 P)) (lf o493)))) (nd (o61 P) (nd o93 (nd o157 (nd o285 (lf o541) nl) (lf o413)) (nd o221 (lf o349) (lf o477))) (nd o125 (nd o189 (nd o317 (lf o573) nl) (lf o445)) (nd o253 (lf o381) (lf o509)))))))) (nd (boot_o_2 P) (nd (boot_o_4 P) (nd (boot_o_8 P) (nd o16 (nd o32 (nd o64 (nd o128 (nd o256 (lf o512) nl) (lf o384)) (nd o192 (nd o320 (lf o576) nl) (lf o448))) (nd o96 (nd o160 (nd o288 (lf o544) nl) (lf o416)) (nd o224 (lf o352) (lf o480)))) (nd o48 (nd o80 (nd o144 (nd o272 (lf (o528 P)) nl) (lf o400)) (nd o208 (nd o336 (lf o592) nl) (lf o464))) (nd o112 (nd o176 (nd o304 (lf o560) nl) (lf o432)) (nd o240 (lf o368) (lf o496))))) (nd (o24 P) (nd o40 (nd o72 (nd o136 (nd o264 (lf o520) nl) (lf o392)) (nd o200 (nd o328 (lf o584) nl) (lf o456))) (nd o104 (nd o168 (nd o296 (lf o552) nl) (lf o424)) (nd o232 (lf o360) (lf o488)))) (nd o56 (nd o88 (nd o152 (nd o280 (lf o536) nl) (lf o408)) (nd o216_1 (lf o344) (lf o472))) (nd o120 (nd o184 (nd o312 (lf o568) nl) (lf o440)) (nd o248 (lf o376) (lf o504)))))) (nd o12_1 (nd o20 (nd o36 (nd o68 (nd o132 (nd o260 (lf o516) nl) (lf o388)) (nd o196 (nd o324 (lf o580) nl) (lf o452))) (nd o100 (nd o164 (nd o292 (lf o548) nl) (lf o420)) (nd o228 (lf o356) (lf o484)))) (nd o52 (nd o84 (nd o148 (nd o276 (lf o532) nl) (lf o404)) (nd o212 (lf o340) (lf o468))) (nd o116 (nd o180 (nd o308 (lf o564) nl) (lf o436)) (nd o244 (lf o372) (lf o500))))) (nd o28 (nd o44 (nd o76 (nd o140 (nd o268 (lf o524) nl) (lf o396)) (nd o204 (nd o332 (lf o588) nl) (lf (o460 P)))) (nd o108 (nd o172 (nd o300 (lf o556) nl) (lf o428)) (nd o236 (lf o364) (lf o492)))) (nd o60 (nd o92 (nd o156 (nd o284 (lf o540) nl) (lf o412)) (nd o220 (lf o348) (lf o476))) (nd o124 (nd o188 (nd o316 (lf o572) nl) (lf o444)) (nd o252 (lf o380) (lf o508))))))) (nd (boot_o_6 P) (nd (boot_o_10 P) (nd o18 (nd o34 (nd o66 (nd o130 (nd o258 (lf o514) nl) (lf o386)) (nd o194 (nd o322 (lf o578) nl) (lf o450))) (nd o98 (nd o162 (nd o290 (lf o546) nl) (lf o418)) (nd o226 (lf o354) (lf o482)))) (nd o50 (nd o82 (nd o146 (nd o274 (lf o530) nl) (lf o402)) (nd o210 (nd o338 (lf (o594 P)) nl) (lf o466))) (nd o114 (nd o178 (nd o306 (lf o562) nl) (lf o434)) (nd o242 (lf o370) (lf o498))))) (nd o26 (nd o42 (nd o74 (nd o138 (nd o266 (lf (o522 P)) nl) (lf o394)) (nd o202 (nd o330 (lf o586) nl) (lf o458))) (nd o106 (nd o170 (nd o298 (lf o554) nl) (lf o426)) (nd o234 (lf o362) (lf o490)))) (nd o58 (nd o90 (nd o154 (nd o282 (lf o538) nl) (lf o410)) (nd o218 (lf o346) (lf o474))) (nd o122 (nd o186 (nd o314 (lf o570) nl) (lf o442)) (nd o250 (lf o378) (lf o506)))))) (nd o14a (nd o22 (nd o38 (nd o70 (nd o134 (nd o262 (lf o518) nl) (lf o390)) (nd o198 (nd o326 (lf o582) nl) (lf (o454 P)))) (nd o102 (nd o166 (nd o294 (lf o550) nl) (lf o422)) (nd o230 (lf o358) (lf o486)))) (nd o54 (nd o86 (nd o150 (nd o278 (lf o534) nl) (lf o406)) (nd o214 (lf o342) (lf o470))) (nd o118 (nd o182 (nd o310 (lf o566) nl) (lf o438)) (nd o246 (lf o374) (lf o502))))) (nd (o30 P) (nd o46 (nd o78 (nd o142 (nd o270 (lf o526) nl) (lf o398)) (nd o206 (nd o334 (lf (o590 P)) nl) (lf o462))) (nd o110 (nd o174 (nd o302 (lf o558) nl) (lf o430)) (nd o238 (lf o366) (lf o494)))) (nd o62 (nd o94 (nd o158 (nd o286 (lf o542) nl) (lf o414)) (nd o222 (lf o350) (lf o478))) (nd o126 (nd o190 (nd o318 (lf o574) nl) (lf o446)) (nd o254 (lf o382) (lf o510)))))))))
def S2(w:World)(os:OsState):SharedT:=⟨T2 w.params,595,PySem.Life.mk [] [] [] 0 [] [] false #[] [] 0 false false false 0 [2000,10,10] false 0 true [] [] 0 false,⟨[]⟩,PySem.Drawn.mk 0 0 0 0,936,os⟩
def T3(P:Params):BT:=(nd (boot_o_0 P) (nd (boot_o_1 P) (nd (o3_3 P) (nd (boot_o_7 P) (nd o15 (nd o31 (nd o63 (nd (o127 P) (nd o255 (lf o511) (lf o767)) (nd o383 (lf o639) nl)) (nd o191 (nd o319 (lf o575) nl) (nd o447 (lf o703) nl))) (nd o95 (nd o159 (nd o287 (lf o543) nl) (nd o415 (lf o671) nl)) (nd (o223 P) (nd o351 (lf o607) nl) (nd o479 (lf o735) nl)))) (nd o47 (nd (o79 P) (nd o143 (nd o271 (lf o527) nl) (nd o399 (lf o655) nl)) (nd o207 (nd o335 (lf o591) nl) (nd o463 (lf o719) nl))) (nd o111 (nd o175 (nd o303 (lf o559) nl) (nd o431 (lf o687) nl)) (nd o239 (nd o367 (lf o623) nl) (nd o495 (lf o751) nl))))) (nd o23 (nd o39 (nd o71 (nd o135 (nd o263 (lf o519) (lf o775)) (nd o391 (lf o647) nl)) (nd o199 (nd o327 (lf o583) nl) (nd o455 (lf o711) nl))) (nd (o103 P) (nd o167 (nd o295 (lf o551) nl) (nd o423 (lf o679) nl)) (nd o231 (nd o359 (lf o615) nl) (nd o487 (lf o743) nl)))) (nd (o55 P) (nd o87 (nd (o151 P) (nd o279 (lf o535) nl) (nd o407 (lf o663) nl)) (nd (o215 P) (nd o343 (lf o599) nl) (nd o471 (lf o727) nl))) (nd o119 (nd o183 (nd o311 (lf o567) nl) (nd o439 (lf o695) nl)) (nd o247 (nd o375 (lf o631) nl) (nd o503 (lf o759) nl)))))) (nd o11a (nd o19 (nd o35 (nd (o67 P) (nd o131 (nd o259 (lf o515) (lf o771)) (nd o387 (lf o643) nl)) (nd o195 (nd o323 (lf o579) nl) (nd o451 (lf o707) nl))) (nd o99 (nd o163 (nd o291 (lf o547) nl) (nd o419 (lf o675) nl)) (nd o227 (nd o355 (lf o611) nl) (nd o483 (lf o739) nl)))) (nd o51 (nd o83 (nd o147 (nd o275 (lf o531) nl) (nd o403 (lf o659) nl)) (nd o211 (nd o339 (lf o595) nl) (nd o467 (lf o723) nl))) (nd (o115 P) (nd o179 (nd o307 (lf o563) nl) (nd o435 (lf o691) nl)) (nd (o243 P) (nd (o371 P) (lf o627) nl) (nd o499 (lf o755) nl))))) (nd o27 (nd (o43 P) (nd o75 (nd (o139 P) (nd o267 (lf o523) (lf o779)) (nd o395 (lf o651) nl)) (nd o203 (nd o331 (lf o587) nl) (nd o459 (lf o715) nl))) (nd o107 (nd o171 (nd o299 (lf o555) nl) (nd o427 (lf o683) nl)) (nd o235 (nd o363 (lf o619) nl) (nd o491 (lf o747) nl)))) (nd o59 (nd (o91 P) (nd o155 (nd (o283 P) (lf o539) nl) (nd o411 (lf o667) nl)) (nd o219 (nd o347 (lf o603) nl) (nd o475 (lf o731) nl))) (nd o123 (nd o187 (nd o315 (lf o571) nl) (nd o443 (lf o699) nl)) (nd o251 (nd o379 (lf o635) nl) (nd o507 (lf o763) nl))))))) (nd (boot_o_5 P) (nd (boot_o_9 P) (nd o17 (nd o33 (nd o65 (nd o129 (nd o257 (lf o513) (lf o769)) (nd o385 (lf o641) nl)) (nd o193 (nd o321 (lf o577) nl) (nd o449 (lf o705) nl))) (nd (o97 P) (nd o161 (nd (o289 P) (lf o545) nl) (nd o417 (lf o673) nl)) (nd o225 (nd o353 (lf o609) nl) (nd o481 (lf o737) nl)))) (nd (o49 P) (nd o81 (nd (o145 P) (nd o273 (lf o529) nl) (nd o401 (lf o657) nl)) (nd (o209 P) (nd o337 (lf o593) nl) (nd o465 (lf o721) nl))) (nd o113 (nd o177 (nd o305 (lf o561) nl) (nd o433 (lf o689) nl)) (nd o241 (nd o369 (lf o625) nl) (nd o497 (lf o753) nl))))) (nd o25 (nd o41 (nd (o73 P) (nd o137 (nd o265 (lf o521) (lf o777)) (nd o393 (lf o649) nl)) (nd o201 (nd o329 (lf o585) nl) (nd o457 (lf o713) nl))) (nd o105 (nd o169 (nd o297 (lf o553) nl) (nd o425 (lf o681) nl)) (nd o233 (nd o361 (lf o617) nl) (nd o489 (lf o745) nl)))) (nd o57 (nd o89 (nd o153 (nd o281 (lf o537) nl) (nd o409 (lf o665) nl)) (nd o217 (nd o345 (lf o601) nl) (nd o473 (lf o729) nl))) (nd (o121 P) (nd o185 (nd o313 (lf o569) nl) (nd o441 (lf o697) nl)) (nd (o249 P) (nd o377 (lf o633) nl) (nd o505 (lf o761) nl)))))) (nd o13a (nd o21 (nd (o37 P) (nd o69 (nd (o133 P) (nd o261 (lf o517) (lf o773)) (nd o389 (lf o645) nl)) (nd o197 (nd o325 (lf o581) nl) (nd o453 (lf o709) nl))) (nd o101 (nd o165 (nd o293 (lf o549) nl) (nd o421 (lf o677) nl)) (nd o229 (nd o357 (lf o613) nl) (nd o485 (lf o741) nl)))) (nd o53 (nd (o85 P) (nd o149 (nd o277 (lf o533) nl) (nd o405 (lf o661) nl)) (nd o213 (nd o341 (lf o597) nl) (nd o469 (lf o725) nl))) (nd o117 (nd o181 (nd o309 (lf o565) nl) (nd o437 (lf o693) nl)) (nd o245 (nd o373 (lf o629) nl) (nd o501 (lf o757) nl))))) (nd o29 (nd o45 (nd o77 (nd o141 (nd o269 (lf o525) (lf o781)) (nd o397 (lf o653) nl)) (nd o205 (nd o333 (lf o589) nl) (nd o461 (lf o717) nl))) (nd (o109 P) (nd o173 (nd o301 (lf o557) nl) (nd o429 (lf o685) nl)) (nd o237 (nd (o365 P) (lf o621) nl) (nd o493 (lf o749) nl)))) (nd (o61 P) (nd o93 (nd o157 (nd o285 (lf o541) nl) (nd o413 (lf o669) nl)) (nd o221 (nd o349 (lf o605) nl) (nd o477 (lf o733) nl))) (nd o125 (nd o189 (nd o317 (lf o573) nl) (nd o445 (lf o701) nl)) (nd o253 (nd o381 (lf o637) nl) (nd o509 (lf o765) nl)))))))) (nd (boot_o_2 P) (nd (boot_o_4 P) (nd (boot_o_8 P) (nd o16 (nd o32 (nd o64 (nd o128 (nd o256 (lf o512) (lf o768)) (nd o384 (lf o640) nl)) (nd o192 (nd o320 (lf o576) nl) (nd o448 (lf o704) nl))) (nd o96 (nd o160 (nd o288 (lf o544) nl) (nd o416 (lf o672) nl)) (nd o224 (nd o352 (lf o608) nl) (nd o480 (lf o736) nl)))) (nd o48 (nd o80 (nd o144 (nd o272 (lf (o528 P)) nl) (nd o400 (lf o656) nl)) (nd o208 (nd o336 (lf o592) nl) (nd o464 (lf o720) nl))) (nd o112 (nd o176 (nd o304 (lf o560) nl) (nd o432 (lf o688) nl)) (nd o240 (nd o368 (lf o624) nl) (nd o496 (lf o752) nl))))) (nd (o24 P) (nd o40 (nd o72 (nd o136 (nd o264 (lf o520) (lf o776)) (nd o392 (lf o648) nl)) (nd o200 (nd o328 (lf o584) nl) (nd o456 (lf o712) nl))) (nd o104 (nd o168 (nd o296 (lf o552) nl) (nd o424 (lf o680) nl)) (nd o232 (nd o360 (lf o616) nl) (nd o488 (lf o744) nl)))) (nd o56 (nd o88 (nd o152 (nd o280 (lf o536) nl) (nd o408 (lf o664) nl)) (nd o216_1 (nd o344 (lf o600) nl) (nd o472 (lf o728) nl))) (nd o120 (nd o184 (nd o312 (lf o568) nl) (nd o440 (lf o696) nl)) (nd o248 (nd o376 (lf o632) nl) (nd o504 (lf o760) nl)))))) (nd o12_3 (nd o20 (nd o36 (nd o68 (nd o132 (nd o260 (lf o516) (lf o772)) (nd o388 (lf o644) nl)) (nd o196 (nd o324 (lf o580) nl) (nd o452 (lf o708) nl))) (nd o100 (nd o164 (nd o292 (lf o548) nl) (nd o420 (lf o676) nl)) (nd o228 (nd o356 (lf o612) nl) (nd o484 (lf o740) nl)))) (nd o52 (nd o84 (nd o148 (nd o276 (lf o532) nl) (nd o404 (lf o660) nl)) (nd o212 (nd o340 (lf o596) nl) (nd o468 (lf o724) nl))) (nd o116 (nd o180 (nd o308 (lf o564) nl) (nd o436 (lf o692) nl)) (nd o244 (nd o372 (lf o628) nl) (nd o500 (lf o756) nl))))) (nd o28 (nd o44 (nd o76 (nd o140 (nd o268 (lf o524) (lf o780)) (nd o396 (lf o652) nl)) (nd o204 (nd o332 (lf o588) nl) (nd (o460 P) (lf o716) nl))) (nd o108 (nd o172 (nd o300 (lf o556) nl) (nd o428 (lf o684) nl)) (nd o236 (nd o364 (lf o620) nl) (nd o492 (lf o748) nl)))) (nd o60 (nd o92 (nd o156 (nd o284 (lf o540) nl) (nd o412 (lf o668) nl)) (nd o220 (nd o348 (lf o604) nl) (nd o476 (lf o732) nl))) (nd o124 (nd o188 (nd o316 (lf o572) nl) (nd o444 (lf o700) nl)) (nd o252 (nd o380 (lf o636) nl) (nd o508 (lf o764) nl))))))) (nd (boot_o_6 P) (nd (boot_o_10 P) (nd o18 (nd o34 (nd o66 (nd o130 (nd o258 (lf o514) (lf o770)) (nd o386 (lf o642) nl)) (nd o194 (nd o322 (lf o578) nl) (nd o450 (lf o706) nl))) (nd o98 (nd o162 (nd o290 (lf o546) nl) (nd o418 (lf o674) nl)) (nd o226 (nd o354 (lf o610) nl) (nd o482 (lf o738) nl)))) (nd o50 (nd o82 (nd o146 (nd o274 (lf o530) nl) (nd o402 (lf o658) nl)) (nd o210 (nd o338 (lf (o594 P)) nl) (nd o466 (lf o722) nl))) (nd o114 (nd o178 (nd o306 (lf o562) nl) (nd o434 (lf o690) nl)) (nd o242 (nd o370 (lf o626) nl) (nd o498 (lf o754) nl))))) (nd o26 (nd o42 (nd o74 (nd o138 (nd o266 (lf (o522 P)) (lf o778)) (nd o394 (lf o650) nl)) (nd o202 (nd o330 (lf o586) nl) (nd o458 (lf o714) nl))) (nd o106 (nd o170 (nd o298 (lf o554) nl) (nd o426 (lf o682) nl)) (nd o234 (nd o362 (lf o618) nl) (nd o490 (lf o746) nl)))) (nd o58 (nd o90 (nd o154 (nd o282 (lf o538) nl) (nd o410 (lf o666) nl)) (nd o218 (nd o346 (lf o602) nl) (nd o474 (lf o730) nl))) (nd o122 (nd o186 (nd o314 (lf o570) nl) (nd o442 (lf o698) nl)) (nd o250 (nd o378 (lf o634) nl) (nd o506 (lf o762) nl)))))) (nd o14a (nd o22 (nd o38 (nd o70 (nd o134 (nd o262 (lf o518) (lf o774)) (nd o390 (lf o646) nl)) (nd o198 (nd o326 (lf o582) nl) (nd (o454 P) (lf o710) nl))) (nd o102 (nd o166 (nd o294 (lf o550) nl) (nd o422 (lf o678) nl)) (nd o230 (nd o358 (lf o614) nl) (nd o486 (lf o742) nl)))) (nd o54 (nd o86 (nd o150 (nd o278 (lf o534) nl) (nd o406 (lf o662) nl)) (nd o214 (nd o342 (lf o598) nl) (nd o470 (lf o726) nl))) (nd o118 (nd o182 (nd o310 (lf o566) nl) (nd o438 (lf o694) nl)) (nd o246 (nd o374 (lf o630) nl) (nd o502 (lf o758) nl))))) (nd (o30 P) (nd o46 (nd o78 (nd o142 (nd o270 (lf o526) (lf o782)) (nd o398 (lf o654) nl)) (nd o206 (nd o334 (lf (o590 P)) nl) (nd o462 (lf o718) nl))) (nd o110 (nd o174 (nd o302 (lf o558) nl) (nd o430 (lf o686) nl)) (nd o238 (nd o366 (lf o622) nl) (nd o494 (lf o750) nl)))) (nd o62 (nd o94 (nd o158 (nd o286 (lf o542) nl) (nd o414 (lf o670) nl)) (nd o222 (nd o350 (lf o606) nl) (nd o478 (lf o734) nl))) (nd o126 (nd o190 (nd o318 (lf o574) nl) (nd o446 (lf o702) nl)) (nd o254 (nd o382 (lf o638) nl) (nd o510 (lf o766) nl)))))))))
def S3(w:World)(os:OsState):SharedT:=⟨T3 w.params,783,PySem.Life.mk [] [] [] 0 [] [] false #[] [] 0 false false false 0 [2000,10,10] false 0 true [] [] 0 false,⟨[]⟩,PySem.Drawn.mk 0 0 0 0,1203,os⟩
def Hf(P:Params):Heap:=⟨⟨[boot_o_0 P,boot_o_1 P,boot_o_2 P,o3_3 P,boot_o_4 P,boot_o_5 P,boot_o_6 P,boot_o_7 P,boot_o_8 P,boot_o_9 P,boot_o_10 P,o11a,o12_3,o13a,o14a,o15,o16,o17,o18,o19,o20,o21,o22,o23,o24 P,o25,o26,o27,o28,o29,o30 P,o31,o32,o33,o34,o35,o36,o37 P,o38,o39,o40,o41,o42,o43 P,o44,o45,o46,o47,o48,o49 P,o50,o51,o52,o53,o54,o55 P,o56,o57,o58,o59,o60,o61 P,o62,o63,o64,o65,o66,o67 P,o68,o69,o70,o71,o72,o73 P,o74,o75,o76,o77,o78,o79 P,o80,o81,o82,o83,o84,o85 P,o86,o87,o88,o89,o90,o91 P,o92,o93,o94,o95,o96,o97 P,o98,o99,o100,o101,o102,o103 P,o104,o105,o106,o107,o108,o109 P,o110,o111,o112,o113,o114,o115 P,o116,o117,o118,o119,o120,o121 P,o122,o123,o124,o125,o126,o127 P,o128,o129,o130,o131,o132,o133 P,o134,o135,o136,o137,o138,o139 P,o140,o141,o142,o143,o144,o145 P,o146,o147,o148,o149,o150,o151 P,o152,o153,o154,o155,o156,o157,o158,o159,o160,o161,o162,o163,o164,o165,o166,o167,o168,o169,o170,o171,o172,o173,o174,o175,o176,o177,o178,o179,o180,o181,o182,o183,o184,o185,o186,o187,o188,o189,o190,o191,o192,o193,o194,o195,o196,o197,o198,o199,o200,o201,o202,o203,o204,o205,o206,o207,o208,o209 P,o210,o211,o212,o213,o214,o215 P,o216_1,o217,o218,o219,o220,o221,o222,o223 P,o224,o225,o226,o227,o228,o229,o230,o231,o232,o233,o234,o235,o236,o237,o238,o239,o240,o241,o242,o243 P,o244,o245,o246,o247,o248,o249 P,o250,o251,o252,o253,o254,o255,o256,o257,o258,o259,o260,o261,o262,o263,o264,o265,o266,o267,o268,o269,o270,o271,o272,o273,o274,o275,o276,o277,o278,o279,o280,o281,o282,o283 P,o284,o285,o286,o287,o288,o289 P,o290,o291,o292,o293,o294,o295,o296,o297,o298,o299,o300,o301,o302,o303,o304,o305,o306,o307,o308,o309,o310,o311,o312,o313,o314,o315,o316,o317,o318,o319,o320,o321,o322,o323,o324,o325,o326,o327,o328,o329,o330,o331,o332,o333,o334,o335,o336,o337,o338,o339,o340,o341,o342,o343,o344,o345,o346,o347,o348,o349,o350,o351,o352,o353,o354,o355,o356,o357,o358,o359,o360,o361,o362,o363,o364,o365 P,o366,o367,o368,o369,o370,o371 P,o372,o373,o374,o375,o376,o377,o378,o379,o380,o381,o382,o383,o384,o385,o386,o387,o388,o389,o390,o391,o392,o393,o394,o395,o396,o397,o398,o399,o400,o401,o402,o403,o404,o405,o406,o407,o408,o409,o410,o411,o412,o413,o414,o415,o416,o417,o418,o419,o420,o421,o422,o423,o424,o425,o426,o427,o428,o429,o430,o431,o432,o433,o434,o435,o436,o437,o438,o439,o440,o441,o442,o443,o444,o445,o446,o447,o448,o449,o450,o451,o452,o453,o454 P,o455,o456,o457,o458,o459,o460 P,o461,o462,o463,o464,o465,o466,o467,o468,o469,o470,o471,o472,o473,o474,o475,o476,o477,o478,o479,o480,o481,o482,o483,o484,o485,o486,o487,o488,o489,o490,o491,o492,o493,o494,o495,o496,o497,o498,o499,o500,o501,o502,o503,o504,o505,o506,o507,o508,o509,o510,o511,o512,o513,o514,o515,o516,o517,o518,o519,o520,o521,o522 P,o523,o524,o525,o526,o527,o528 P,o529,o530,o531,o532,o533,o534,o535,o536,o537,o538,o539,o540,o541,o542,o543,o544,o545,o546,o547,o548,o549,o550,o551,o552,o553,o554,o555,o556,o557,o558,o559,o560,o561,o562,o563,o564,o565,o566,o567,o568,o569,o570,o571,o572,o573,o574,o575,o576,o577,o578,o579,o580,o581,o582,o583,o584,o585,o586,o587,o588,o589,o590 P,o591,o592,o593,o594 P,o595,o596,o597,o598,o599,o600,o601,o602,o603,o604,o605,o606,o607,o608,o609,o610,o611,o612,o613,o614,o615,o616,o617,o618,o619,o620,o621,o622,o623,o624,o625,o626,o627,o628,o629,o630,o631,o632,o633,o634,o635,o636,o637,o638,o639,o640,o641,o642,o643,o644,o645,o646,o647,o648,o649,o650,o651,o652,o653,o654,o655,o656,o657,o658,o659,o660,o661,o662,o663,o664,o665,o666,o667,o668,o669,o670,o671,o672,o673,o674,o675,o676,o677,o678,o679,o680,o681,o682,o683,o684,o685,o686,o687,o688,o689,o690,o691,o692,o693,o694,o695,o696,o697,o698,o699,o700,o701,o702,o703,o704,o705,o706,o707,o708,o709,o710,o711,o712,o713,o714,o715,o716,o717,o718,o719,o720,o721,o722,o723,o724,o725,o726,o727,o728,o729,o730,o731,o732,o733,o734,o735,o736,o737,o738,o739,o740,o741,o742,o743,o744,o745,o746,o747,o748,o749,o750,o751,o752,o753,o754,o755,o756,o757,o758,o759,o760,o761,o762,o763,o764,o765,o766,o767,o768,o769,o770,o771,o772,o773,o774,o775,o776,o777,o778,o779,o780,o781,o782]⟩,PySem.Life.mk [] [] [] 0 [] [] false #[] [] 0 false false false 0 [2000,10,10] false 0 true [] [] 0 false⟩
def Sf(w:World)(os:OsState):Shared:=⟨Hf w.params,⟨[]⟩,PySem.Drawn.mk 0 0 0 0,1203,os⟩
theorem pre_(w:World)(os:OsState):topGo treeTable Fast.tw5666497643892974332 w 11 ((some (r 6))) 12 ⟨boot_heap w.params,⟨[]⟩,boot_drawn,boot_toks,os⟩ (topStub Fast.tw5666497643892974332)=some (Sa w os,⟨denote treeTable cT,cT,⟨0,0,0,0⟩,[topFrame qP]⟩):=by(try rw[Fast.te15667345088766844465]);(try rw[Fast.te14082659384304107361]);(try rw[Fast.te14374325043358763698]);(try rw[Fast.te10110043849684766642]);(try rw[Fast.te14364793385576792824]);(try rw[Fast.te11892475500146522536]);(try rw[Fast.te4187177175401517315]);(try rw[Fast.te5923862056798008813]);(try rw[Fast.te8920871248978507458]);kernel_rfl
theorem block_(w:World)(os:OsState):segRun treeTable Fast.tw5666497643892974332 w 11 ((some (r 6))) 1 1 (Sa w os) (blockOf (behindTheImports Fast.tw5666497643892974332) envT cT ⟨0,0,0,0⟩ [topFrame qP])=some (.next,(Sb w os).abs,cT,⟨0,0,0,0⟩):=by(try rw[Fast.te15667345088766844465]);(try rw[Fast.te14082659384304107361]);(try rw[Fast.te14374325043358763698]);(try rw[Fast.te10110043849684766642]);(try rw[Fast.te14364793385576792824]);(try rw[Fast.te11892475500146522536]);(try rw[Fast.te4187177175401517315]);(try rw[Fast.te5923862056798008813]);(try rw[Fast.te8920871248978507458]);kernel_rfl
def sts0:List Stmt:=[topT 0,topT 1,topT 2,topT 3,topT 4,topT 5,topT 6,topT 7,topT 8,topT 9,topT 10,topT 11,topT 12,topT 13,topT 14,topT 15,topT 16,topT 17,topT 18,topT 19,topT 20,topT 21,topT 22,topT 23,topT 24,topT 25,topT 26,topT 27]
theorem pc0(w:World)(os:OsState):segRunT treeTable Fast.tw5666497643892974332 w 11 ((some (r 6))) 1 2832 (Sb w os) (piecesOf sts0 envT cT ⟨0,0,0,0⟩ [topFrame qP])=some (.next,S0 w os,cT,⟨79,0,80,8⟩):=by(try rw[Fast.te15667345088766844465]);(try rw[Fast.te14082659384304107361]);(try rw[Fast.te14374325043358763698]);(try rw[Fast.te10110043849684766642]);(try rw[Fast.te14364793385576792824]);(try rw[Fast.te11892475500146522536]);(try rw[Fast.te4187177175401517315]);(try rw[Fast.te5923862056798008813]);(try rw[Fast.te8920871248978507458]);kernel_rfl
def sts1:List Stmt:=[topT 28,topT 29,topT 30,topT 31,topT 32,topT 33,topT 34,topT 35,topT 36]
theorem pc1(w:World)(os:OsState):segRunT treeTable Fast.tw5666497643892974332 w 11 ((some (r 6))) 1 2730 (S0 w os) (piecesOf sts1 envT cT ⟨79,0,80,8⟩ [topFrame qP])=some (.next,S1 w os,cT,⟨246,0,246,9⟩):=by(try rw[Fast.te15667345088766844465]);(try rw[Fast.te14082659384304107361]);(try rw[Fast.te14374325043358763698]);(try rw[Fast.te10110043849684766642]);(try rw[Fast.te14364793385576792824]);(try rw[Fast.te11892475500146522536]);(try rw[Fast.te4187177175401517315]);(try rw[Fast.te5923862056798008813]);(try rw[Fast.te8920871248978507458]);kernel_rfl
def sts2:List Stmt:=[topT 37]
theorem pck2(os:OsState):∀(b:Bool) (w:World),segRunT treeTable Fast.tw5666497643892974332 (w.withFollow "special-get-raises" b) 11 ((some (r 6))) 1 131 (S1 (w.withFollow "special-get-raises" b) os) (piecesOf sts2 envT cT ⟨246,0,246,9⟩ [topFrame qP])=some (.next,S2 (w.withFollow "special-get-raises" b) os,cT,⟨247,0,247,6⟩):=by
  intro b w
  cases b
  · (try rw[Fast.te15667345088766844465]);(try rw[Fast.te14082659384304107361]);(try rw[Fast.te14374325043358763698]);(try rw[Fast.te10110043849684766642]);(try rw[Fast.te14364793385576792824]);(try rw[Fast.te11892475500146522536]);(try rw[Fast.te4187177175401517315]);(try rw[Fast.te5923862056798008813]);(try rw[Fast.te8920871248978507458]);kernel_rfl
  · (try rw[Fast.te15667345088766844465]);(try rw[Fast.te14082659384304107361]);(try rw[Fast.te14374325043358763698]);(try rw[Fast.te10110043849684766642]);(try rw[Fast.te14364793385576792824]);(try rw[Fast.te11892475500146522536]);(try rw[Fast.te4187177175401517315]);(try rw[Fast.te5923862056798008813]);(try rw[Fast.te8920871248978507458]);kernel_rfl
theorem pc2(w:World)(os:OsState):segRunT treeTable Fast.tw5666497643892974332 w 11 ((some (r 6))) 1 131 (S1 w os) (piecesOf sts2 envT cT ⟨246,0,246,9⟩ [topFrame qP])=some (.next,S2 w os,cT,⟨247,0,247,6⟩):=by
  have:=pck2 os (w.params.followText "special-get-raises") w
  rwa [World.withFollow_self]at this
def sts3:List Stmt:=[topT 38,topT 39,topT 40,topT 41,topT 42,topT 43,topT 44,topT 45,topT 46,topT 47,topT 48,topT 49,topT 50,topT 51,topT 52,topT 53,topT 54,topT 55,topT 56,topT 57,topT 58,topT 59,topT 60,topT 61,topT 62,topT 63,topT 64,topT 65,topT 66]
theorem pc3(w:World)(os:OsState):segRunT treeTable Fast.tw5666497643892974332 w 11 ((some (r 6))) 1 883 (S2 w os) (piecesOf sts3 envT cT ⟨247,0,247,6⟩ [topFrame qP])=some (.next,S3 w os,cT,⟨492,0,509,15⟩):=by(try rw[Fast.te15667345088766844465]);(try rw[Fast.te14082659384304107361]);(try rw[Fast.te14374325043358763698]);(try rw[Fast.te10110043849684766642]);(try rw[Fast.te14364793385576792824]);(try rw[Fast.te11892475500146522536]);(try rw[Fast.te4187177175401517315]);(try rw[Fast.te5923862056798008813]);(try rw[Fast.te8920871248978507458]);kernel_rfl
theorem fin_(w:World)(os:OsState):topRun treeTable Fast.tw5666497643892974332 w 11 ((some (r 6))) 2 (S3 w os).abs ⟨doneF .next,cT,⟨492,0,509,15⟩,[topFrame qP]⟩=some (Sf w os):=by(try rw[Fast.te15667345088766844465]);(try rw[Fast.te14082659384304107361]);(try rw[Fast.te14374325043358763698]);(try rw[Fast.te10110043849684766642]);(try rw[Fast.te14364793385576792824]);(try rw[Fast.te11892475500146522536]);(try rw[Fast.te4187177175401517315]);(try rw[Fast.te5923862056798008813]);(try rw[Fast.te8920871248978507458]);kernel_rfl
theorem body_eq:behindTheImports Fast.tw5666497643892974332=(sts0++(sts1++(sts2++(sts3++[])))):=by kernel_rfl
theorem run_(w:World)(os:OsState):topRun treeTable Fast.tw5666497643892974332 w 11 ((some (r 6))) (12+(1+(2832+(2730+(131+(883+2)))))) ⟨boot_heap w.params,⟨[]⟩,boot_drawn,boot_toks,os⟩ (topStub Fast.tw5666497643892974332)=some (Sf w os):=by
  have h:=(piece_app (segRun_of (pc0 w os)) (piece_app (segRun_of (pc1 w os)) (piece_app (segRun_of (pc2 w os)) (piece_app (segRun_of (pc3 w os)) (piece_nil (fin_ w os))))))
  rw[← body_eq]at h
  exact go_top (pre_ w os) (piece_block (block_ w os) h)
def K(P:Params):Frag:=(nat_lit 2,boot_o_2 P)::(nat_lit 3,o3_3 P)::(nat_lit 15,o15)::(nat_lit 17,o17)::(nat_lit 18,o18)::(nat_lit 20,o20)::(nat_lit 21,o21)::(nat_lit 22,o22)::(nat_lit 29,o29)::(nat_lit 30,o30 P)::(nat_lit 31,o31)::(nat_lit 32,o32)::(nat_lit 35,o35)::(nat_lit 42,o42)::(nat_lit 43,o43 P)::(nat_lit 44,o44)::(nat_lit 47,o47)::(nat_lit 54,o54)::(nat_lit 55,o55 P)::(nat_lit 56,o56)::(nat_lit 59,o59)::(nat_lit 66,o66)::(nat_lit 67,o67 P)::(nat_lit 68,o68)::(nat_lit 71,o71)::(nat_lit 78,o78)::(nat_lit 79,o79 P)::(nat_lit 80,o80)::(nat_lit 83,o83)::(nat_lit 90,o90)::(nat_lit 91,o91 P)::(nat_lit 92,o92)::(nat_lit 95,o95)::(nat_lit 102,o102)::(nat_lit 103,o103 P)::(nat_lit 104,o104)::(nat_lit 107,o107)::(nat_lit 114,o114)::(nat_lit 115,o115 P)::(nat_lit 116,o116)::(nat_lit 119,o119)::(nat_lit 126,o126)::(nat_lit 127,o127 P)::(nat_lit 128,o128)::(nat_lit 131,o131)::(nat_lit 138,o138)::(nat_lit 139,o139 P)::(nat_lit 140,o140)::(nat_lit 143,o143)::(nat_lit 150,o150)::(nat_lit 151,o151 P)::(nat_lit 152,o152)::(nat_lit 155,o155)::(nat_lit 158,o158)::(nat_lit 159,o159)::(nat_lit 160,o160)::(nat_lit 162,o162)::(nat_lit 163,o163)::(nat_lit 165,o165)::(nat_lit 166,o166)::(nat_lit 167,o167)::(nat_lit 169,o169)::(nat_lit 170,o170)::(nat_lit 172,o172)::(nat_lit 173,o173)::(nat_lit 174,o174)::(nat_lit 176,o176)::(nat_lit 177,o177)::(nat_lit 179,o179)::(nat_lit 180,o180)::(nat_lit 181,o181)::(nat_lit 183,o183)::(nat_lit 184,o184)::(nat_lit 186,o186)::(nat_lit 187,o187)::(nat_lit 188,o188)::(nat_lit 191,o191)::(nat_lit 192,o192)::(nat_lit 193,o193)::(nat_lit 195,o195)::(nat_lit 196,o196)::(nat_lit 198,o198)::(nat_lit 199,o199)::(nat_lit 200,o200)::(nat_lit 202,o202)::(nat_lit 203,o203)::(nat_lit 205,o205)::(nat_lit 206,o206)::(nat_lit 214,o214)::(nat_lit 215,o215 P)::(nat_lit 216,o216_1)::(nat_lit 217,o217)::(nat_lit 218,o218)::(nat_lit 221,o221)::(nat_lit 228,o228)::(nat_lit 230,o230)::(nat_lit 231,o231)::(nat_lit 233,o233)::(nat_lit 234,o234)::(nat_lit 235,o235)::(nat_lit 237,o237)::(nat_lit 238,o238)::(nat_lit 240,o240)::(nat_lit 241,o241)::(nat_lit 242,o242)::(nat_lit 243,o243 P)::(nat_lit 244,o244)::(nat_lit 247,o247)::(nat_lit 254,o254)::(nat_lit 256,o256)::(nat_lit 257,o257)::(nat_lit 259,o259)::(nat_lit 260,o260)::(nat_lit 261,o261)::(nat_lit 263,o263)::(nat_lit 264,o264)::(nat_lit 266,o266)::(nat_lit 267,o267)::(nat_lit 268,o268)::(nat_lit 270,o270)::(nat_lit 271,o271)::(nat_lit 273,o273)::(nat_lit 274,o274)::(nat_lit 275,o275)::(nat_lit 277,o277)::(nat_lit 278,o278)::(nat_lit 280,o280)::(nat_lit 281,o281)::(nat_lit 282,o282)::(nat_lit 283,o283 P)::(nat_lit 284,o284)::(nat_lit 287,o287)::(nat_lit 294,o294)::(nat_lit 296,o296)::(nat_lit 297,o297)::(nat_lit 299,o299)::(nat_lit 300,o300)::(nat_lit 301,o301)::(nat_lit 303,o303)::(nat_lit 304,o304)::(nat_lit 306,o306)::(nat_lit 307,o307)::(nat_lit 308,o308)::(nat_lit 310,o310)::(nat_lit 311,o311)::(nat_lit 313,o313)::(nat_lit 314,o314)::(nat_lit 315,o315)::(nat_lit 317,o317)::(nat_lit 318,o318)::(nat_lit 320,o320)::(nat_lit 321,o321)::(nat_lit 322,o322)::(nat_lit 324,o324)::(nat_lit 325,o325)::(nat_lit 327,o327)::(nat_lit 328,o328)::(nat_lit 329,o329)::(nat_lit 331,o331)::(nat_lit 332,o332)::(nat_lit 334,o334)::(nat_lit 335,o335)::(nat_lit 336,o336)::(nat_lit 338,o338)::(nat_lit 339,o339)::(nat_lit 341,o341)::(nat_lit 342,o342)::(nat_lit 343,o343)::(nat_lit 345,o345)::(nat_lit 346,o346)::(nat_lit 348,o348)::(nat_lit 349,o349)::(nat_lit 350,o350)::(nat_lit 352,o352)::(nat_lit 353,o353)::(nat_lit 355,o355)::(nat_lit 356,o356)::(nat_lit 357,o357)::(nat_lit 359,o359)::(nat_lit 360,o360)::(nat_lit 362,o362)::(nat_lit 363,o363)::(nat_lit 364,o364)::(nat_lit 365,o365 P)::(nat_lit 366,o366)::(nat_lit 369,o369)::(nat_lit 376,o376)::(nat_lit 378,o378)::(nat_lit 379,o379)::(nat_lit 381,o381)::(nat_lit 382,o382)::(nat_lit 383,o383)::(nat_lit 385,o385)::(nat_lit 386,o386)::(nat_lit 388,o388)::(nat_lit 389,o389)::(nat_lit 390,o390)::(nat_lit 392,o392)::(nat_lit 393,o393)::(nat_lit 395,o395)::(nat_lit 396,o396)::(nat_lit 397,o397)::(nat_lit 399,o399)::(nat_lit 400,o400)::(nat_lit 402,o402)::(nat_lit 403,o403)::(nat_lit 404,o404)::(nat_lit 406,o406)::(nat_lit 407,o407)::(nat_lit 409,o409)::(nat_lit 410,o410)::(nat_lit 411,o411)::(nat_lit 413,o413)::(nat_lit 414,o414)::(nat_lit 416,o416)::(nat_lit 417,o417)::(nat_lit 418,o418)::(nat_lit 420,o420)::(nat_lit 421,o421)::(nat_lit 423,o423)::(nat_lit 424,o424)::(nat_lit 425,o425)::(nat_lit 427,o427)::(nat_lit 428,o428)::(nat_lit 430,o430)::(nat_lit 431,o431)::(nat_lit 432,o432)::(nat_lit 434,o434)::(nat_lit 435,o435)::(nat_lit 437,o437)::(nat_lit 438,o438)::(nat_lit 439,o439)::(nat_lit 441,o441)::(nat_lit 442,o442)::(nat_lit 444,o444)::(nat_lit 445,o445)::(nat_lit 446,o446)::(nat_lit 448,o448)::(nat_lit 449,o449)::(nat_lit 451,o451)::(nat_lit 452,o452)::(nat_lit 453,o453)::(nat_lit 454,o454 P)::(nat_lit 455,o455)::(nat_lit 458,o458)::(nat_lit 465,o465)::(nat_lit 467,o467)::(nat_lit 468,o468)::(nat_lit 470,o470)::(nat_lit 471,o471)::(nat_lit 472,o472)::(nat_lit 474,o474)::(nat_lit 475,o475)::(nat_lit 477,o477)::(nat_lit 478,o478)::(nat_lit 479,o479)::(nat_lit 481,o481)::(nat_lit 482,o482)::(nat_lit 484,o484)::(nat_lit 485,o485)::(nat_lit 486,o486)::(nat_lit 488,o488)::(nat_lit 489,o489)::(nat_lit 491,o491)::(nat_lit 492,o492)::(nat_lit 493,o493)::(nat_lit 495,o495)::(nat_lit 496,o496)::(nat_lit 498,o498)::(nat_lit 499,o499)::(nat_lit 500,o500)::(nat_lit 502,o502)::(nat_lit 503,o503)::(nat_lit 505,o505)::(nat_lit 506,o506)::(nat_lit 507,o507)::(nat_lit 509,o509)::(nat_lit 510,o510)::(nat_lit 512,o512)::(nat_lit 513,o513)::(nat_lit 514,o514)::(nat_lit 516,o516)::(nat_lit 517,o517)::(nat_lit 519,o519)::(nat_lit 520,o520)::(nat_lit 521,o521)::(nat_lit 522,o522 P)::(nat_lit 523,o523)::(nat_lit 526,o526)::(nat_lit 533,o533)::(nat_lit 535,o535)::(nat_lit 536,o536)::(nat_lit 538,o538)::(nat_lit 539,o539)::(nat_lit 540,o540)::(nat_lit 542,o542)::(nat_lit 543,o543)::(nat_lit 545,o545)::(nat_lit 546,o546)::(nat_lit 547,o547)::(nat_lit 549,o549)::(nat_lit 550,o550)::(nat_lit 552,o552)::(nat_lit 553,o553)::(nat_lit 554,o554)::(nat_lit 556,o556)::(nat_lit 557,o557)::(nat_lit 559,o559)::(nat_lit 560,o560)::(nat_lit 561,o561)::(nat_lit 563,o563)::(nat_lit 564,o564)::(nat_lit 566,o566)::(nat_lit 567,o567)::(nat_lit 568,o568)::(nat_lit 570,o570)::(nat_lit 571,o571)::(nat_lit 573,o573)::(nat_lit 574,o574)::(nat_lit 575,o575)::(nat_lit 577,o577)::(nat_lit 578,o578)::(nat_lit 580,o580)::(nat_lit 581,o581)::(nat_lit 582,o582)::(nat_lit 584,o584)::(nat_lit 585,o585)::(nat_lit 587,o587)::(nat_lit 588,o588)::(nat_lit 589,o589)::(nat_lit 590,o590 P)::(nat_lit 591,o591)::(nat_lit 594,o594 P)::(nat_lit 595,o595)::(nat_lit 597,o597)::(nat_lit 598,o598)::(nat_lit 600,o600)::(nat_lit 601,o601)::(nat_lit 602,o602)::(nat_lit 604,o604)::(nat_lit 605,o605)::(nat_lit 607,o607)::(nat_lit 608,o608)::(nat_lit 609,o609)::(nat_lit 611,o611)::(nat_lit 612,o612)::(nat_lit 614,o614)::(nat_lit 615,o615)::(nat_lit 616,o616)::(nat_lit 618,o618)::(nat_lit 619,o619)::(nat_lit 621,o621)::(nat_lit 622,o622)::(nat_lit 623,o623)::(nat_lit 626,o626)::(nat_lit 627,o627)::(nat_lit 628,o628)::(nat_lit 630,o630)::(nat_lit 631,o631)::(nat_lit 633,o633)::(nat_lit 634,o634)::(nat_lit 635,o635)::(nat_lit 637,o637)::(nat_lit 638,o638)::(nat_lit 640,o640)::(nat_lit 641,o641)::(nat_lit 642,o642)::(nat_lit 644,o644)::(nat_lit 645,o645)::(nat_lit 647,o647)::(nat_lit 648,o648)::(nat_lit 649,o649)::(nat_lit 651,o651)::(nat_lit 652,o652)::(nat_lit 654,o654)::(nat_lit 655,o655)::(nat_lit 656,o656)::(nat_lit 658,o658)::(nat_lit 659,o659)::(nat_lit 661,o661)::(nat_lit 662,o662)::(nat_lit 663,o663)::(nat_lit 665,o665)::(nat_lit 666,o666)::(nat_lit 668,o668)::(nat_lit 669,o669)::(nat_lit 670,o670)::(nat_lit 672,o672)::(nat_lit 673,o673)::(nat_lit 675,o675)::(nat_lit 676,o676)::(nat_lit 677,o677)::(nat_lit 679,o679)::(nat_lit 680,o680)::(nat_lit 682,o682)::(nat_lit 683,o683)::(nat_lit 684,o684)::(nat_lit 686,o686)::(nat_lit 687,o687)::(nat_lit 689,o689)::(nat_lit 690,o690)::(nat_lit 691,o691)::(nat_lit 694,o694)::(nat_lit 695,o695)::(nat_lit 696,o696)::(nat_lit 698,o698)::(nat_lit 699,o699)::(nat_lit 701,o701)::(nat_lit 702,o702)::(nat_lit 703,o703)::(nat_lit 705,o705)::(nat_lit 706,o706)::(nat_lit 708,o708)::(nat_lit 709,o709)::(nat_lit 710,o710)::(nat_lit 712,o712)::(nat_lit 713,o713)::(nat_lit 715,o715)::(nat_lit 716,o716)::(nat_lit 717,o717)::(nat_lit 719,o719)::(nat_lit 720,o720)::(nat_lit 722,o722)::(nat_lit 723,o723)::(nat_lit 724,o724)::(nat_lit 726,o726)::(nat_lit 727,o727)::(nat_lit 729,o729)::(nat_lit 730,o730)::(nat_lit 731,o731)::(nat_lit 734,o734)::(nat_lit 735,o735)::(nat_lit 736,o736)::(nat_lit 738,o738)::(nat_lit 739,o739)::(nat_lit 741,o741)::(nat_lit 742,o742)::(nat_lit 743,o743)::(nat_lit 746,o746)::(nat_lit 747,o747)::(nat_lit 748,o748)::(nat_lit 750,o750)::(nat_lit 751,o751)::(nat_lit 753,o753)::(nat_lit 754,o754)::(nat_lit 755,o755)::(nat_lit 757,o757)::(nat_lit 758,o758)::(nat_lit 760,o760)::(nat_lit 761,o761)::(nat_lit 762,o762)::(nat_lit 764,o764)::(nat_lit 765,o765)::(nat_lit 767,o767)::(nat_lit 768,o768)::(nat_lit 769,o769)::(nat_lit 771,o771)::(nat_lit 772,o772)::(nat_lit 774,o774)::(nat_lit 775,o775)::(nat_lit 776,o776)::(nat_lit 778,o778)::(nat_lit 779,o779)::(nat_lit 781,o781)::(nat_lit 782,o782)::[]
def KA:List Addr:=[2,3,15,17,18,20,21,22,29,30,31,32,35,42,43,44,47,54,55,56,59,66,67,68,71,78,79,80,83,90,91,92,95,102,103,104,107,114,115,116,119,126,127,128,131,138,139,140,143,150,151,152,155,158,159,160,162,163,165,166,167,169,170,172,173,174,176,177,179,180,181,183,184,186,187,188,191,192,193,195,196,198,199,200,202,203,205,206,214,215,216,217,218,221,228,230,231,233,234,235,237,238,240,241,242,243,244,247,254,256,257,259,260,261,263,264,266,267,268,270,271,273,274,275,277,278,280,281,282,283,284,287,294,296,297,299,300,301,303,304,306,307,308,310,311,313,314,315,317,318,320,321,322,324,325,327,328,329,331,332,334,335,336,338,339,341,342,343,345,346,348,349,350,352,353,355,356,357,359,360,362,363,364,365,366,369,376,378,379,381,382,383,385,386,388,389,390,392,393,395,396,397,399,400,402,403,404,406,407,409,410,411,413,414,416,417,418,420,421,423,424,425,427,428,430,431,432,434,435,437,438,439,441,442,444,445,446,448,449,451,452,453,454,455,458,465,467,468,470,471,472,474,475,477,478,479,481,482,484,485,486,488,489,491,492,493,495,496,498,499,500,502,503,505,506,507,509,510,512,513,514,516,517,519,520,521,522,523,526,533,535,536,538,539,540,542,543,545,546,547,549,550,552,553,554,556,557,559,560,561,563,564,566,567,568,570,571,573,574,575,577,578,580,581,582,584,585,587,588,589,590,591,594,595,597,598,600,601,602,604,605,607,608,609,611,612,614,615,616,618,619,621,622,623,626,627,628,630,631,633,634,635,637,638,640,641,642,644,645,647,648,649,651,652,654,655,656,658,659,661,662,663,665,666,668,669,670,672,673,675,676,677,679,680,682,683,684,686,687,689,690,691,694,695,696,698,699,701,702,703,705,706,708,709,710,712,713,715,716,717,719,720,722,723,724,726,727,729,730,731,734,735,736,738,739,741,742,743,746,747,748,750,751,753,754,755,757,758,760,761,762,764,765,767,768,769,771,772,774,775,776,778,779,781,782]
theorem KA_eq(P:Params):KA=(K P).map (·.1):=by kernel_rfl
def topO(i:Nat):Stmt:=PySem.Challenge.pw_weighwalk_k84_odd_sayings.main.body.getD i (.Pass ⟨0,0,0,0⟩)
theorem b0a:topT=topO:=by unfold topT topO;rw[Fast.te5666497643892974332]
def qT:Program:={ Fast.tw5666497643892974332 with main:={ Fast.tw5666497643892974332.main with body:=[topT 0,topT 2,topT 3,topT 4,topT 5,topT 6,topT 7,topT 8,topT 9,topT 10,topT 11,topT 12,topT 14,topT 16,topT 17,topT 18,topT 19,topT 21,topT 22,topT 23,topT 24,topT 25,topT 26,topT 27,topT 28,topT 29,topT 30,topT 31,topT 32,topT 33,topT 35,topT 36,topT 37,topT 38,topT 39,topT 40,topT 41,topT 42,topT 43,topT 45,topT 46,topT 47,topT 48,topT 49,topT 50,topT 51,topT 52,topT 53,topT 54,topT 55,topT 56,topT 57,topT 58,topT 59,topT 60,topT 61,topT 62,topT 63,topT 64,topT 65,topT 66] } }
def qO:Program:={ PySem.Challenge.pw_weighwalk_k84_odd_sayings with main:={ PySem.Challenge.pw_weighwalk_k84_odd_sayings.main with body:=[topO 0,topO 2,topO 3,topO 4,topO 5,topO 6,topO 7,topO 8,topO 9,topO 10,topO 11,topO 12,topO 14,topO 16,topO 17,topO 18,topO 19,topO 21,topO 22,topO 23,topO 24,topO 25,topO 26,topO 27,topO 28,topO 29,topO 30,topO 31,topO 32,topO 33,topO 35,topO 36,topO 37,topO 38,topO 39,topO 40,topO 41,topO 42,topO 43,topO 45,topO 46,topO 47,topO 48,topO 49,topO 50,topO 51,topO 52,topO 53,topO 54,topO 55,topO 56,topO 57,topO 58,topO 59,topO 60,topO 61,topO 62,topO 63,topO 64,topO 65,topO 66] } }
theorem q_eq:qO=qT:=by unfold qO qT;rw[b0a,Fast.te5666497643892974332]
def recs:=RowW.records (OpenRow.toRowW (OpenLaw.row PySem.Challenge.rw_weighwalk_k84_odd_sayings))
abbrev Xt(q:Program)(s:Shared):Bool:=xlAt q [] s && recOk recs s
abbrev hook:Hook:=kHook K KA KA_eq
theorem size_(w:World):((boot_heap w.params).isNs mainGlobals && (⟨[]⟩:Array GenState).size == 0,(boot_heap w.params).objs.size,(boot_heap w.params).nsMap mainGlobals "__annotations__")=(true,11,(some (r 6))):=by(try rw[Fast.te15667345088766844465]);(try rw[Fast.te14082659384304107361]);(try rw[Fast.te14374325043358763698]);(try rw[Fast.te10110043849684766642]);(try rw[Fast.te14364793385576792824]);(try rw[Fast.te11892475500146522536]);(try rw[Fast.te4187177175401517315]);(try rw[Fast.te5923862056798008813]);(try rw[Fast.te8920871248978507458]);kernel_rfl
theorem open_:∀w:World,(fencedOpening treeTable Fast.tw5666497643892974332 w 13270).map (fun s=>(s.heap,s.gens,s.drawn,s.toks))=some (boot_heap w.params,⟨[]⟩,boot_drawn,boot_toks):=boot_open (by kernel_rfl) (by decide) (fun s=>by(try rw[Fast.te15667345088766844465]);(try rw[Fast.te14082659384304107361]);(try rw[Fast.te14374325043358763698]);(try rw[Fast.te10110043849684766642]);(try rw[Fast.te14364793385576792824]);(try rw[Fast.te11892475500146522536]);(try rw[Fast.te4187177175401517315]);(try rw[Fast.te5923862056798008813]);(try rw[Fast.te8920871248978507458]);kernel_rfl)
theorem look1(w:World)(os:OsState):(staticsOk (importedModules Fast.tw5666497643892974332.main.body) (boot_heap w.params) (Hf w.params) && namesBound Fast.tw5666497643892974332 (Hf w.params) && gensDone (Sf w os) && laidKept (boot_heap w.params) (Hf w.params))=true:=by(try rw[Fast.te15667345088766844465]);(try rw[Fast.te14082659384304107361]);(try rw[Fast.te14374325043358763698]);(try rw[Fast.te10110043849684766642]);(try rw[Fast.te14364793385576792824]);(try rw[Fast.te11892475500146522536]);(try rw[Fast.te4187177175401517315]);(try rw[Fast.te5923862056798008813]);(try rw[Fast.te8920871248978507458]);kernel_rfl
theorem look2(w:World)(os:OsState):openSeen qT [PySem.Str.ofString "WITHIN"] (importedModules Fast.tw5666497643892974332.main.body) (Xt qT) true (Sf w os)=openGood qT [PySem.Str.ofString "WITHIN"]:=by(try rw[Fast.te15667345088766844465]);(try rw[Fast.te14082659384304107361]);(try rw[Fast.te14374325043358763698]);(try rw[Fast.te10110043849684766642]);(try rw[Fast.te14364793385576792824]);(try rw[Fast.te11892475500146522536]);(try rw[Fast.te4187177175401517315]);(try rw[Fast.te5923862056798008813]);(try rw[Fast.te8920871248978507458]);kernel_rfl
theorem look3(w:World)(os:OsState):hook.obs (Sf w os)=hook.val w:=by kernel_rfl
theorem leftT:LeftO Fast.tw5666497643892974332 qT [PySem.Str.ofString "WITHIN"] (Xt qT) hook.obs hook.val 13270:=LeftO.of_pieces (H₁:=Hf) open_ size_ run_ (by decide) (fun w=>funext fun os=>looks_pair (look1 w os) (looks_pair (look2 w os) (look3 w os)))
theorem left:LeftO PySem.Challenge.pw_weighwalk_k84_odd_sayings qO [PySem.Str.ofString "WITHIN"] (Xt qO) hook.obs hook.val 13270:=by have h:=leftT;rw[← q_eq,← Fast.te5666497643892974332]at h;exact h
def dO:DefRec:=⟨PySem.Str.ofString "law",L2.c0h (topO 66),L2.c0a (topO 66),L2.a0k (topO 66),⟨492,0,509,15⟩⟩
theorem holds_(said:(OpenLaw.row PySem.Challenge.rw_weighwalk_k84_odd_sayings).wellSaid=true)(hw:(OpenLaw.row PySem.Challenge.rw_weighwalk_k84_odd_sayings).toRowW.promised)(hc:WalkO qO [PySem.Str.ofString "WITHIN"] (XL qO []) (Hook.says hook) (OpenLaw.row PySem.Challenge.rw_weighwalk_k84_odd_sayings).toRowW dO [] (fun f vs=>PySem.call f vs)):(OpenLaw.row PySem.Challenge.rw_weighwalk_k84_odd_sayings).Holds:=
  holds_open (r:=(OpenLaw.row PySem.Challenge.rw_weighwalk_k84_odd_sayings)) (q:=qO) (loose:=[PySem.Str.ofString "WITHIN"]) (Xt:=Xt qO) (XP:=XL qO []) (Yf:=hook.obs) (Ya:=hook.val) (YP:=hook.says) (d:=dO) (kwd:=[]) (N:=13270) left hook.of hook.keeps (fun s e=>xl_of s (Bool.and_eq_true_iff.mp e).1) XL.keeps (by kernel_rfl) (by kernel_rfl) (by kernel_rfl) (fun s e=>recFacts_of (Bool.and_eq_true_iff.mp e).2) (by kernel_rfl) said (by decide +kernel) ⟨rfl,rfl,rfl,rfl,rfl,by decide +kernel⟩ hw hc
abbrev fO(n q:String)(s:Stmt)(m c:Value):Obj:=⟨.type SL.s7174869446012820540x8,none,.func (fnOf (PySem.Str.ofString n) (PySem.Str.ofString q) (L2.c0h s) (L2.c0a s) (L2.a0k s) .none .none .none m none c .none),#[]⟩
theorem lk_is_word(P:Params):(K P).lookup 159=some (fO "is_word" "is_word" (topO 14) (.str s45 374) (r 158)):=by rw[← b0a];kernel_rfl
theorem lk_is_whole(P:Params):(K P).lookup 166=some (fO "is_whole" "is_whole" (topO 16) (.str s47 382) (r 165)):=by rw[← b0a];kernel_rfl
theorem lk_divisor(P:Params):(K P).lookup 173=some (fO "divisor" "divisor" (topO 17) (.str s47 382) (r 172)):=by rw[← b0a];kernel_rfl
theorem lk_is_prime(P:Params):(K P).lookup 187=some (fO "is_prime" "is_prime" (topO 19) (.str s47 382) (r 186)):=by rw[← b0a];kernel_rfl
theorem k0n(P:Params):(K P).lookup 192=some (fO "is_written" "is_written" (topO 24) (.str s4 419) (r 191)):=by rw[← b0a];kernel_rfl
theorem k0l(P:Params):(K P).lookup 199=some (fO "read_whole" "read_whole" (topO 25) (.str s4 419) (r 198)):=by rw[← b0a];kernel_rfl
theorem lk_need_text(P:Params):(K P).lookup 206=some (fO "need_text" "need_text" (topO 26) (.str s4 419) (r 205)):=by rw[← b0a];kernel_rfl
theorem g0q(P:Params):(K P).lookup 363=some (fO "read" "Fractions.read" (L2.a0i (topO 30) 9) (.str s4 419) (r 362)):=by rw[← b0a];kernel_rfl
theorem e0v(P:Params):(K P).lookup 382=some (fO "__init__" "Residues.__init__" (L2.a0i (topO 31) 0) (.str s4 419) (r 381)):=by rw[← b0a];kernel_rfl
theorem e0n(P:Params):(K P).lookup 438=some (fO "is_weight" "Residues.is_weight" (L2.a0i (topO 31) 8) (.str s4 419) (r 437)):=by rw[← b0a];kernel_rfl
theorem h0b(P:Params):(K P).lookup 452=some (fO "read" "Residues.read" (L2.a0i (topO 31) 10) (.str s4 419) (r 451)):=by rw[← b0a];kernel_rfl
theorem k0t(P:Params):(K P).lookup 520=some (fO "read" "Costs.read" (L2.a0i (topO 32) 7) (.str s4 419) (r 519)):=by rw[← b0a];kernel_rfl
theorem i0y(P:Params):(K P).lookup 588=some (fO "read" "Truths.read" (L2.a0i (topO 33) 7) (.str s4 419) (r 587)):=by rw[← b0a];kernel_rfl
theorem g0p(P:Params):(K P).lookup 601=some (fO "sayings_within" "sayings_within" (topO 38) (.str s60 905) (r 600)):=by rw[← b0a];kernel_rfl
theorem lk_read_word(P:Params):(K P).lookup 608=some (fO "read_word" "read_word" (topO 39) (.str s60 905) (r 607)):=by rw[← b0a];kernel_rfl
theorem k0m(P:Params):(K P).lookup 615=some (fO "next_piece" "next_piece" (topO 40) (.str s60 905) (r 614)):=by rw[← b0a];kernel_rfl
theorem i0u(P:Params):(K P).lookup 622=some (fO "read_pieces" "read_pieces" (topO 41) (.str s60 905) (r 621)):=by rw[← b0a];kernel_rfl
theorem h0x(P:Params):(K P).lookup 627=some (fO "parts_within" "parts_within" (topO 42) (.str s60 905) (r 626)):=by rw[← b0a];kernel_rfl
theorem i0t(P:Params):(K P).lookup 634=some (fO "read_saying" "read_saying" (topO 43) (.str s60 905) (r 633)):=by rw[← b0a];kernel_rfl
theorem lk__law_next(P:Params):(K P).lookup 641=some (fO "_law_next" "_law_next" (topO 45) (.str s137 988) (r 640)):=by rw[← b0a];kernel_rfl
theorem k0q(P:Params):(K P).lookup 648=some (fO "_law_state" "_law_state" (topO 46) (.str s137 988) (r 647)):=by rw[← b0a];kernel_rfl
theorem i0b(P:Params):(K P).lookup 655=some (fO "_law_divisor" "_law_divisor" (topO 47) (.str s137 988) (r 654)):=by rw[← b0a];kernel_rfl
theorem lk__law_low(P:Params):(K P).lookup 662=some (fO "_law_low" "_law_low" (topO 48) (.str s137 988) (r 661)):=by rw[← b0a];kernel_rfl
theorem i0x(P:Params):(K P).lookup 669=some (fO "_law_nought" "_law_nought" (topO 49) (.str s137 988) (r 668)):=by rw[← b0a];kernel_rfl
theorem lk__law_sort(P:Params):(K P).lookup 676=some (fO "_law_sort" "_law_sort" (topO 50) (.str s137 988) (r 675)):=by rw[← b0a];kernel_rfl
theorem lk__law_kind(P:Params):(K P).lookup 683=some (fO "_law_kind" "_law_kind" (topO 51) (.str s137 988) (r 682)):=by rw[← b0a];kernel_rfl
theorem i0v(P:Params):(K P).lookup 690=some (fO "_law_weight" "_law_weight" (topO 52) (.str s137 988) (r 689)):=by rw[← b0a];kernel_rfl
theorem i0a(P:Params):(K P).lookup 695=some (fO "_law_letters" "_law_letters" (topO 53) (.str s137 988) (r 694)):=by rw[← b0a];kernel_rfl
theorem e0u(P:Params):(K P).lookup 702=some (fO "_law_shown_weight" "_law_shown_weight" (topO 54) (.str s137 988) (r 701)):=by rw[← b0a];kernel_rfl
theorem k0p(P:Params):(K P).lookup 709=some (fO "_law_texts" "_law_texts" (topO 55) (.str s137 988) (r 708)):=by rw[← b0a];kernel_rfl
theorem i0w(P:Params):(K P).lookup 716=some (fO "_law_saying" "_law_saying" (topO 56) (.str s137 988) (r 715)):=by rw[← b0a];kernel_rfl
theorem k0o(P:Params):(K P).lookup 723=some (fO "_law_whole" "_law_whole" (topO 57) (.str s137 988) (r 722)):=by rw[← b0a];kernel_rfl
theorem f0k(P:Params):(K P).lookup 730=some (fO "_law_read_weight" "_law_read_weight" (topO 58) (.str s137 988) (r 729)):=by rw[← b0a];kernel_rfl
theorem h0y(P:Params):(K P).lookup 735=some (fO "_law_word_of" "_law_word_of" (topO 59) (.str s137 988) (r 734)):=by rw[← b0a];kernel_rfl
theorem k0r(P:Params):(K P).lookup 742=some (fO "_law_items" "_law_items" (topO 60) (.str s137 988) (r 741)):=by rw[← b0a];kernel_rfl
theorem lk__law_due(P:Params):(K P).lookup 747=some (fO "_law_due" "_law_due" (topO 61) (.str s137 988) (r 746)):=by rw[← b0a];kernel_rfl
theorem h0z(P:Params):(K P).lookup 754=some (fO "_law_spoiled" "_law_spoiled" (topO 62) (.str s137 988) (r 753)):=by rw[← b0a];kernel_rfl
theorem h0a(P:Params):(K P).lookup 761=some (fO "_law_balanced" "_law_balanced" (topO 63) (.str s137 988) (r 760)):=by rw[← b0a];kernel_rfl
theorem k0s(P:Params):(K P).lookup 768=some (fO "_law_drawn" "_law_drawn" (topO 64) (.str s137 988) (r 767)):=by rw[← b0a];kernel_rfl
theorem lk__law_read(P:Params):(K P).lookup 775=some (fO "_law_read" "_law_read" (topO 65) (.str s137 988) (r 774)):=by rw[← b0a];kernel_rfl
theorem lk_law(P:Params):(K P).lookup 782=some (fO "law" "law" (topO 66) (.str s137 988) (r 781)):=by rw[← b0a];kernel_rfl
end
end H84
set_option maxHeartbeats 4000000
namespace K84
open PySem L2 Mine PyProof.Rows PySem.SeqAt
abbrev Pr:Program:=PySem.Challenge.pw_weighwalk_k84_odd_sayings
def top(i:Nat):Stmt:=PySem.Challenge.pw_weighwalk_k84_odd_sayings.main.body.getD i (.Pass ⟨0,0,0,0⟩)
abbrev g0h:Stmt:=top 16
abbrev h0l:Stmt:=top 17
abbrev g0i:Stmt:=top 19
abbrev b0z:Stmt:=a0i (top 31) 0
abbrev c0z:Stmt:=top 24
abbrev d0z:Stmt:=top 25
abbrev f0a:Stmt:=top 26
abbrev c0m:Stmt:=a0i (top 30) 9
abbrev b0w:Stmt:=a0i (top 31) 8
abbrev c0v:Stmt:=a0i (top 31) 10
abbrev e0e:Stmt:=a0i (top 32) 7
abbrev d0p:Stmt:=a0i (top 33) 7
abbrev f0o:Stmt:=top 14
abbrev c0l:Stmt:=top 38
abbrev e0z:Stmt:=top 39
abbrev e0a:Stmt:=top 40
abbrev d0m:Stmt:=top 41
abbrev c0i:Stmt:=top 42
abbrev d0l:Stmt:=top 43
abbrev g0f:Stmt:=top 45
abbrev f0d:Stmt:=top 46
abbrev d0o:Stmt:=top 47
abbrev h0k:Stmt:=top 48
abbrev e0d:Stmt:=top 49
abbrev g0d:Stmt:=top 50
abbrev g0g:Stmt:=top 51
abbrev e0b:Stmt:=top 52
abbrev c0p:Stmt:=top 53
abbrev c0b:Stmt:=top 54
abbrev f0c:Stmt:=top 55
abbrev e0c:Stmt:=top 56
abbrev f0b:Stmt:=top 57
abbrev c0g:Stmt:=top 58
abbrev c0o:Stmt:=top 59
abbrev f0e:Stmt:=top 60
abbrev f0n:Stmt:=top 61
abbrev d0n:Stmt:=top 62
abbrev d0e:Stmt:=top 63
abbrev f0f:Stmt:=top 64
abbrev g0e:Stmt:=top 65
abbrev s_law:Stmt:=top 66
theorem _root_.L2.Room.m{j k:Nat}{A:Around}(r:Room k A)(h:j≤k:=by decide):Room j A:=r.mono h
theorem b0k{N P:List Str}{s:Scope}(a:s.kind=.function:=by rfl)(b:s.isCoroutine=false:=by rfl)(c:s.isGenerator=false:=by rfl)(d:N.Nodup:=by decide +kernel)(e:N.take P.length=P:=by rfl)(f:∀x∈P,s.names.lookup x=some .local∨s.names.lookup x=some .cell:=by decide +kernel)(g:∀y∈s.names,y.2≠.free:=by decide +kernel):a0r N P s:=⟨a,b,c,d,e,f,g⟩
theorem sc_is_whole:a0r ["thing"] ["thing"] (a0k g0h):=b0k
theorem sc_divisor:a0r ["one","other","greatest","rest","left"] ["one","other"] (a0k h0l):=b0k
theorem sc_is_prime:a0r ["number","factor"] ["number"] (a0k g0i):=b0k
theorem e0s:a0r ["self","prime"] ["self","prime"] (a0k b0z):=b0k
theorem sc_is_written:a0r ["text","figures"] ["text"] (a0k c0z):=b0k
theorem j0x:a0r ["text"] ["text"] (a0k d0z):=b0k
theorem sc_need_text:a0r ["text"] ["text"] (a0k f0a):=b0k
theorem sc_Fractions_read:a0r ["self","text","pieces","top","bottom"] ["self","text"] (a0k c0m):=b0k
theorem d0y:a0r ["self","thing"] ["self","thing"] (a0k b0w):=b0k
theorem sc_Residues_read:a0r ["self","text","number"] ["self","text"] (a0k c0v):=b0k
theorem k0b:a0r ["self","text"] ["self","text"] (a0k e0e):=b0k
theorem i0n:a0r ["self","text"] ["self","text"] (a0k d0p):=b0k
theorem sc_is_word:a0r ["letters","thing"] ["letters","thing"] (a0k f0o):=b0k
theorem g0c:a0r ["saying"] ["saying"] (a0k c0l):=b0k
theorem sc_read_word:a0r ["letters","text"] ["letters","text"] (a0k e0z):=b0k
theorem j0y:a0r ["pieces"] ["pieces"] (a0k e0a):=b0k
theorem sc_read_pieces:a0r ["kind","letters","pieces","high","form","told","count"] ["kind","letters","pieces","high"] (a0k d0m):=b0k
theorem d0w:a0r ["saying"] ["saying"] (a0k c0i):=b0k
theorem sc_read_saying:a0r ["kind","letters","text","pieces","told"] ["kind","letters","text"] (a0k d0l):=b0k
theorem sc_law_next:a0r ["_law_state_here","_law_many","_law_found"] ["_law_state_here","_law_many"] (a0k g0f):=b0k
theorem sc_law_state:a0r ["_law_script","_law_seed","_law_cell"] ["_law_script"] (a0k f0d):=b0k
theorem sc_law_divisor:a0r ["_law_one","_law_other"] ["_law_one","_law_other"] (a0k d0o):=b0k
theorem sc_law_low:a0r ["_law_top","_law_bottom","_law_by"] ["_law_top","_law_bottom"] (a0k h0k):=b0k
theorem k0a:a0r ["_law_sort_here"] ["_law_sort_here"] (a0k e0d):=b0k
theorem sc_law_sort:a0r ["_law_state_here","_law_prime"] ["_law_state_here"] (a0k g0d):=b0k
theorem sc_law_kind:a0r ["_law_sort_here"] ["_law_sort_here"] (a0k g0g):=b0k
theorem j0z:a0r ["_law_state_here","_law_sort_here"] ["_law_state_here","_law_sort_here"] (a0k e0b):=b0k
theorem sc_law_letters:a0r ["_law_state_here","_law_most","_law_some","_law_first","_law_letters_here","_law_k"] ["_law_state_here","_law_most"] (a0k c0p):=b0k
theorem e0y:a0r ["_law_sort_here","_law_x"] ["_law_sort_here","_law_x"] (a0k c0b):=b0k
theorem sc_law_texts:a0r ["_law_sort_here","_law_saying_here","_law_texts_here","_law_one"] ["_law_sort_here","_law_saying_here"] (a0k f0c):=b0k
theorem sc_law_saying:a0r ["_law_state_here","_law_sort_here","_law_letters_here","_law_deep","_law_way","_law_word","_law_k","_law_one"] ["_law_state_here","_law_sort_here","_law_letters_here","_law_deep"] (a0k e0c):=b0k
theorem sc_law_whole:a0r ["_law_text","_law_figures","_law_sign"] ["_law_text"] (a0k f0b):=b0k
theorem sc_law_read_weight:a0r ["_law_sort_here","_law_text","_law_top","_law_bottom","_law_number"] ["_law_sort_here","_law_text"] (a0k c0g):=b0k
theorem i0m:a0r ["_law_letters_here","_law_text"] ["_law_letters_here","_law_text"] (a0k c0o):=b0k
theorem sc_law_items:a0r ["_law_sort_here","_law_letters_here","_law_texts_here","_law_items_here","_law_at","_law_form","_law_told"] ["_law_sort_here","_law_letters_here","_law_texts_here"] (a0k f0e):=b0k
theorem sc_law_due:a0r ["_law_sort_here","_law_letters_here","_law_texts_here","_law_items_here","_law_sizes","_law_waiting","_law_item","_law_high","_law_stack","_law_size","_law_inner"] ["_law_sort_here","_law_letters_here","_law_texts_here"] (a0k f0n):=b0k
theorem sc_law_spoiled:a0r ["_law_state_here","_law_texts_here","_law_at","_law_way","_law_menu","_law_both","_law_spot","_law_sign","_law_old","_law_new"] ["_law_state_here","_law_texts_here"] (a0k d0n):=b0k
theorem d0x:a0r ["_law_many"] ["_law_many"] (a0k d0e):=b0k
theorem sc_law_drawn:a0r ["_law_state_here","_law_sort_here","_law_letters_here","_law_way","_law_tall","_law_texts_here","_law_k"] ["_law_state_here","_law_sort_here","_law_letters_here"] (a0k f0f):=b0k
theorem sc_law_read:a0r ["_law_kind_here","_law_letters_here","_law_thing","_law_found","_law_kinds","e","_law_others"] ["_law_kind_here","_law_letters_here","_law_thing"] (a0k g0e):=b0k
theorem sc_law:a0r ["_law_script","_law_state_here","_law_sort_here","_law_kind_here","_law_letters_here","_law_refused","_law_thing","_law_k","_law_text","_law_due_here"] ["_law_script"] (a0k s_law):=b0k
def sp_whole:Sp:=fun vs H Q _=>∃i,vs=[.int i]∧Q (.bl true) H
def sp_divisor:Sp:=fun vs H Q _=>∃a b,vs=[.int a,.int b]∧Q (.int (dv a b)) H
def sp_prime:Sp:=fun vs H Q _=>∃n,vs=[.int n]∧(2≤n∧n≤1000000∧isP n=true)∧Q (.bl true) H
def sp_init(C:Addr):Sp:=fun vs H Q _=>∃x dx n,vs=[.ref x,.int n]∧(2≤n∧n≤1000000∧isP n=true)∧H x=some (.ins C dx [])∧Q .non (upd H x (.ins C dx (pfs n)))
set_option genInjectivity false in
set_option genSizeOfSpec false in
structure Adr where
  u0a:Addr
  r0g:FuncData
  u0l:Addr
  s0k:FuncData
  t0m:Addr
  q0u:FuncData
  l0w:Addr
  l0m:FuncData
  r0b:Addr
  o0q:FuncData
  r0e:Addr
  o0f:FuncData
  s0v:Addr
  p0y:FuncData
  m0m:Addr
  m0f:FuncData
  l0p:Addr
  l0i:FuncData
  m0w:Addr
  m0k:FuncData
  s0b:Addr
  o0h:FuncData
  q0s:Addr
  m0z:FuncData
  u0j:Addr
  s0u:FuncData
  m0n:Addr
  m0a:FuncData
  s0l:Addr
  p0m:FuncData
  r0x:Addr
  o0n:FuncData
  p0n:Addr
  n0j:FuncData
  o0g:Addr
  m0o:FuncData
  p0h:Addr
  n0u:FuncData
  t0o:Addr
  q0w:FuncData
  s0w:Addr
  q0a:FuncData
  p0k:Addr
  n0k:FuncData
  u0h:Addr
  s0q:FuncData
  r0o:Addr
  o0k:FuncData
  t0y:Addr
  r0f:FuncData
  t0q:Addr
  s0f:FuncData
  q0z:Addr
  o0b:FuncData
  p0t:Addr
  m0y:FuncData
  m0e:Addr
  l0q:FuncData
  s0p:Addr
  q0n:FuncData
  r0k:Addr
  n0y:FuncData
  s0t:Addr
  p0o:FuncData
  m0h:Addr
  l0v:FuncData
  p0j:Addr
  n0r:FuncData
  s0o:Addr
  p0q:FuncData
  u0f:Addr
  s0s:FuncData
  q0e:Addr
  n0p:FuncData
  p0a:Addr
  m0q:FuncData
  s0r:Addr
  q0t:FuncData
  t0i:Addr
  r0d:FuncData
  law:Addr
  u0v:FuncData
  t0f:Addr
  t0u:Addr
  u0x:Addr
  u0q:Addr
  s0e:Addr
  u0n:Addr
  s0y:Addr
  t0h:Addr
  u0m:Addr
  u0p:Addr
  t0e:Addr
  t0t:Addr
  u0o:Addr
  u0r:Addr
  u0t:Addr
structure Txt(K:PySem.W.Frag)(mg:Str→Option Value)(t:Adr):Prop where
  r0a:Fun K "is_whole" "is_whole" g0h t.u0a t.r0g
  q0x:Binds K t.r0g ["thing"] []
  r0s:mg "is_whole"=some (.ref t.u0a)
  s0x:Fun K "divisor" "divisor" h0l t.u0l t.s0k
  s0n:Binds K t.s0k ["one","other"] []
  s0m:mg "divisor"=some (.ref t.u0l)
  r0p:Fun K "is_prime" "is_prime" g0i t.t0m t.q0u
  r0v:Binds K t.q0u ["number"] []
  s0a:mg "is_prime"=some (.ref t.t0m)
  l0l:Fun K "__init__" "Residues.__init__" b0z t.l0w t.l0m
  l0k:Binds K t.l0m ["self","prime"] []
  l0j:Meth K t.t0u "__init__" t.l0w
  o0u:Fun K "is_written" "is_written" c0z t.r0b t.o0q
  p0d:Binds K t.o0q ["text"] []
  o0i:mg "is_written"=some (.ref t.r0b)
  o0e:Fun K "read_whole" "read_whole" d0z t.r0e t.o0f
  o0o:Binds K t.o0f ["text"] []
  o0s:mg "read_whole"=some (.ref t.r0e)
  p0z:Fun K "need_text" "need_text" f0a t.s0v t.p0y
  p0f:Binds K t.p0y ["text"] []
  q0q:mg "need_text"=some (.ref t.s0v)
  l0y:Fun K "read" "Fractions.read" c0m t.m0m t.m0f
  l0z:Binds K t.m0f ["self","text"] []
  m0d:Meth K t.t0f "read" t.m0m
  l0g:Fun K "is_weight" "Residues.is_weight" b0w t.l0p t.l0i
  l0h:Binds K t.l0i ["self","thing"] []
  l0f:Meth K t.t0u "is_weight" t.l0p
  m0i:Fun K "read" "Residues.read" c0v t.m0w t.m0k
  m0g:Binds K t.m0k ["self","text"] []
  m0j:Meth K t.t0u "read" t.m0w
  o0l:Fun K "read" "Costs.read" e0e t.s0b t.o0h
  o0j:Binds K t.o0h ["self","text"] []
  o0m:Meth K t.u0x "read" t.s0b
  n0s:Fun K "read" "Truths.read" d0p t.q0s t.m0z
  n0l:Binds K t.m0z ["self","text"] []
  n0c:Meth K t.u0q "read" t.q0s
  t0d:Fun K "is_word" "is_word" f0o t.u0j t.s0u
  t0a:Binds K t.s0u ["letters","thing"] []
  s0h:mg "is_word"=some (.ref t.u0j)
  m0b:Fun K "sayings_within" "sayings_within" c0l t.m0n t.m0a
  l0x:Binds K t.m0a ["saying"] []
  m0c:mg "sayings_within"=some (.ref t.m0n)
  p0s:Fun K "read_word" "read_word" e0z t.s0l t.p0m
  q0b:Binds K t.p0m ["letters","text"] []
  q0h:mg "read_word"=some (.ref t.s0l)
  o0d:Fun K "next_piece" "next_piece" e0a t.r0x t.o0n
  p0b:Binds K t.o0n ["pieces"] []
  o0p:mg "next_piece"=some (.ref t.r0x)
  n0f:Fun K "read_pieces" "read_pieces" d0m t.p0n t.n0j
  n0n:Binds K t.n0j ["kind","letters","pieces","high"] []
  n0g:mg "read_pieces"=some (.ref t.p0n)
  m0t:Fun K "parts_within" "parts_within" c0i t.o0g t.m0o
  m0s:Binds K t.m0o ["saying"] []
  m0p:mg "parts_within"=some (.ref t.o0g)
  n0e:Fun K "read_saying" "read_saying" d0l t.p0h t.n0u
  n0w:Binds K t.n0u ["kind","letters","text"] []
  n0v:mg "read_saying"=some (.ref t.p0h)
  r0t:Fun K "_law_next" "_law_next" g0f t.t0o t.q0w
  r0w:Binds K t.q0w ["_law_state_here","_law_many"] []
  r0j:mg "_law_next"=some (.ref t.t0o)
  q0p:Fun K "_law_state" "_law_state" f0d t.s0w t.q0a
  q0k:Binds K t.q0a ["_law_script"] []
  p0u:mg "_law_state"=some (.ref t.s0w)
  n0m:Fun K "_law_divisor" "_law_divisor" d0o t.p0k t.n0k
  n0x:Binds K t.n0k ["_law_one","_law_other"] []
  n0h:mg "_law_divisor"=some (.ref t.p0k)
  s0z:Fun K "_law_low" "_law_low" h0k t.u0h t.s0q
  t0b:Binds K t.s0q ["_law_top","_law_bottom"] []
  t0g:mg "_law_low"=some (.ref t.u0h)
  n0z:Fun K "_law_nought" "_law_nought" e0d t.r0o t.o0k
  o0t:Binds K t.o0k ["_law_sort_here"] []
  o0w:mg "_law_nought"=some (.ref t.r0o)
  r0r:Fun K "_law_sort" "_law_sort" g0d t.t0y t.r0f
  r0y:Binds K t.r0f ["_law_state_here"] []
  r0l:mg "_law_sort"=some (.ref t.t0y)
  r0m:Fun K "_law_kind" "_law_kind" g0g t.t0q t.s0f
  r0n:Binds K t.s0f ["_law_sort_here"] []
  r0h:mg "_law_kind"=some (.ref t.t0q)
  o0x:Fun K "_law_weight" "_law_weight" e0b t.q0z t.o0b
  o0a:Binds K t.o0b ["_law_state_here","_law_sort_here"] []
  o0y:mg "_law_weight"=some (.ref t.q0z)
  n0t:Fun K "_law_letters" "_law_letters" c0p t.p0t t.m0y
  n0o:Binds K t.m0y ["_law_state_here","_law_most"] []
  n0a:mg "_law_letters"=some (.ref t.p0t)
  l0o:Fun K "_law_shown_weight" "_law_shown_weight" c0b t.m0e t.l0q
  l0r:Binds K t.l0q ["_law_sort_here","_law_x"] []
  l0n:mg "_law_shown_weight"=some (.ref t.m0e)
  p0x:Fun K "_law_texts" "_law_texts" f0c t.s0p t.q0n
  q0i:Binds K t.q0n ["_law_sort_here","_law_saying_here"] []
  q0g:mg "_law_texts"=some (.ref t.s0p)
  o0r:Fun K "_law_saying" "_law_saying" e0c t.r0k t.n0y
  o0z:Binds K t.n0y ["_law_state_here","_law_sort_here","_law_letters_here","_law_deep"] []
  p0c:mg "_law_saying"=some (.ref t.r0k)
  p0r:Fun K "_law_whole" "_law_whole" f0b t.s0t t.p0o
  p0e:Binds K t.p0o ["_law_text"] []
  q0j:mg "_law_whole"=some (.ref t.s0t)
  l0s:Fun K "_law_read_weight" "_law_read_weight" c0g t.m0h t.l0v
  l0u:Binds K t.l0v ["_law_sort_here","_law_text"] []
  l0t:mg "_law_read_weight"=some (.ref t.m0h)
  n0b:Fun K "_law_word_of" "_law_word_of" c0o t.p0j t.n0r
  m0v:Binds K t.n0r ["_law_letters_here","_law_text"] []
  n0d:mg "_law_word_of"=some (.ref t.p0j)
  q0f:Fun K "_law_items" "_law_items" f0e t.s0o t.p0q
  p0i:Binds K t.p0q ["_law_sort_here","_law_letters_here","_law_texts_here"] []
  p0p:mg "_law_items"=some (.ref t.s0o)
  s0i:Fun K "_law_due" "_law_due" f0n t.u0f t.s0s
  t0c:Binds K t.s0s ["_law_sort_here","_law_letters_here","_law_texts_here"] []
  s0j:mg "_law_due"=some (.ref t.u0f)
  n0q:Fun K "_law_spoiled" "_law_spoiled" d0n t.q0e t.n0p
  m0x:Binds K t.n0p ["_law_state_here","_law_texts_here"] []
  n0i:mg "_law_spoiled"=some (.ref t.q0e)
  m0u:Fun K "_law_balanced" "_law_balanced" d0e t.p0a t.m0q
  m0l:Binds K t.m0q ["_law_many"] []
  m0r:mg "_law_balanced"=some (.ref t.p0a)
  q0c:Fun K "_law_drawn" "_law_drawn" f0f t.s0r t.q0t
  q0m:Binds K t.q0t ["_law_state_here","_law_sort_here","_law_letters_here"] []
  q0d:mg "_law_drawn"=some (.ref t.s0r)
  q0y:Fun K "_law_read" "_law_read" g0e t.t0i t.r0d
  r0q:Binds K t.r0d ["_law_kind_here","_law_letters_here","_law_thing"] []
  r0c:mg "_law_read"=some (.ref t.t0i)
  u0u:Fun K "law" "law" s_law t.law t.u0v
  u0s:Binds K t.u0v ["_law_script"] []
  u0w:mg "law"=some (.ref t.law)
  q0r:Cls K t.t0f
  p0l:mg "Fractions"=some (.ref t.t0f)
  p0w:MkO K t.t0f
  r0i:Cls K t.t0u
  s0g:mg "Residues"=some (.ref t.t0u)
  q0v:Mk K t.t0u t.l0w
  u0e:Cls K t.u0x
  u0g:mg "Costs"=some (.ref t.u0x)
  u0k:MkO K t.u0x
  u0b:Cls K t.u0q
  t0p:mg "Truths"=some (.ref t.u0q)
  t0z:MkO K t.u0q
  o0c:mg "WeighError"=some (.ref t.s0e)
  o0v:ExcK K t.s0e
  u0c:mg "NoKind"=some (.ref t.u0n)
  t0r:ExcK K t.u0n
  q0o:mg "WrongKind"=some (.ref t.s0y)
  q0l:ExcK K t.s0y
  r0u:mg "NoWeight"=some (.ref t.t0h)
  s0d:ExcK K t.t0h
  t0n:mg "NoWord"=some (.ref t.u0m)
  t0w:ExcK K t.u0m
  t0v:mg "Unlike"=some (.ref t.u0p)
  t0k:ExcK K t.u0p
  p0v:mg "NoClosure"=some (.ref t.t0e)
  p0g:ExcK K t.t0e
  r0z:mg "TooGreat"=some (.ref t.t0t)
  s0c:ExcK K t.t0t
  t0s:mg "NoText"=some (.ref t.u0o)
  t0l:ExcK K t.u0o
  t0x:mg "NoName"=some (.ref t.u0r)
  t0j:ExcK K t.u0r
  u0d:mg "NoRow"=some (.ref t.u0t)
  u0i:ExcK K t.u0t
  z_isinstance:mg "isinstance"=none
  z_int:mg "int"=none
  z_bool:mg "bool"=none
  z_abs:mg "abs"=none
  c_GREATEST_PRIME:∃tk,mg "GREATEST_PRIME"=some (Value.int 1000000 tk)
  z_str:mg "str"=none
  z_len:mg "len"=none
  c_MOST_FIGURES:∃tk,mg "MOST_FIGURES"=some (Value.int 30 tk)
  z_all:mg "all"=none
  c_FIGURES:∃tk,mg "FIGURES"=some (Value.str "0123456789" tk)
  c_MOST_HIGH:∃tk,mg "MOST_HIGH"=some (Value.int 12 tk)
  z_range:mg "range"=none
  z_sum:mg "sum"=none
  z_list:mg "list"=none
  z_reversed:mg "reversed"=none
  c_MOST_PARTS:∃tk,mg "MOST_PARTS"=some (Value.int 40 tk)
  z_enumerate:mg "enumerate"=none
  z_tuple:mg "tuple"=none
  z_ValueError:mg "ValueError"=none
  k_ii:PySem.W.kitOne K (.type "int") (.type "int")=some true
  k_ib:PySem.W.kitOne K (.type "int") (.type "bool")=some false
  k_tt:PySem.W.kitOne K (.type "tuple") (.type "tuple")=some true
  k_bb:PySem.W.kitOne K (.type "bool") (.type "bool")=some true
  k_ss:PySem.W.kitOne K (.type "str") (.type "str")=some true
  nP:NoAttr K t.t0u "prime"
  k_ts:PySem.W.kitOne K (.type "tuple") (.type "str")=some false
  k_ns:PySem.W.kitOne K (.type "NoneType") (.type "str")=some false
  k_is:PySem.W.kitOne K (.type "int") (.type "str")=some false
  k_ls:PySem.W.kitOne K (.type "list") (.type "str")=some false
  eT:PySem.W.exmOne K (.ref t.u0o) (.ref t.s0e)=some true
  vT1:PySem.W.kitOne K (.ref t.u0o) (.type "ValueError")=some true
  kTT:PySem.W.kitOne K (.ref t.u0o) (.ref t.u0o)=some true
  kT1:PySem.W.kitAny K (.ref t.u0o) [.ref t.t0e,.ref t.u0n,.ref t.u0r,.ref t.u0t]=some false
  kT2:PySem.W.kitAny K (.ref t.u0o) [.ref t.t0h,.ref t.u0m,.ref t.t0t,.ref t.u0p,.ref t.s0y]=some false
def tx(l:List Nat):Str:=⟨l.toArray⟩
def vT(l:List Nat):V:=.str (tx l)
theorem i0z(a b:List Nat):tx a++tx b=tx (a++b):=by
  show(⟨a.toArray++b.toArray⟩:Str)=⟨(a++b).toArray⟩
  simp
theorem a0u(a:List Nat):(tx a).length=a.length:=by
  show a.toArray.size=a.length
  simp
theorem tx_of(z:Str):tx z.cps.toList=z:=by cases z;rfl
theorem b0x{a b:List Nat}(h:tx a=tx b):a=b:=by
  have:=congrArg (fun z:Str=>z.cps.toList) h
  simpa [tx] using this
def Gd(n:Nat)(l:List Nat):Prop:=l.length≤n∧∀c∈l,c < 128
instance (n:Nat)(l:List Nat):Decidable (Gd n l):=by unfold Gd;exact inferInstance
theorem Gd.asc{n:Nat}{l:List Nat}(h:Gd n l):(tx l).cps.all (· < 128)=true:=by
  show l.toArray.all (· < 128)=true
  simp only[List.all_toArray,List.all_eq_true,decide_eq_true_eq]
  exact h.2
theorem Gd.mono{m n:Nat}{l:List Nat}(h:Gd m l)(k:m≤n):Gd n l:=⟨Nat.le_trans h.1 k,h.2⟩
theorem Gd.take{n:Nat}{l:List Nat}(h:Gd n l)(k:Nat):Gd n (l.take k):=⟨Nat.le_trans (by rw[List.length_take];exact Nat.min_le_right _ _) h.1,fun c hc=>h.2 c (List.mem_of_mem_take hc)⟩
theorem Gd.drop{n:Nat}{l:List Nat}(h:Gd n l)(k:Nat):Gd n (l.drop k):=⟨Nat.le_trans (by rw[List.length_drop];exact Nat.sub_le _ _) h.1,fun c hc=>h.2 c (List.mem_of_mem_drop hc)⟩
theorem sl_to{p:List Nat}{q:Int}(h0:0≤q)(h1:q≤p.length):Txt.slice (tx p) none (some q)=tx (p.take q.toNat):=by
  have e:=PyProof.Rows.slice_closes_toL (x:=tx p) (j:=q) h0 (by rw[a0u];exact h1)
  rw[beq_iff_eq]at e
  rw[e]
  show(⟨_⟩:Str)=⟨_⟩
  simp[tx]
theorem j0w{p:List Nat}{q:Int}(h0:0≤q):Txt.slice (tx p) (some q) none=tx (p.drop q.toNat):=by
  by_cases h1:q≤p.length
  · rw[PyProof.Rows.slice_from_eq (x:=tx p) (b:=p.length) h0 (by rw[a0u];exact h1) (by rw[a0u])]
    show(⟨_⟩:Str)=⟨_⟩
    have e:((p.drop q.toNat).take ((p.length:Int) - q).toNat)=p.drop q.toNat:=List.take_of_length_le (by rw[List.length_drop];omega)
    simp only[tx,List.toList_toArray,e]
  · rw[PyProof.Rows.slice_beyond (x:=tx p) (by rw[a0u];omega),List.drop_of_length_le (by omega)]
    rfl
theorem mi_is:(Str.ofString "-")=tx [45]:=by decide +kernel
theorem e0m:(Str.ofString "")=tx []:=by decide +kernel
theorem sl_is:(Str.ofString "/")=tx [47]:=by decide +kernel
theorem o_is:(Str.ofString "0")=tx [48]:=by decide +kernel
theorem fig_is:(Str.ofString "0123456789")=tx [48,49,50,51,52,53,54,55,56,57]:=by decide +kernel
def dg(c:Nat):Bool:=decide (48≤c∧c≤57)
theorem in_fig(c:Nat):(!(Builtin.Str.occurrences (Str.ofString "0123456789") ⟨#[c]⟩ 0 (Str.ofString "0123456789").length 1).isEmpty)=dg c:=by
  rw[PySem.StrLaws.found_one,fig_is]
  show decide (c∈[48,49,50,51,52,53,54,55,56,57])=_
  rw[Bool.eq_iff_iff,decide_eq_true_eq]
  unfold dg
  rw[decide_eq_true_eq]
  simp
  omega
theorem starts_is(l:List Nat):Txt.startswith (tx l) (Str.ofString "-")=decide (l.head? = some 45):=by
  rw[mi_is]
  cases l with
  | nil=>rfl
  | cons a r=>
    simp[Txt.startswith,Builtin.Str.subAt,tx,Str.length]
    rfl
def figs(l:List Nat):List Nat:=if l.head? = some 45 then l.drop 1 else l
def wr(l:List Nat):Bool:=(decide (0 < (figs l).length) && decide ((figs l).length≤30)) && (if(figs l).head? = some 48 then decide (l=[48])else(figs l).all dg)
def nm(l:List Nat):Int:=(PySem.intText? (tx l)).getD 0
theorem all_dg{f:List Nat}(h:f.all dg=true):PySem.NumText.AllDigits f:=fun c hc=>by
  have:=List.all_eq_true.mp h c hc
  unfold dg at this
  simpa using this
theorem wr_int{l:List Nat}(h:wr l=true):PySem.intText? (tx l)=some (nm l)∧(tx l).length≤640:=by
  unfold wr at h
  simp only[Bool.and_eq_true,decide_eq_true_eq]at h
  obtain⟨⟨h1,h2⟩,h3⟩:=h
  have key:∃n,PySem.intText? (tx l)=some n:=by
    unfold figs at h1 h2 h3
    by_cases hm:l.head? = some 45
    · rw[if_pos hm]at h1 h2 h3
      cases l with
      | nil=>cases hm
      | cons a r=>
        have ha:a=45:=by simpa using hm
        subst ha
        simp only[List.drop_succ_cons,List.drop_zero]at h1 h2 h3
        split at h3
        · simp at h3
        · exact⟨_,PySem.intText_neg (cs:=r) (by simp[tx]) (all_dg h3) (fun e=>by subst e;simp at h1) (by rw[a0u];simp;omega)⟩
    · rw[if_neg hm]at h1 h2 h3
      split at h3
      · have h3:=of_decide_eq_true h3
        subst h3
        exact⟨0,by decide +kernel⟩
      · exact⟨_,PySem.intText_digits (by simpa [tx] using all_dg h3) (by simp[tx];intro e;subst e;simp at h1) (by rw[a0u];omega)⟩
  obtain⟨n,e⟩:=key
  refine⟨by rw[nm,e];rfl,?_⟩
  rw[a0u]
  unfold figs at h2
  split at h2
  · rw[List.length_drop]at h2;omega
  · omega
def l0a(l:List Nat):Option Nat:=(Builtin.Str.occurrences (tx l) (Str.ofString "/") 0 (tx l).length 1).head?
theorem cut_le{l:List Nat}{i:Nat}(h:l0a l=some i):i+1≤l.length:=by
  unfold l0a at h
  have:=(PySem.StrLaws.occ_spec (tx l) (Str.ofString "/") 0 (tx l).length 1 i (List.mem_of_mem_head? (by rw[h];rfl))).1
  rw[a0u]at this
  exact this
theorem part_none{l:List Nat}(h:l0a l=none):Txt.partition (tx l) (Str.ofString "/")=(tx l,Str.empty,Str.empty):=by
  unfold l0a at h
  unfold Txt.partition
  rw[List.head?_eq_none_iff.mp h]
theorem part_some{l:List Nat}{i:Nat}(h:l0a l=some i):Txt.partition (tx l) (Str.ofString "/")=(tx (l.take i),Str.ofString "/",tx (l.drop (i+1))):=by
  have hle:=cut_le h
  unfold l0a at h
  unfold Txt.partition
  obtain⟨r,e⟩:=List.head?_eq_some_iff.mp h
  rw[e]
  have e1:Builtin.Str.strSub (tx l) 0 i=tx (l.take i):=by
    show(⟨_⟩:Str)=⟨_⟩
    simp[tx]
  have e2:Builtin.Str.strSub (tx l) (i+(Str.ofString "/").length) (tx l).length=tx (l.drop (i+1)):=by
    show(⟨_⟩:Str)=⟨_⟩
    rw[a0u,show(Str.ofString "/").length=1 from rfl]
    simp[tx]
    exact List.take_of_length_le (by rw[List.length_drop];omega)
  dsimp only
  rw[e1,e2]
def rdF(l:List Nat):Option PyData:=match l0a l with
  | none=>if wr l=true then some (.tuple [.int (nm l),.int 1])else none
  | some i=>if wr (l.take i)=true∧wr (l.drop (i+1))=true∧2≤nm (l.drop (i+1))∧dv (nm (l.take i)) (nm (l.drop (i+1)))=1 then some (.tuple [.int (nm (l.take i)),.int (nm (l.drop (i+1)))])else none
def rdR(p:Int)(l:List Nat):Option PyData:=if wr l=true∧0≤nm l∧nm l < p then some (.int (nm l))else none
def rdC(l:List Nat):Option PyData:=if tx l=Str.ofString "none" then some .none else if wr l=true then some (.int (nm l))else none
def rdT(l:List Nat):Option PyData:=if tx l=Str.ofString "yes" then some (.bool true)else if tx l=Str.ofString "no" then some (.bool false)else none
theorem iteS{a b:Str}{A B:Prop}(h1:a=b→A)(h2:a≠b→B):if decide (V.str a=V.str b)=true then A else B:=by
  by_cases h:a=b
  · rw[if_pos (by rw[h];simp)];exact h1 h
  · rw[if_neg (by simp;exact h)];exact h2 h
def WDt(d:PyData):Prop:=d=.none∨(∃b,d=.bool b)∨(∃i,d=.int i)∨∃a b,d=.tuple [.int a,.int b]
def ts(i:Int):Str:=Str.ofString (toString i)
def wrt:PyData→Str
  | .tuple [.int a,.int b]=>if b=1 then ts a else(ts a++Str.ofString "/")++ts b
  | .int a=>ts a
  | .none=>Str.ofString "none"
  | .bool true=>Str.ofString "yes"
  | .bool false=>Str.ofString "no"
  | _=>Str.empty
def WB(way:Int)(d:PyData):Prop:=(way=0∧∃a b:Int,d=.tuple [.int a,.int b]∧a.natAbs≤2 ^ 100∧b.natAbs≤2 ^ 100)∨(way=1∧∃a:Int,d=.int a∧a.natAbs≤2 ^ 100)∨(way=2∧(d=.none∨∃a:Int,d=.int a∧a.natAbs≤2 ^ 100))∨(way=3∧∃b,d=.bool b)
theorem log_100{a:Int}(h:a.natAbs≤2 ^ 100):a.natAbs.log2 < 101:=by
  by_cases e:a.natAbs=0
  · rw[e];decide
  · rw[Nat.log2_lt e];exact Nat.lt_of_le_of_lt h (Nat.pow_lt_pow_right (by decide) (by decide))
theorem ts_gd{a:Int}(h:a.natAbs≤2 ^ 100):Gd 102 (ts a).cps.toList:=by
  refine⟨?_,fun c hc=>?_⟩
  · have:=PySem.int_text_length_le (k:=101) (by decide) (log_100 h)
    rw[ts,PyProof.Rows.signs_ofString,List.length_map]
    exact this
  · rw[ts,PyProof.Rows.signs_ofString]at hc
    obtain⟨ch,hch,rfl⟩:=List.mem_map.mp hc
    exact PySem.int_ascii a ch hch
def jn(sep:List Nat):List (List Nat)→List Nat
  | []=>[]
  | [p]=>p
  | p::q::r=>p++sep++jn sep (q::r)
theorem glue_fold(sep:List Nat):∀(ls:List (List Nat)) (acc:List Nat),(ls.map tx).foldl (fun a p=>a++(tx sep).cps++p.cps) acc.toArray=(ls.foldl (fun a p=>a++sep++p) acc).toArray
  | [],acc=>rfl
  | p::ls,acc=>by
    rw[List.map_cons,List.foldl_cons,List.foldl_cons]
    have:acc.toArray++(tx sep).cps++(tx p).cps=(acc++sep++p).toArray:=by simp[tx]
    rw[this]
    exact glue_fold sep ls _
theorem jn_fold(sep:List Nat):∀(ls:List (List Nat)) (p:List Nat),ls.foldl (fun a p=>a++sep++p) p=jn sep (p::ls)
  | [],p=>rfl
  | q::ls,p=>by
    rw[List.foldl_cons,jn_fold sep ls]
    cases ls with
    | nil=>rfl
    | cons r ls=>simp[jn]
theorem join_is(sep:List Nat):∀ls:List (List Nat),Txt.join (tx sep) (ls.map tx)=tx (jn sep ls)
  | []=>rfl
  | p::ls=>by
    show(⟨_⟩:Str)=⟨_⟩
    rw[List.map_cons,List.drop_succ_cons,List.drop_zero,List.headD_cons]
    have:=glue_fold sep ls p
    rw[show(tx p).cps=p.toArray from rfl,this,jn_fold]
structure Sep(sep:List Nat)(o c:Nat):Prop where
  at_:sep[o]? = some c
  no:∀i,i < o→sep[i]?≠some c
theorem sub_iff(x sep:List Nat)(k:Nat):Builtin.Str.subAt (tx x) (tx sep) k=true↔(x.drop k).take sep.length=sep:=by
  unfold Builtin.Str.subAt
  rw[a0u,beq_iff_eq]
  constructor
  · intro h
    have:=congrArg Array.toList h
    simp[tx]at this
    rw[← this]
    simp[List.extract]
  · intro h
    apply Array.toList_inj.mp
    simp[tx]
    exact h
theorem at_mark{x sep:List Nat}{o c k N:Nat}(S:Sep sep o c)(h:PySem.StrLaws.At (tx x) (tx sep) N k):x[k+o]? = some c:=by
  have h2:=(sub_iff x sep k).mp h.2
  have:=S.at_
  rw[← h2,List.getElem?_take]at this
  split at this
  · rw[List.getElem?_drop]at this;exact this
  · cases this
def pieces(x:List Nat)(w N:Nat):Nat→List Nat→List Str
  | a,[]=>[Builtin.Str.strSub (tx x) a N]
  | a,c::r=>Builtin.Str.strSub (tx x) a c::pieces x w N (c+w) r
theorem j0o(x:List Nat)(w:Nat):∀(cuts:List Nat) (a:Nat),((a::cuts.map (·+w)).zip (cuts++[(tx x).length])).map (fun(i,j)=>Builtin.Str.strSub (tx x) i j)=pieces x w (tx x).length a cuts
  | [],a=>rfl
  | c::r,a=>by
    rw[List.map_cons,List.cons_append,List.zip_cons_cons,List.map_cons,j0o x w r]
    rfl
theorem sub_mid(pre p rest:List Nat):Builtin.Str.strSub (tx (pre++(p++rest))) pre.length (pre.length+p.length)=tx p:=by
  show(⟨_⟩:Str)=⟨_⟩
  simp[tx]
theorem split_go{sep:List Nat}{o c:Nat}(S:Sep sep o c):∀(ls:List (List Nat)) (pre:List Nat) (cuts:List Nat) (f:Nat),ls≠[]→(∀p∈ls,c ∉ p)→
    PySem.StrLaws.ChainG (tx (pre++jn sep ls)) (tx sep) (tx (pre++jn sep ls)).length pre.length cuts f→(∀k,f≤k→¬PySem.StrLaws.At (tx (pre++jn sep ls)) (tx sep) (tx (pre++jn sep ls)).length k)→
    pieces (pre++jn sep ls) sep.length (tx (pre++jn sep ls)).length pre.length cuts=ls.map tx∧cuts.length+1=ls.length
  | [],_,_,_,h,_,_,_=>absurd rfl h
  | [p],pre,cuts,f,_,hc,hch,hno=>by
    have key:∀k,pre.length≤k→¬PySem.StrLaws.At (tx (pre++p)) (tx sep) (tx (pre++p)).length k:=fun k hk h=>by
      have hm:=at_mark S h
      rw[List.getElem?_append_right (by omega)]at hm
      exact hc p (by simp) (List.mem_of_getElem? hm)
    cases cuts with
    | nil=>
      refine⟨?_,rfl⟩
      have:=sub_mid pre p []
      rw[List.append_nil]at this
      show [Builtin.Str.strSub (tx (pre++p)) pre.length (tx (pre++p)).length]=_
      rw[a0u,List.length_append,this]
      rfl
    | cons d r=>exact absurd hch.2.1 (key d hch.1)
  | p::q::r,pre,cuts,f,_,hc,hch,hno=>by
    have ex:pre++jn sep (p::q::r)=(pre++p++sep)++jn sep (q::r):=by simp[jn]
    have hlen:(tx (pre++jn sep (p::q::r))).length=pre.length+p.length+sep.length+(jn sep (q::r)).length:=by rw[a0u,ex];simp;omega
    have hat:PySem.StrLaws.At (tx (pre++jn sep (p::q::r))) (tx sep) (tx (pre++jn sep (p::q::r))).length (pre.length+p.length):=by
      refine⟨by rw[hlen,a0u];omega,(sub_iff _ _ _).mpr ?_⟩
      rw[ex,List.append_assoc,show pre.length+p.length=(pre++p).length by simp,List.drop_left,List.take_left]
    have low:∀k,pre.length≤k→k < pre.length+p.length→¬PySem.StrLaws.At (tx (pre++jn sep (p::q::r))) (tx sep) (tx (pre++jn sep (p::q::r))).length k:=fun k h1 h2 h=>by
      have hm:=at_mark S h
      rw[show pre++jn sep (p::q::r)=pre++(p++(sep++jn sep (q::r))) by simp[jn],List.getElem?_append_right (by omega)]at hm
      by_cases h3:k+o - pre.length < p.length
      · rw[List.getElem?_append_left h3]at hm
        exact hc p (by simp) (List.mem_of_getElem? hm)
      · have ho:=(List.getElem?_eq_some_iff.mp S.at_).1
        rw[List.getElem?_append_right (by omega),List.getElem?_append_left (by omega)]at hm
        exact S.no _ (by omega) hm
    cases cuts with
    | nil=>
      have e:f=pre.length:=hch
      exact absurd hat (hno _ (by omega))
    | cons d r'=>
      obtain⟨h1,h2,h3,h4⟩:=hch
      have hd:d=pre.length+p.length:=by
        rcases Nat.lt_trichotomy d (pre.length+p.length)with z | z | z
        · exact absurd h2 (low d h1 z)
        · exact z
        · exact absurd hat (h3 _ (by omega) z)
      subst hd
      have ih:=split_go S (q::r) (pre++p++sep) r' f (by simp) (fun y hy=>hc y (List.mem_cons_of_mem _ hy))
      rw[← ex]at ih
      have el:(pre++p++sep).length=pre.length+p.length+(tx sep).length:=by rw[a0u];simp;omega
      rw[el]at ih
      obtain⟨i1,i2⟩:=ih h4 hno
      refine⟨?_,by rw[List.length_cons,i2];rfl⟩
      rw[pieces,List.map_cons]
      rw[a0u sep]at i1
      rw[i1]
      have:=sub_mid pre p (sep++jn sep (q::r))
      rw[show pre++(p++(sep++jn sep (q::r)))=pre++jn sep (p::q::r) by simp[jn]]at this
      rw[this]
theorem kind1{n:Nat}{l:List Nat}(g:Gd n l):Builtin.Str.strKind (tx l)=1:=by
  unfold Builtin.Str.strKind
  rw[if_pos]
  show l.toArray.all (· < 256)=true
  simp only[List.all_toArray,List.all_eq_true,decide_eq_true_eq]
  exact fun c hc=>Nat.lt_trans (g.2 c hc) (by decide)
theorem split_is{sep:List Nat}{o c n m:Nat}(S:Sep sep o c)(gs:Gd m sep){ls:List (List Nat)}(hne:ls≠[])(hc:∀p∈ls,c ∉ p)(gx:Gd n (jn sep ls)) :
    Txt.split (tx (jn sep ls)) (tx sep)=ls.map tx∧(Builtin.Str.partsBetween (tx (jn sep ls)) (Builtin.Str.occurrences (tx (jn sep ls)) (tx sep) 0 (tx (jn sep ls)).length ((tx (jn sep ls)).length+1)) (tx sep).length).length=ls.length:=by
  have hsl:1≤(tx sep).length:=by
    rw[a0u];have:=(List.getElem?_eq_some_iff.mp S.at_).1;omega
  obtain⟨f,h1,h2⟩:=PySem.StrLaws.occ_tight (tx (jn sep ls)) (tx sep) hsl
  have g:=split_go S ls [] _ f hne hc (by simpa using h1) (by simpa using h2)
  simp only[List.nil_append,List.length_nil]at g
  have pb:Builtin.Str.partsBetween (tx (jn sep ls)) (Builtin.Str.occurrences (tx (jn sep ls)) (tx sep) 0 (tx (jn sep ls)).length ((tx (jn sep ls)).length+1)) (tx sep).length=ls.map tx:=by
    unfold Builtin.Str.partsBetween
    rw[a0u sep]
    have:=j0o (jn sep ls) sep.length (Builtin.Str.occurrences (tx (jn sep ls)) (tx sep) 0 (tx (jn sep ls)).length ((tx (jn sep ls)).length+1)) 0
    rw[g.1]at this
    exact this
  refine⟨?_,by rw[pb,List.length_map]⟩
  unfold Txt.split
  rw[kind1 gx,kind1 gs]
  match ls,hne with
  | [p],_=>
    split
    · rfl
    · split
      · rfl
      · exact pb
  | p::q::r,_=>
    rw[decide_eq_false (by rw[a0u,a0u];simp[jn];omega),decide_eq_false (by decide)]
    rw[if_neg (by decide)]
    have hl:=g.2
    rw[if_neg]
    · exact pb
    · intro z
      rw[List.isEmpty_iff.mp z]at hl
      simp at hl
def dN(n:Nat):List Nat:=(Nat.toDigits 10 n).map Char.toNat
theorem k0z{n:Nat}(h:n < 10):dN n=[48+n]:=by
  have:∀m,m < 10→dN m=[48+m]:=by decide
  exact this n h
theorem dN_big{n:Nat}(h:10≤n):dN n=dN (n / 10)++[48+n % 10]:=by
  have hm:n % 10 < 10:=Nat.mod_lt n (by decide)
  have t:Nat.toDigits 10 (n / 10)++Nat.toDigits 10 (n % 10)=Nat.toDigits 10 (10 * (n / 10)+n % 10):=Nat.toDigits_append_toDigits (by decide) (by omega) hm
  rw[Nat.div_add_mod]at t
  have:=k0z hm
  unfold dN at this ⊢
  rw[← t,List.map_append,this]
theorem dN_dg(n:Nat):(dN n).all dg=true∧0 < (dN n).length∧(0 < n→(dN n).head?≠some 48):=by
  induction n using Nat.strongRecOn with
  | _ n ih=>
    by_cases h:n < 10
    · rw[k0z h]
      refine⟨?_,by simp,fun h0 e=>?_⟩
      · simp[dg];omega
      · simp at e;omega
    · obtain⟨h1,h2,h3⟩:=ih (n / 10) (by omega)
      rw[dN_big (by omega)]
      have hm:n % 10 < 10:=Nat.mod_lt n (by decide)
      refine⟨?_,by simp,fun _ e=>?_⟩
      · rw[List.all_append,h1];simp[dg];omega
      · have:=h3 (by omega)
        cases hd:dN (n / 10)with
        | nil=>rw[hd]at h2;simp at h2
        | cons a r=>rw[hd]at this e;simp at this e;exact this e
theorem dN_len{n k:Nat}(hk:0 < k)(h:n < 10 ^ k):(dN n).length≤k:=by
  induction k generalizing n with
  | zero=>omega
  | succ k ih=>
    by_cases h9:n < 10
    · rw[k0z h9];simp
    · rw[dN_big (by omega),List.length_append,List.length_singleton]
      have:0 < k:=by
        cases k with
        | zero=>simp at h;omega
        | succ k=>omega
      have:=ih this (show n / 10 < 10 ^ k by rw[Nat.pow_succ]at h;omega)
      omega
theorem ts_dN(n:Nat):(ts (n:Int)).cps.toList=dN n:=PySem.W.KIN.signs_num n
def wl(d:PyData):List Nat:=(wrt d).cps.toList
theorem wl_tx(d:PyData):tx (wl d)=wrt d:=tx_of _
def lA(a:Int):List Nat:=(ts a).cps.toList
theorem lA_tx(a:Int):tx (lA a)=ts a:=tx_of _
theorem lA_nat(n:Nat):lA (n:Int)=dN n:=ts_dN n
theorem lA_neg(m:Nat):lA (Int.negSucc m)=45::dN (m+1):=by
  unfold lA ts
  rw[PyProof.Rows.signs_ofString]
  show(("-":String)++Nat.repr (m+1)).toList.map Char.toNat=_
  rw[String.toList_append,List.map_append,Nat.toList_repr]
  rfl
def ch(c:Nat):Bool:=decide (c=45) || decide (c=47) || dg c || decide (97≤c∧c≤122)
theorem dN_in{n c:Nat}(h:c∈dN n):48≤c∧c≤57:=by
  have:=List.all_eq_true.mp (dN_dg n).1 c h
  unfold dg at this
  simpa using this
theorem lA_in{a:Int}{c:Nat}(h:c∈lA a):c=45∨(48≤c∧c≤57):=by
  cases a with
  | ofNat n=>rw[show Int.ofNat n=((n:Nat):Int)from rfl,lA_nat]at h;exact .inr (dN_in h)
  | negSucc m=>
    rw[lA_neg]at h
    rcases List.mem_cons.mp h with h | h
    · exact .inl h
    · exact .inr (dN_in h)
theorem lA_len{a:Int}(h:a.natAbs < 10 ^ 30):(lA a).length≤31∧0 < (lA a).length∧lA a≠[45]:=by
  cases a with
  | ofNat n=>
    rw[show Int.ofNat n=((n:Nat):Int)from rfl,lA_nat]
    have:=dN_len (k:=30) (by decide) (show n < 10 ^ 30 from h)
    refine⟨by omega,(dN_dg n).2.1,fun e=>?_⟩
    have:=dN_in (n:=n) (c:=45) (by rw[e];simp)
    omega
  | negSucc m=>
    rw[lA_neg]
    have:=dN_len (k:=30) (by decide) (show m+1 < 10 ^ 30 from h)
    refine⟨by rw[List.length_cons];omega,by simp,fun e=>?_⟩
    have h2:=(dN_dg (m+1)).2.1
    have:dN (m+1)=[]:=by simpa using e
    rw[this]at h2
    simp at h2
def WQ(way p:Int)(d:PyData):Prop:=(way=0∧∃a b:Int,d=.tuple [.int a,.int b]∧a.natAbs < 10 ^ 30∧b.natAbs < 10 ^ 30∧0 < b∧dv a b=1)∨(way=1∧∃a:Int,d=.int a∧0≤a∧a < p∧p≤1000000)∨(way=2∧(d=.none∨∃a:Int,d=.int a∧a.natAbs < 10 ^ 30))∨(way=3∧∃b,d=.bool b)
theorem b30{a:Int}(h:a.natAbs < 10 ^ 30):a.natAbs≤2 ^ 100:=Nat.le_trans (Nat.le_of_lt h) (by decide)
theorem b6{a p:Int}(h0:0≤a)(h:a < p)(h2:p≤1000000):a.natAbs < 10 ^ 30:=Nat.lt_of_lt_of_le (show a.natAbs < 1000000 by omega) (by decide)
theorem WQ.wb{way p:Int}{d:PyData}(h:WQ way p d):WB way d:=by
  rcases h with ⟨e,a,b,rfl,ha,hb,_⟩ | ⟨e,a,rfl,h0,h1,h2⟩ | ⟨e,rfl | ⟨a,rfl,h0⟩⟩ | ⟨e,b,rfl⟩
  · exact .inl ⟨e,a,b,rfl,b30 ha,b30 hb⟩
  · exact .inr (.inl ⟨e,a,rfl,b30 (b6 h0 h1 h2)⟩)
  · exact .inr (.inr (.inl ⟨e,.inl rfl⟩))
  · exact .inr (.inr (.inl ⟨e,.inr ⟨a,rfl,b30 h0⟩⟩))
  · exact .inr (.inr (.inr ⟨e,b,rfl⟩))
theorem wl_fr1(a:Int):wl (.tuple [.int a,.int 1])=lA a:=by
  unfold wl
  rw[wrt,if_pos rfl]
  rfl
theorem wl_fr{a b:Int}(h:b≠1):wl (.tuple [.int a,.int b])=lA a++47::lA b:=by
  unfold wl
  rw[wrt,if_neg h,← lA_tx,← lA_tx,sl_is,i0z,i0z]
  simp[tx]
theorem wl_ok{way p:Int}{d:PyData}(h:WQ way p d):Gd 63 (wl d)∧0 < (wl d).length∧wl d≠[45]∧∀c∈wl d,c≠32∧c≠44∧c≠124:=by
  have ga:∀{a:Int},a.natAbs < 10 ^ 30→Gd 63 (lA a)∧0 < (lA a).length∧lA a≠[45]∧∀c∈lA a,c≠32∧c≠44∧c≠124:=fun{a} ha=>by
    obtain⟨h1,h2,h3⟩:=lA_len ha
    exact⟨⟨by omega,fun c hc=>by have:=lA_in hc;omega⟩,h2,h3,fun c hc=>by have:=lA_in hc;omega⟩
  rcases h with ⟨e,a,b,rfl,ha,hb,_⟩ | ⟨e,a,rfl,h0,h1,h2⟩ | ⟨e,rfl | ⟨a,rfl,h0⟩⟩ | ⟨e,b,rfl⟩
  · by_cases h:b=1
    · subst h
      rw[wl_fr1]
      exact ga ha
    · rw[wl_fr h]
      have la:=lA_len ha
      have lb:=lA_len hb
      have key:∀c∈lA a++47::lA b,c=45∨c=47∨(48≤c∧c≤57):=fun c hc=>by
        rcases List.mem_append.mp hc with hc | hc
        · have:=lA_in hc;omega
        · rcases List.mem_cons.mp hc with hc | hc
          · omega
          · have:=lA_in hc;omega
      refine⟨⟨by rw[List.length_append,List.length_cons];omega,fun c hc=>by have:=key c hc;omega⟩,by rw[List.length_append,List.length_cons];omega,fun e=>?_,fun c hc=>by have:=key c hc;omega⟩
      have:=congrArg List.length e
      rw[List.length_append,List.length_cons,List.length_singleton]at this
      omega
  · exact ga (b6 h0 h1 h2)
  · show Gd 63 (Str.ofString "none").cps.toList∧0 < (Str.ofString "none").cps.toList.length∧(Str.ofString "none").cps.toList≠[45]∧∀c∈(Str.ofString "none").cps.toList,c≠32∧c≠44∧c≠124
    decide +kernel
  · exact ga h0
  · cases b
    · show Gd 63 (Str.ofString "no").cps.toList∧0 < (Str.ofString "no").cps.toList.length∧(Str.ofString "no").cps.toList≠[45]∧∀c∈(Str.ofString "no").cps.toList,c≠32∧c≠44∧c≠124
      decide +kernel
    · show Gd 63 (Str.ofString "yes").cps.toList∧0 < (Str.ofString "yes").cps.toList.length∧(Str.ofString "yes").cps.toList≠[45]∧∀c∈(Str.ofString "yes").cps.toList,c≠32∧c≠44∧c≠124
      decide +kernel
theorem jn_in{sep:List Nat}:∀{ls:List (List Nat)} {c:Nat},c∈jn sep ls→c∈sep∨∃p∈ls,c∈p
  | [],_,h=>by cases h
  | [p],_,h=>.inr ⟨p,by simp,h⟩
  | p::q::r,c,h=>by
    rw[jn]at h
    rcases List.mem_append.mp h with h | h
    · rcases List.mem_append.mp h with h | h
      · exact .inr ⟨p,by simp,h⟩
      · exact .inl h
    · rcases jn_in h with h | ⟨p',h1,h2⟩
      · exact .inl h
      · exact .inr ⟨p',List.mem_cons_of_mem _ h1,h2⟩
theorem jn_len{sep:List Nat}{k:Nat}:∀{ls:List (List Nat)},(∀p∈ls,p.length≤k)→(jn sep ls).length≤ls.length * (k+sep.length)
  | [],_=>by simp[jn]
  | [p],h=>by
    have:=h p (by simp)
    rw[jn,List.length_singleton,Nat.one_mul]
    omega
  | p::q::r,h=>by
    have h1:=h p (by simp)
    have h2:=jn_len (sep:=sep) (ls:=q::r) (fun x hx=>h x (List.mem_cons_of_mem _ hx))
    rw[jn,List.length_append,List.length_append,List.length_cons,Nat.succ_mul]
    omega
theorem jn_gd{sep:List Nat}{k:Nat}{ls:List (List Nat)}(hs:∀c∈sep,c < 128)(h:∀p∈ls,Gd k p):Gd (ls.length * (k+sep.length)) (jn sep ls):=
  ⟨jn_len fun p hp=>(h p hp).1,fun c hc=>(jn_in hc).elim (hs c) fun⟨p,h1,h2⟩=>(h p h1).2 c h2⟩
structure RG(ds:List PyData)(way p:Int):Prop where
  n20:ds.length≤20
  wq:∀d∈ds,WQ way p d
structure TG'(m:List (List PyData))(n:Nat)(way p:Int):Prop where
  ln:m.length=n
  n20:n≤20
  rg:∀r∈m,r.length=n∧RG r way p
inductive Sy where
  | nil
  | word (x:List Nat)
  | times (d:PyData) (a:Sy)
  | one (f:Bool) (a:Sy)
  | two (f:Nat) (a b:Sy)
def nN:List Nat:=[110,105,108]
def nW:List Nat:=[119,111,114,100]
def nT:List Nat:=[116,105,109,101,115]
def n1(f:Bool):List Nat:=if f=true then [115,116,97,114]else [98,97,99,107]
def n2:Nat→List Nat
  | 0=>[115,117,109]
  | 1=>[116,104,101,110]
  | _=>[98,111,116,104]
theorem i0s:Str.ofString "nil"=tx nN:=by decide +kernel
theorem nW_is:Str.ofString "word"=tx nW:=by decide +kernel
theorem nT_is:Str.ofString "times"=tx nT:=by decide +kernel
theorem st_is:Str.ofString "star"=tx (n1 true):=by decide +kernel
theorem bk_is:Str.ofString "back"=tx (n1 false):=by decide +kernel
theorem sm_is:Str.ofString "sum"=tx (n2 0):=by decide +kernel
theorem th_is:Str.ofString "then"=tx (n2 1):=by decide +kernel
theorem bo_is:Str.ofString "both"=tx (n2 2):=by decide +kernel
theorem e0r(f:Nat):n2 f=n2 0∨n2 f=n2 1∨n2 f=n2 2:=by
  match f with
  | 0=>exact .inl rfl
  | 1=>exact .inr (.inl rfl)
  | (n+2)=>exact .inr (.inr rfl)
def shW(x:List Nat):List Nat:=if x=[]then [45]else x
def hdS:Sy→List Nat
  | .nil=>nN
  | .word _=>nW
  | .times _ _=>nT
  | .one f _=>n1 f
  | .two f _ _=>n2 f
def exS:Sy→List (List Nat)
  | .word x=>[shW x]
  | .times d _=>[wl d]
  | _=>[]
def ptS:Sy→List Sy
  | .times _ a=>[a]
  | .one _ a=>[a]
  | .two _ a b=>[a,b]
  | _=>[]
def pcS:Sy→List (List Nat)
  | .nil=>[nN]
  | .word x=>[nW,shW x]
  | .times d a=>nT::wl d::pcS a
  | .one f a=>n1 f::pcS a
  | .two f a b=>n2 f::(pcS a++pcS b)
def htS:Sy→Nat
  | .nil=>1
  | .word _=>1
  | .times _ a=>htS a+1
  | .one _ a=>htS a+1
  | .two _ a b=>max (htS a) (htS b)+1
def pnS:Sy→Nat
  | .nil=>1
  | .word _=>1
  | .times _ a=>1+pnS a
  | .one _ a=>1+pnS a
  | .two _ a b=>1+(pnS a+pnS b)
def OkS(l:List Nat)(way p:Int):Sy→Prop
  | .nil=>True
  | .word x=>x.length≤3∧∀c∈x,c∈l
  | .times d a=>WQ way p d∧OkS l way p a
  | .one _ a=>OkS l way p a
  | .two _ a b=>OkS l way p a∧OkS l way p b
structure Lt(l:List Nat):Prop where
  ne:l≠[]
  l3:l.length≤3
  az:∀c∈l,97≤c∧c≤122
theorem pcS_eq(s:Sy):pcS s=[hdS s]++exS s++(ptS s).flatMap pcS:=by
  cases s <;>simp[pcS,hdS,exS,ptS]
theorem ht_pt{s a:Sy}(h:a∈ptS s):htS a+1≤htS s:=by
  cases s <;>simp[ptS]at h
  · subst h;exact Nat.le_refl _
  · subst h;exact Nat.le_refl _
  · rcases h with rfl | rfl
    · show _≤max _ _+1;omega
    · show _≤max _ _+1;omega
theorem pn_pt{s:Sy}:pnS s=1+((ptS s).map pnS).sum:=by
  cases s <;>simp[pnS,ptS]
theorem ok_pt{l:List Nat}{way p:Int}{s a:Sy}(o:OkS l way p s)(h:a∈ptS s):OkS l way p a:=by
  cases s <;>simp[ptS]at h
  · subst h;exact o.2
  · subst h;exact o
  · rcases h with rfl | rfl
    · exact o.1
    · exact o.2
theorem pc_ok{l:List Nat}{way p:Int}(L:Lt l):∀{s:Sy},OkS l way p s→∀x∈pcS s,Gd 63 x∧0 < x.length∧32 ∉ x
  | .nil,_,x,hx=>by
    rw[List.mem_singleton.mp hx];decide
  | .word y,o,x,hx=>by
    rcases List.mem_cons.mp hx with rfl | hx
    · decide
    · rw[List.mem_singleton.mp hx]
      unfold shW
      split
      · decide
      · rename_i hne
        refine⟨⟨by have:=o.1;omega,fun c hc=>by have:=L.az c (o.2 c hc);omega⟩,List.length_pos_iff.mpr hne,fun hc=>by have:=L.az _ (o.2 _ hc);omega⟩
  | .times d a,o,x,hx=>by
    rcases List.mem_cons.mp hx with rfl | hx
    · decide
    · rcases List.mem_cons.mp hx with rfl | hx
      · have:=wl_ok o.1
        exact⟨this.1,this.2.1,fun hc=>(this.2.2.2 _ hc).1 rfl⟩
      · exact pc_ok L o.2 x hx
  | .one f a,o,x,hx=>by
    rcases List.mem_cons.mp hx with rfl | hx
    · cases f <;>decide
    · exact pc_ok (s:=a) L o x hx
  | .two f a b,o,x,hx=>by
    rcases List.mem_cons.mp hx with rfl | hx
    · rcases e0r f with e | e | e <;>rw[e] <;>decide
    · rcases List.mem_append.mp hx with hx | hx
      · exact pc_ok L o.1 x hx
      · exact pc_ok L o.2 x hx
theorem g0w:∀s:Sy,(pcS s).length≤2 * pnS s∧0 < (pcS s).length
  | .nil=>by simp[pcS,pnS]
  | .word _=>by simp[pcS,pnS]
  | .times _ a=>by have:=g0w a;simp[pcS,pnS];omega
  | .one _ a=>by have:=g0w a;simp[pcS,pnS];omega
  | .two _ a b=>by have:=g0w a;have:=g0w b;simp[pcS,pnS];omega
theorem k0v{sep p:List Nat}{ls:List (List Nat)}(h:ls≠[]):jn sep (p::ls)=p++sep++jn sep ls:=by
  cases ls with
  | nil=>exact absurd rfl h
  | cons q ls=>simp[jn]
def wkv:List (Str × Int):=[(Str.ofString "nil",0),(Str.ofString "word",0),(Str.ofString "times",1),(Str.ofString "sum",2),(Str.ofString "then",2),(Str.ofString "both",2),(Str.ofString "back",1),(Str.ofString "star",1)]
theorem j0q(s:Sy):valV (kvI wkv) (.inr (tx (hdS s)))=some (.int ((ptS s).length:Nat)):=by
  cases s with
  | nil=>show valV (kvI wkv) (.inr (tx nN))=_;decide +kernel
  | word x=>show valV (kvI wkv) (.inr (tx nW))=some (.int (0:Nat));decide +kernel
  | times d a=>show valV (kvI wkv) (.inr (tx nT))=some (.int (1:Nat));decide +kernel
  | one f a=>cases f <;>(show valV (kvI wkv) (.inr (tx (n1 _)))=some (.int (1:Nat));decide +kernel)
  | two f a b=>
    show valV (kvI wkv) (.inr (tx (n2 f)))=some (.int (2:Nat))
    rcases e0r f with e | e | e <;>rw[e] <;>decide +kernel
structure WK(w:World)(K:PySem.W.Frag)(mg:Str→Option Value)(a:Addr):Prop where
  m:mg (Str.ofString "WITHIN")=some (.ref a)
  d:DictK Pr w K a wkv
seal L2.PSs L2.PS L2.PE L2.PT L2.PW L2.PA L2.PG L2.PGs L2.PI
section
variable{w:World}{K:PySem.W.Frag}{mg:Str→Option Value}{base:Heap}{t:Adr}{aW:Addr}
def rdw(l x:List Nat):Option (List Nat):=if x=[45]then some []else if x=[]∨¬∀c∈x,c∈l then none else some x
def ar(x:List Nat):Option Nat:=if x=nN then some 0 else if x=nW then some 0 else if x=nT then some 1 else if x=n2 0 then some 2 else if x=n2 1 then some 2 else if x=n2 2 then some 2 else if x=n1 false then some 1 else if x=n1 true then some 1 else none
inductive Ex where
  | no
  | w (x:List Nat)
  | d (d:PyData)
def ext(l:List Nat)(rd:List Nat→Option PyData)(x:List Nat)(r:List (List Nat)):Option (Ex × List (List Nat)):=
  if x=nW then(match r with
    | []=>none
    | y::r=>(rdw l y).map fun z=>(.w z,r))
  else if x=nT then(match r with
    | []=>none
    | y::r=>(rd y).map fun d=>(.d d,r))
  else some (.no,r)
def bld(x:List Nat):Ex→List Sy→Sy
  | .w z,_=>.word z
  | .d d,[a]=>.times d a
  | .no,[a]=>.one (decide (x=n1 true)) a
  | .no,[a,b]=>.two (if x=n2 0 then 0 else if x=n2 1 then 1 else 2) a b
  | _,_=>.nil
def many(f:List (List Nat)→Option (Sy × List (List Nat))):Nat→List (List Nat)→Option (List Sy × List (List Nat))
  | 0,r=>some ([],r)
  | k+1,r=>(f r).bind fun q=>(many f k q.2).map fun m=>(q.1::m.1,m.2)
def prs(l:List Nat)(rd:List Nat→Option PyData):Nat→List (List Nat)→Option (Sy × List (List Nat))
  | 0,_=>none
  | _+1,[]=>none
  | n+1,x::r=>(ar x).bind fun k=>(ext l rd x r).bind fun e=>(many (prs l rd n) k e.2).map fun m=>(bld x e.1 m.1,m.2)
theorem h0h{f:List (List Nat)→Option (Sy × List (List Nat))}:∀{k:Nat} {r:List (List Nat)} {m:List Sy × List (List Nat)},many f k r=some m→m.1.length=k
  | 0,r,m,h=>by cases h;rfl
  | k+1,r,m,h=>by
    simp only[many]at h
    cases hf:f r with
    | none=>rw[hf]at h;cases h
    | some q=>
      rw[hf]at h
      simp only[Option.bind_some]at h
      cases hm:many f k q.2 with
      | none=>rw[hm]at h;cases h
      | some m'=>
        rw[hm]at h
        cases h
        have:=h0h hm
        simp[this]
theorem d0d{x:List Nat}{k:Nat}(h:ar x=some k):(x=nN∧k=0)∨(x=nW∧k=0)∨(x=nT∧k=1)∨(x=n2 0∧k=2)∨(x=n2 1∧k=2)∨(x=n2 2∧k=2)∨(x=n1 false∧k=1)∨(x=n1 true∧k=1):=by
  unfold ar at h
  by_cases h1:x=nN
  · rw[if_pos h1]at h;cases h;exact .inl ⟨h1,rfl⟩
  rw[if_neg h1]at h
  by_cases h2:x=nW
  · rw[if_pos h2]at h;cases h;exact .inr (.inl ⟨h2,rfl⟩)
  rw[if_neg h2]at h
  by_cases h3:x=nT
  · rw[if_pos h3]at h;cases h;exact .inr (.inr (.inl ⟨h3,rfl⟩))
  rw[if_neg h3]at h
  by_cases h4:x=n2 0
  · rw[if_pos h4]at h;cases h;exact .inr (.inr (.inr (.inl ⟨h4,rfl⟩)))
  rw[if_neg h4]at h
  by_cases h5:x=n2 1
  · rw[if_pos h5]at h;cases h;exact .inr (.inr (.inr (.inr (.inl ⟨h5,rfl⟩))))
  rw[if_neg h5]at h
  by_cases h6:x=n2 2
  · rw[if_pos h6]at h;cases h;exact .inr (.inr (.inr (.inr (.inr (.inl ⟨h6,rfl⟩)))))
  rw[if_neg h6]at h
  by_cases h7:x=n1 false
  · rw[if_pos h7]at h;cases h;exact .inr (.inr (.inr (.inr (.inr (.inr (.inl ⟨h7,rfl⟩))))))
  rw[if_neg h7]at h
  by_cases h8:x=n1 true
  · rw[if_pos h8]at h;cases h;exact .inr (.inr (.inr (.inr (.inr (.inr (.inr ⟨h8,rfl⟩))))))
  rw[if_neg h8]at h
  cases h
theorem wk_ar(x:List Nat):valV (kvI wkv) (.inr (tx x))=(ar x).map fun k=>V.int ((k:Nat):Int):=by
  cases h:ar x with
  | some k=>
    rcases d0d h with ⟨rfl,rfl⟩ | ⟨rfl,rfl⟩ | ⟨rfl,rfl⟩ | ⟨rfl,rfl⟩ | ⟨rfl,rfl⟩ | ⟨rfl,rfl⟩ | ⟨rfl,rfl⟩ | ⟨rfl,rfl⟩
    · exact j0q .nil
    · exact j0q (.word [])
    · exact j0q (.times .none .nil)
    · exact j0q (.two 0 .nil .nil)
    · exact j0q (.two 1 .nil .nil)
    · exact j0q (.two 2 .nil .nil)
    · exact j0q (.one false .nil)
    · exact j0q (.one true .nil)
  | none=>
    have ne:∀y,(∃k,ar y=some k)→tx y≠tx x:=fun y ⟨k,hy⟩ e=>by
      rw[b0x e,h]at hy
      cases hy
    have f:∀(y:List Nat) {z:Str},z=tx y→(∃k,ar y=some k)→¬(Sum.inr z:L2.Key)=Sum.inr (tx x):=fun y z ez hy e=>ne y hy (by rw[← ez];exact Sum.inr.inj e)
    have a1:=f nN i0s ⟨0,by decide⟩
    have a2:=f nW nW_is ⟨0,by decide⟩
    have a3:=f nT nT_is ⟨1,by decide⟩
    have a4:=f _ sm_is ⟨2,by decide⟩
    have a5:=f _ th_is ⟨2,by decide⟩
    have a6:=f _ bo_is ⟨2,by decide⟩
    have a7:=f _ bk_is ⟨1,by decide⟩
    have a8:=f _ st_is ⟨1,by decide⟩
    simp only[valV,kvI,wkv,List.map_cons,List.map_nil,List.find?_cons,List.find?_nil,decide_eq_false a1,decide_eq_false a2,decide_eq_false a3,decide_eq_false a4,decide_eq_false a5,decide_eq_false a6,decide_eq_false a7,decide_eq_false a8,Option.map_none]
theorem j0n{l:List Nat}{rd:List Nat→Option PyData}{x:List Nat}{k:Nat}{r:List (List Nat)}{e:Ex × List (List Nat)}{m:List Sy}(h1:ar x=some k)(h2:ext l rd x r=some e)(h3:m.length=k):hdS (bld x e.1 m)=x∧ptS (bld x e.1 m)=m:=by
  have ew:∀z,e.1=.w z→x=nW:=fun z he=>by
    unfold ext at h2
    by_cases a:x=nW
    · exact a
    · rw[if_neg a]at h2
      by_cases b:x=nT
      · rw[if_pos b]at h2
        cases r with
        | nil=>cases h2
        | cons y r=>
          cases hr:rd y with
          | none=>simp[hr]at h2
          | some d=>simp[hr]at h2;rw[← h2]at he;cases he
      · rw[if_neg b]at h2;cases h2;cases he
  have ed:∀d,e.1=.d d→x=nT:=fun d he=>by
    unfold ext at h2
    by_cases a:x=nW
    · rw[if_pos a]at h2
      cases r with
      | nil=>cases h2
      | cons y r=>
        cases hr:rdw l y with
        | none=>simp[hr]at h2
        | some z=>simp[hr]at h2;rw[← h2]at he;cases he
    · rw[if_neg a]at h2
      by_cases b:x=nT
      · exact b
      · rw[if_neg b]at h2;cases h2;cases he
  have en:e.1=.no→x≠nW∧x≠nT:=fun he=>by
    unfold ext at h2
    by_cases a:x=nW
    · rw[if_pos a]at h2
      cases r with
      | nil=>cases h2
      | cons y r=>
        cases hr:rdw l y with
        | none=>simp[hr]at h2
        | some z=>simp[hr]at h2;rw[← h2]at he;cases he
    · rw[if_neg a]at h2
      by_cases b:x=nT
      · rw[if_pos b]at h2
        cases r with
        | nil=>cases h2
        | cons y r=>
          cases hr:rd y with
          | none=>simp[hr]at h2
          | some d=>simp[hr]at h2;rw[← h2]at he;cases he
      · exact⟨a,b⟩
  obtain⟨e,r'⟩:=e
  dsimp only at ew ed en ⊢
  cases e with
  | w z=>
    have hx:=ew z rfl
    rcases d0d h1 with ⟨a,b⟩ | ⟨a,b⟩ | ⟨a,b⟩ | ⟨a,b⟩ | ⟨a,b⟩ | ⟨a,b⟩ | ⟨a,b⟩ | ⟨a,b⟩ <;>try (exact absurd (a.symm.trans hx) (by decide))
    subst b
    cases List.length_eq_zero_iff.mp h3
    exact⟨hx.symm,rfl⟩
  | d d=>
    have hx:=ed d rfl
    rcases d0d h1 with ⟨a,b⟩ | ⟨a,b⟩ | ⟨a,b⟩ | ⟨a,b⟩ | ⟨a,b⟩ | ⟨a,b⟩ | ⟨a,b⟩ | ⟨a,b⟩ <;>try (exact absurd (a.symm.trans hx) (by decide))
    subst b
    match m,h3 with
    | [s],_=>exact⟨hx.symm,rfl⟩
  | no=>
    obtain⟨q1,q2⟩:=en rfl
    rcases d0d h1 with ⟨a,b⟩ | ⟨a,b⟩ | ⟨a,b⟩ | ⟨a,b⟩ | ⟨a,b⟩ | ⟨a,b⟩ | ⟨a,b⟩ | ⟨a,b⟩ <;>subst b
    · cases List.length_eq_zero_iff.mp h3
      exact⟨a.symm,rfl⟩
    · exact absurd a q1
    · exact absurd a q2
    · match m,h3 with
      | [s,u],_=>subst a;exact⟨rfl,rfl⟩
    · match m,h3 with
      | [s,u],_=>subst a;exact⟨rfl,rfl⟩
    · match m,h3 with
      | [s,u],_=>subst a;exact⟨rfl,rfl⟩
    · match m,h3 with
      | [s],_=>subst a;exact⟨rfl,rfl⟩
    · match m,h3 with
      | [s],_=>subst a;exact⟨rfl,rfl⟩
theorem h0t(T:Txt K mg t):FnOk Pr w K mg base CX0 1 t.u0a t.r0g ["thing"] sp_whole:=by
  refine T.r0a.ok sc_is_whole (fun vs H Q E h=>?_) (fun cdv A outer s H vs Q E hr h=>?_)
  · obtain⟨i,rfl,_⟩:=h
    rfl
  · obtain⟨i,rfl,k⟩:=h
    refine⟨_,(a0g (a0l (pe_and (a0x g0a (by rfl) T.z_isinstance boot_isinstance (a0a (pv 0) (a0a (g0l (v:=.ty "int") rfl T.z_int boot_int rfl) a0e))) (pe_one (pe_not (a0x g0a (by rfl) T.z_isinstance boot_isinstance (a0a (pv 0) (a0a (g0l (v:=.ty "bool") rfl T.z_bool boot_bool rfl) a0e)))))))),?_⟩
    (repeat (first | apply Exists.intro | refine And.intro rfl ?_ | refine And.intro (by with_reducible assumption) ?_ | refine And.intro (SqT.of (by assumption)) ?_ | refine And.intro (SqL.of (by assumption)) ?_ | refine And.intro (TyOf.int _) ?_ | refine And.intro (TyOf.tup (by assumption)) ?_ | refine And.intro T.k_ii ?_ | refine And.intro T.k_ib ?_ | refine And.intro T.k_tt ?_ | refine And.intro T.k_bb ?_ | refine And.intro T.k_ss ?_ | refine And.intro T.nP ?_ | refine And.intro T.k_ts ?_ | refine And.intro T.k_ns ?_ | refine And.intro T.k_is ?_ | refine And.intro T.k_ls ?_ | refine And.intro T.eT ?_ | refine And.intro T.vT1 ?_ | refine And.intro T.kTT ?_ | refine And.intro T.kT1 ?_ | refine And.intro T.kT2 ?_))
    (try refine iteT ?_)
    (repeat (first | apply Exists.intro | refine And.intro rfl ?_ | refine And.intro (by with_reducible assumption) ?_ | refine And.intro (SqT.of (by assumption)) ?_ | refine And.intro (SqL.of (by assumption)) ?_ | refine And.intro (TyOf.int _) ?_ | refine And.intro (TyOf.tup (by assumption)) ?_ | refine And.intro T.k_ii ?_ | refine And.intro T.k_ib ?_ | refine And.intro T.k_tt ?_ | refine And.intro T.k_bb ?_ | refine And.intro T.k_ss ?_ | refine And.intro T.nP ?_ | refine And.intro T.k_ts ?_ | refine And.intro T.k_ns ?_ | refine And.intro T.k_is ?_ | refine And.intro T.k_ls ?_ | refine And.intro T.eT ?_ | refine And.intro T.vT1 ?_ | refine And.intro T.kTT ?_ | refine And.intro T.kT1 ?_ | refine And.intro T.kT2 ?_))
    exact k
theorem ok_divisor(T:Txt K mg t):FnOk Pr w K mg base CX0 1 t.u0l t.s0k ["one","other"] sp_divisor:=by
  refine T.s0x.ok sc_divisor (fun vs H Q E h=>?_) (fun cdv A outer s H vs Q E hr h=>?_)
  · obtain⟨a,b,rfl,_⟩:=h
    rfl
  · obtain⟨a,b,rfl,k⟩:=h
    refine⟨_,(a0c (a0q (i:=2) sc_divisor.nd rfl (Or.inl rfl) (a0x l0e (by rfl) T.z_abs boot_abs (a0a (pv 0) a0e))) (a0c (a0q (i:=3) sc_divisor.nd rfl (Or.inl rfl) (a0x l0e (by rfl) T.z_abs boot_abs (a0a (pv 1) a0e))) (a0c (h0f PassesOwn.never (a0j h0p (pv 3) a0f (a0o _)) (a0c (a0q (i:=4) sc_divisor.nd rfl (Or.inl rfl) (a0t d0f (pv 2) (pv 3))) (a0c (a0q (i:=2) sc_divisor.nd rfl (Or.inl rfl) (pv 3)) (a0g (a0q (i:=3) sc_divisor.nd rfl (Or.inl rfl) (pv 4)))))) (a0g (a0l (pv 2)))))),?_⟩
    refine⟨_,rfl,_,rfl,_,rfl,_,rfl,?_⟩
    refine⟨fun m σ H'=>∃g r l,σ=[some (.int a),some (.int b),some (.int g),some (.int r),l]∧m=r.toNat∧(0≤g∧0≤r∧dv g r=dv a b)∧H'=H,⟨_,_,_,_,rfl,rfl,start1 a b,rfl⟩,?_⟩
    rintro m σ H' ⟨g,r,l,rfl,rfl,⟨g0,r0,e⟩,rfl⟩
    (repeat (first | apply Exists.intro | refine And.intro rfl ?_ | refine And.intro (by with_reducible assumption) ?_ | refine And.intro (SqT.of (by assumption)) ?_ | refine And.intro (SqL.of (by assumption)) ?_ | refine And.intro (TyOf.int _) ?_ | refine And.intro (TyOf.tup (by assumption)) ?_ | refine And.intro T.k_ii ?_ | refine And.intro T.k_ib ?_ | refine And.intro T.k_tt ?_ | refine And.intro T.k_bb ?_ | refine And.intro T.k_ss ?_ | refine And.intro T.nP ?_ | refine And.intro T.k_ts ?_ | refine And.intro T.k_ns ?_ | refine And.intro T.k_is ?_ | refine And.intro T.k_ls ?_ | refine And.intro T.eT ?_ | refine And.intro T.vT1 ?_ | refine And.intro T.kTT ?_ | refine And.intro T.kT1 ?_ | refine And.intro T.kT2 ?_))
    refine iteP (fun hr0=>?_) (fun hr0=>?_)
    · refine⟨fun σ' H''=>∃g' r' l',σ'=[some (.int a),some (.int b),some (.int g'),some (.int r'),l']∧r'.toNat < r.toNat∧(0≤g'∧0≤r'∧dv g' r'=dv a b)∧H''=H',fun σ' H'' ⟨g',r',l',e1,e2,e3,e4⟩=>⟨_,e2,g',r',l',e1,rfl,e3,e4⟩,?_⟩
      refine⟨_,rfl,_,rfl,_,_,rfl,rfl,(show r≠0 by omega),_,rfl,_,rfl,?_⟩
      exact⟨_,_,_,rfl,d_less hr0,d_turn e hr0,rfl⟩
    · refine⟨_,rfl,?_⟩
      (try dsimp only)
      rw[d_out e g0 r0 hr0]
      exact k
theorem ok_is_prime(T:Txt K mg t):FnOk Pr w K mg base CX0 1 t.t0m t.q0u ["number"] sp_prime:=by
  refine T.r0p.ok sc_is_prime (fun vs H Q E h=>?_) (fun cdv A outer s H vs Q E hr h=>?_)
  · obtain⟨n,rfl,_⟩:=h
    rfl
  · obtain⟨n,rfl,⟨n2,n6,hp⟩,k⟩:=h
    have PP:=isP_true hp
    refine⟨_,(a0c (a0w (a0j k0f (pv 0) a0f (a0o _)) (a0g (a0l e0h)) a0m) (a0c (a0q (i:=1) sc_is_prime.nd rfl (Or.inl rfl) a0f) (a0c (h0f PassesOwn.never (a0j op_le (a0t op_mul (pv 1) (pv 1)) (pv 0) (a0o _)) (a0c (a0w (a0j b0d (a0t d0f (pv 0) (pv 1)) a0f (a0o _)) (a0g (a0l e0h)) a0m) (a0g (a0q (i:=1) sc_is_prime.nd rfl (Or.inl rfl) (a0t b0t (pv 1) a0f))))) (a0g (a0l e0h))))),?_⟩
    refine⟨_,rfl,_,_,rfl,rfl,_,rfl,?_⟩
    refine iteP (fun h0=>absurd h0 (by omega)) (fun _=>?_)
    refine⟨fun m σ H'=>∃f:Int,σ=[some (.int n),some (.int f)]∧m=(n+2 - f).toNat∧(2≤f∧f≤n+1)∧H'=H,⟨_,_,rfl,rfl,⟨by omega,by omega⟩,rfl⟩,?_⟩
    rintro m σ H' ⟨f,rfl,rfl,⟨f2,fn⟩,rfl⟩
    have cm:CMul f f:=.inl ⟨by omega,by omega⟩
    refine⟨_,rfl,_,rfl,_,_,rfl,rfl,cm,_,rfl,_,_,rfl,rfl,_,rfl,?_⟩
    refine iteP (fun h0=>?_) (fun h0=>?_)
    · refine⟨fun σ' H''=>∃f':Int,σ'=[some (.int n),some (.int f')]∧(n+2 - f').toNat < (n+2 - f).toNat∧(2≤f'∧f'≤n+1)∧H''=H',fun σ' H'' ⟨f',e1,e2,e3,e4⟩=>⟨_,e2,f',e1,rfl,e3,e4⟩,?_⟩
      refine⟨_,rfl,_,rfl,_,_,rfl,rfl,(show f≠0 by omega),rfl,_,rfl,?_⟩
      have hs:=sq_le f2 h0
      refine iteI (fun h1=>absurd h1 (PP.2 f f2 h0)) (fun _=>?_)
      refine⟨_,rfl,_,_,rfl,rfl,?_⟩
      exact⟨_,rfl,by omega,⟨by omega,by omega⟩,rfl⟩
    · exact k
theorem e0t(T:Txt K mg t):FnOk Pr w K mg base CX0 2 t.l0w t.l0m ["self","prime"] (sp_init t.t0u):=by
  refine T.l0l.ok e0s (fun vs H Q E h=>?_) (fun cdv A outer s H vs Q E hr h=>?_)
  · obtain⟨x,dx,n,rfl,_⟩:=h
    rfl
  · obtain⟨x,dx,n,rfl,hn,hx,k⟩:=h
    refine⟨_,(a0c (a0w (PW.pt (e0f (f0q (g0v (a0n (h0t T) hr.m rfl T.r0s T.r0a.kp T.q0x .nil a0z (a0a (pv 1) a0e)))) (e0f (a0j h0p (pv 1) (b0q (v:=.int 1000000) rfl T.c_GREATEST_PRIME.choose_spec ⟨_,rfl⟩) (a0o _)) (d0a (f0q (g0v (a0n (ok_is_prime T) hr.m rfl T.s0a T.r0p.kp T.r0v .nil a0z (a0a (pv 1) a0e)))))))) (a0g ps_never) a0m) (a0g (ps_fld (pv 0) (pv 1) rfl))),?_⟩
    refine⟨_,rfl,_,rfl,_,rfl,?_⟩
    (try refine iteF ?_)
    refine⟨_,rfl,_,_,rfl,rfl,_,rfl,?_⟩
    refine iteP (fun h0=>absurd h0 (by have:=hn.2.1;omega)) (fun _=>?_)
    refine⟨_,rfl,_,rfl,hn,_,rfl,?_⟩
    (try refine iteF ?_)
    refine⟨_,rfl,_,rfl,x,_,dx,_,rfl,hx,T.r0i,T.nP,(by show 0 < 1000;decide),?_⟩
    exact k
theorem hd_at{f:List Nat}{c:Nat}(h:f.head? = some c):atI (tx f).cps.toList 0=some c:=by
  cases f with
  | nil=>cases h
  | cons a r => have : a = c := by simpa using h
                subst this
                exact c0e (j:=0) (by simp[tx])
def NoStr(K:PySem.W.Frag)(v:V)(H:Hp):Prop:=∃ty,TyOf K H v ty∧PySem.W.kitOne K ty (.type "str")=some false
def sp_written(K:PySem.W.Frag):Sp:=fun vs H Q _=>∃v,vs=[v]∧((∃l,v=vT l∧Gd 400 l∧∀H',Same H H'→Q (.bl (wr l)) H')∨(NoStr K v H∧Q (.bl false) H))
theorem k0j(T:Txt K mg t):FnOk Pr w K mg base CX0 1 t.r0b t.o0q ["text"] (sp_written K):=by
  refine T.o0u.ok sc_is_written (fun vs H Q E h=>?_) (fun cdv A outer s H vs Q E hr h=>?_)
  · obtain⟨v,rfl,_⟩:=h
    rfl
  · obtain⟨v,rfl,h⟩:=h
    have z40:1000 < sizeLine:=by decide
    refine⟨_,(a0c (a0w (f0q (g0v (a0x g0a (by rfl) T.z_isinstance boot_isinstance (a0a (pv 0) (a0a (g0l (v:=.ty "str") rfl T.z_str boot_str rfl) a0e))))) (a0g (a0l e0h)) a0m) (a0c (a0q (i:=1) sc_is_written.nd rfl (Or.inl rfl) (pe_ifExp (g0v (g0k PySem.F.plainAttrs_str PySem.F.slot_str_startswith PySem.F.type_str_startswith mt_starts (pv 0) (a0a a0h a0e))) (b0c g0t (pv 0) (b0g a0f) b0j) (pv 0))) (a0c (a0w (PW.pt (e0f (a0j b0d (a0x b0u (by rfl) T.z_len PySem.boot_len (a0a (pv 1) a0e)) a0f (a0o _)) (d0a (a0j h0p (a0x b0u (by rfl) T.z_len PySem.boot_len (a0a (pv 1) a0e)) (b0q (v:=.int 30) rfl T.c_MOST_FIGURES.choose_spec ⟨_,rfl⟩) (a0o _))))) (a0g (a0l e0h)) a0m) (a0c (a0w (a0j b0d (b0b j0g (pv 1) a0f (fun _ _=>rfl)) a0h (a0o _)) (a0g (a0l (h0n b0d (pv 0) a0h (a0o _)))) a0m) (a0g (a0l (a0x (call_all rfl) (by rfl) T.z_all boot_all (a0a (k0e (xs:=["sign"]) rfl (show d0v ["text","figures"] (a0k c0z) _ from⟨rfl,by decide +kernel,by decide +kernel,by decide +kernel,by decide +kernel,by decide +kernel⟩) (pi_str (pv 1)) (fun _ _ _ _ _=>(b0p (i:=2) (by show List.Nodup (["text","figures","sign"]:List Str);decide +kernel) rfl (Or.inl rfl))) (fun _ _ _ _ _=>(h0n h0o (pv 2) (b0q (v:=.str "0123456789") rfl T.c_FIGURES.choose_spec ⟨_,rfl⟩) (by with_unfolding_all rfl)))) a0e)))))))),?_⟩
    rcases h with ⟨l,rfl,g,k⟩ | ⟨⟨ty,y1,y2⟩,k⟩
    case inr=>
      refine⟨_,rfl,_,_,_,_,rfl,y1,y2,_,rfl,?_⟩
      (try refine iteT ?_)
      exact k
    have gl:=g.1
    refine⟨_,rfl,_,_,_,_,rfl,TyOf.str _,T.k_ss,_,rfl,?_⟩
    (try refine iteF ?_)
    refine⟨_,rfl,rfl,_,_,rfl,rfl,_,rfl,?_⟩
    dsimp only
    refine(fun(key:∀f,f=figs l→(?F:L2.St→Hp→Prop) [some (vT l),some (vT f)] H)=>?main) ?rest
    case main=>
      rw[starts_is]
      refine iteP (fun h=>?_) (fun h=>?_)
      · refine⟨_,rfl,_,rfl,_,rfl,by rw[a0u];omega,?_⟩
        rw[j0w (by decide)]
        exact key (l.drop 1) (by rw[figs,if_pos h])
      · refine⟨_,rfl,?_⟩
        exact key l (by rw[figs,if_neg h])
    case rest=>
      intro f ef
      have gf:Gd 400 f:=by
        rw[ef,figs]
        split
        · exact g.drop 1
        · exact g
      have fl:=gf.1
      have lf:LenV K (vT f) H (tx f).length:=⟨by rw[a0u];omega,rfl⟩
      rw[a0u]at lf
      refine⟨_,rfl,_,_,rfl,lf,rfl,_,rfl,?_⟩
      dsimp only
      refine iteI (fun h0=>?_) (fun h0=>?_)
      · refine (by show Q (.bl false) H; have e : wr l = false := by rw [wr, ← ef, decide_eq_false (by omega)]; rfl
                   have:=k H (Same.refl _);rw[e]at this;exact this)
      refine⟨_,rfl,_,_,rfl,lf,_,_,rfl,rfl,_,rfl,?_⟩
      dsimp only
      refine iteP (fun h1=>?_) (fun h1=>?_)
      · refine (by show Q (.bl false) H; have e : wr l = false := by rw [wr, ← ef, decide_eq_false (show ¬ f.length ≤ 30 by omega), Bool.and_false]; rfl
                   have:=k H (Same.refl _);rw[e]at this;exact this)
      obtain⟨c,r,rfl⟩:∃c r,f=c::r:=by
        cases f with
        | nil=>exact absurd rfl h0
        | cons c r=>exact⟨c,r,rfl⟩
      have ewr:wr l=(if c=48 then decide (l=[48])else(c::r).all dg):=by
        rw[wr,← ef,decide_eq_true (by simp),decide_eq_true (by omega)]
        simp only[List.head?_cons,Option.some.injEq,Bool.and_self,Bool.true_and]
      refine⟨_,rfl,_,_,_,rfl,rfl,by rw[a0u];omega,hd_at rfl,rfl,_,rfl,?_⟩
      dsimp only
      rw[o_is]
      refine iteS (fun h2=>?_) (fun h2=>?_)
      · have hc:c=48:=by
          have:=b0x (a:=[c]) (b:=[48]) h2
          simpa using this
        refine⟨_,rfl,rfl,?_⟩
        have e:decide (V.str (tx l)=V.str (Str.ofString "0"))=wr l:=by
          rw[ewr,if_pos hc,o_is,Bool.eq_iff_iff,decide_eq_true_eq,decide_eq_true_eq]
          exact⟨fun z=>b0x (V.str.inj z),fun z=>by rw[z]⟩
        show Q (.bl (decide (V.str (tx l)=V.str (Str.ofString "0")))) H
        rw[e]
        exact k H (Same.refl _)
      · have hc:¬c=48:=fun z=>h2 (by subst z;rfl)
        rw[if_neg hc]at ewr
        refine⟨_,rfl,_,rfl,gf.asc,l0b (n:=(c::r).length) (fun j zs H3=>(H3=H∧zs=(((c::r).take j).map dg).map V.bl)∧zs.length=j) (by omega) ⟨⟨rfl,rfl⟩,rfl⟩ (fun j zs H3 q=>q.2) ?_ ?_ ?_⟩
        · rintro j zs H3 hj ⟨⟨rfl,rfl⟩,lz⟩
          refine⟨(by show j < (c::r).toArray.size;simpa using hj),fun y G3 hy=>?_⟩
          obtain⟨rfl,c',hc',rfl⟩:=hy
          have hc':(c::r)[j]? = some c':=by simpa [tx] using hc'
          refine⟨⟨[some _],rfl,rfl⟩,_,rfl,_,_,rfl,rfl,⟨rfl,?_⟩,by rw[List.length_append,lz];rfl⟩
          rw[List.take_succ,hc',List.map_append,List.map_append]
          have:=in_fig c'
          simp only[Option.toList_some,List.map_cons,List.map_nil]
          rw[← this]
        · rintro zs H3 ⟨⟨rfl,rfl⟩,_⟩
          show(c::r).toArray.size≤_
          simp
        · rintro zs H3 lp ⟨⟨rfl,rfl⟩,_⟩ nl
          refine⟨lp,_,rfl,SqL.of a0b,?_⟩
          have ea:(((c::r).take (c::r).length).map dg).all id=wr l:=by
            rw[List.take_length,ewr,List.all_map];rfl
          dsimp only
          rw[ea]
          exact k _ (a0d nl)
def spx_whole(K:PySem.W.Frag)(t:Adr):Sp:=fun vs H Q E=>∃v,vs=[v]∧((∃l,v=vT l∧Gd 400 l∧(wr l=true→∀H',Same H H'→Q (.int (nm l)) H')∧(wr l=false→∀H',Same H H'→E (.ref t.u0o) none H'))∨(NoStr K v H∧E (.ref t.u0o) none H))
theorem c0j(T:Txt K mg t):FnOk Pr w K mg base (CX1 Pr w) 2 t.r0e t.o0f ["text"] (spx_whole K t):=by
  refine T.o0e.okx j0x (fun vs H Q E h=>?_) (fun cdv A outer s H vs Q E hr h=>?_)
  · obtain⟨v,rfl,_⟩:=h
    rfl
  · obtain⟨v,rfl,h⟩:=h
    refine⟨_,(a0c (a0w (f0q (g0v (a0n (k0j T) hr.m rfl T.o0i T.o0u.kp T.p0d .nil a0z (a0a (pv 0) a0e)))) (a0g (c0q thru_cx rfl T.t0l.ex rfl T.t0s (a0a a0h a0e))) a0m) (a0g (a0l (b0y g0b (by rfl) T.z_int boot_int (a0a (pv 0) a0e))))),?_⟩
    rcases h with ⟨l,rfl,g,k0,k1⟩ | ⟨hn,k⟩
    case inr=>
      refine⟨_,rfl,_,rfl,.inr ⟨hn,_,rfl,?_⟩⟩
      (try refine iteT ?_)
      exact⟨(by show 1≤sizeLine;decide),k⟩
    refine⟨_,rfl,_,rfl,.inl ⟨l,rfl,g,fun H1 s1=>?_⟩⟩
    refine⟨_,rfl,?_⟩
    cases hw:wr l with
    | false=>
      (try refine iteT ?_)
      exact⟨(by show 1≤sizeLine;decide),k1 hw H1 s1⟩
    | true=>
      (try refine iteF ?_)
      obtain⟨e1,e2⟩:=wr_int hw
      exact⟨_,rfl,_,_,rfl,e1,e2,k0 hw H1 s1⟩
def spx_need(K:PySem.W.Frag)(t:Adr):Sp:=fun vs H Q E=>∃v,vs=[v]∧((∃l,v=vT l∧Q .non H)∨(NoStr K v H∧E (.ref t.u0o) none H))
theorem c0r(T:Txt K mg t):FnOk Pr w K mg base (CX1 Pr w) 1 t.s0v t.p0y ["text"] (spx_need K t):=by
  refine T.p0z.okx sc_need_text (fun vs H Q E h=>?_) (fun cdv A outer s H vs Q E hr h=>?_)
  · obtain⟨v,rfl,_⟩:=h
    rfl
  · obtain⟨v,rfl,h⟩:=h
    refine⟨_,(a0g (a0w (f0q (g0v (a0x g0a (by rfl) T.z_isinstance boot_isinstance (a0a (pv 0) (a0a (g0l (v:=.ty "str") rfl T.z_str boot_str rfl) a0e))))) (a0g (c0q thru_cx rfl T.t0l.ex rfl T.t0s (a0a a0h a0e))) a0m)),?_⟩
    rcases h with ⟨l,rfl,k⟩ | ⟨⟨ty,h1,h2⟩,k⟩
    · refine⟨_,rfl,_,_,_,_,rfl,TyOf.str _,T.k_ss,_,rfl,?_⟩
      (try refine iteF ?_)
      exact k
    · refine⟨_,rfl,_,_,_,_,rfl,h1,h2,_,rfl,?_⟩
      (try refine iteT ?_)
      exact⟨(by show 1≤sizeLine;decide),k⟩
def WV(H:Hp)(v:V):PyData→Prop
  | .none=>v=.non
  | .bool b=>v=.bl b
  | .int i=>v=.int i
  | .tuple [.int a,.int b]=>∃p,v=.ref p∧H p=some (.tup [.int a,.int b])
  | _=>False
theorem WV.same{H H':Hp}{v:V}{d:PyData}(s:Same H H')(hd:WDt d)(h:WV H v d):WV H' v d:=by
  rcases hd with rfl | ⟨b,rfl⟩ | ⟨i,rfl⟩ | ⟨a,b,rfl⟩
  · exact h
  · exact h
  · exact h
  · obtain⟨p,e,hp⟩:=h
    exact⟨p,e,s _ _ hp⟩
theorem WV.is{H:Hp}{v:V}{d:PyData}(hd:WDt d)(h:WV H v d):Is K H v d:=by
  rcases hd with rfl | ⟨b,rfl⟩ | ⟨i,rfl⟩ | ⟨a,b,rfl⟩
  · cases (show v=.non from h);exact .non
  · cases (show v=.bl b from h);exact .bl b
  · cases (show v=.int i from h);exact .int i
  · obtain⟨p,rfl,hp⟩:=h
    exact .tup (SqT.of hp) (.cons (.int _) (.cons (.int _) .nil))
theorem WB.wd{way:Int}{d:PyData}(h:WB way d):WDt d:=by
  rcases h with ⟨_,a,b,rfl,_⟩ | ⟨_,a,rfl,_⟩ | ⟨_,rfl | ⟨a,rfl,_⟩⟩ | ⟨_,b,rfl⟩
  · exact .inr (.inr (.inr ⟨_,_,rfl⟩))
  · exact .inr (.inr (.inl ⟨_,rfl⟩))
  · exact .inl rfl
  · exact .inr (.inr (.inl ⟨_,rfl⟩))
  · exact .inr (.inl ⟨_,rfl⟩)
def spRead(K:PySem.W.Frag)(t:Adr)(C:Addr)(fs:List (Str × V))(rd:List Nat→Option PyData):Sp:=fun vs H Q E=>∃kv v,vs=[kv,v]∧KAt C fs H kv∧
  ((∃l,v=vT l∧Gd 400 l∧(∀d,rd l=some d→∀u H',Same H H'→WV H' u d→Q u H')∧(rd l=none→∀H',Same H H'→E (.ref t.u0o) none H'))∨(NoStr K v H∧∀H',Same H H'→E (.ref t.u0o) none H'))
theorem f0r(T:Txt K mg t):FnOk Pr w K mg base (CX1 Pr w) 3 t.m0m t.m0f ["self","text"] (spRead K t t.t0f [] rdF):=by
  refine T.l0y.okx sc_Fractions_read (fun vs H Q E h=>?_) (fun cdv A outer s H vs Q E hr h=>?_)
  · obtain⟨kv,v,rfl,_⟩:=h
    rfl
  · obtain⟨kv,v,rfl,hk,h⟩:=h
    have z40:1000 < sizeLine:=by decide
    refine⟨_,(a0c (d0q (PEX.thru thru_cx (c0c (c0r T) hr.m rfl T.q0q T.p0z.kp T.p0f .nil (a0a (pv 1) a0e)))) (a0c (a0q (i:=2) sc_Fractions_read.nd rfl (Or.inl rfl) (g0k PySem.F.plainAttrs_str PySem.F.slot_str_partition PySem.F.type_str_partition mt_partition (pv 1) (a0a a0h a0e))) (a0c (a0q (i:=3) sc_Fractions_read.nd rfl (Or.inl rfl) (PEX.thru thru_cx (c0c (c0j T) hr.m rfl T.o0s T.o0e.kp T.o0o .nil (a0a (b0b b0e (pv 2) a0f (fun _ _=>rfl)) a0e)))) (a0c (a0w (a0j b0d (b0b b0e (pv 2) a0f (fun _ _=>rfl)) a0h (a0o _)) (a0g (a0l (b0i (a0a (pv 3) (a0a a0f a0e))))) a0m) (a0c (a0q (i:=4) sc_Fractions_read.nd rfl (Or.inl rfl) (PEX.thru thru_cx (c0c (c0j T) hr.m rfl T.o0s T.o0e.kp T.o0o .nil (a0a (b0b b0e (pv 2) a0f (fun _ _=>rfl)) a0e)))) (a0c (a0w (PW.pt (e0f (a0j k0f (pv 4) a0f (a0o _)) (d0a (a0j op_ne (a0n (ok_divisor T) hr.m rfl T.s0m T.s0x.kp T.s0n .nil a0z (a0a (pv 3) (a0a (pv 4) a0e))) a0f (a0o _))))) (a0g (c0q thru_cx rfl T.t0l.ex rfl T.t0s (a0a a0h a0e))) a0m) (a0g (a0l (b0i (a0a (pv 3) (a0a (pv 4) a0e))))))))))),?_⟩
    rcases h with ⟨l,rfl,g,k0,k1⟩ | ⟨hn,k1⟩
    · have gl:=g.1
      refine⟨_,rfl,_,rfl,.inl ⟨l,rfl,?_⟩⟩
      refine⟨_,rfl,rfl,_,_,rfl,rfl,rfl,by rw[a0u];omega,fun pp np=>?_⟩
      cases hc:l0a l with
      | none=>
        rw[part_none hc]
        have t1:=a0d (o:=.tup [.str (tx l),.str Str.empty,.str Str.empty]) np
        have h1:=a0b (H:=H) (a:=pp) (o:=.tup [.str (tx l),.str Str.empty,.str Str.empty])
        dsimp only
        revert t1 h1
        generalize upd H pp (.tup [.str (tx l),.str Str.empty,.str Str.empty])=H1
        intro t1 h1
        refine⟨_,rfl,_,_,_,_,rfl,rfl,SqT.of h1,rfl,_,rfl,.inl ⟨l,rfl,g,fun hw H2 s2=>?_,fun hw H2 s2=>?_⟩⟩
        · refine⟨_,rfl,_,_,_,_,rfl,rfl,SqT.of (s2 _ _ h1),rfl,rfl,_,rfl,?_⟩
          dsimp only
          refine iteS (fun _=>?_) (fun z=>absurd rfl z)
          refine⟨_,rfl,(by show 2≤sizeLine;decide),fun q nq=>?_⟩
          exact k0 (.tuple [.int (nm l),.int 1]) (by rw[rdF,hc];exact if_pos hw) _ _ ((t1.trans s2).trans (a0d nq)) ⟨_,rfl,a0b⟩
        · exact k1 (by rw[rdF,hc];exact if_neg (by rw[hw];decide)) _ (t1.trans s2)
      | some i=>
        rw[part_some hc]
        have t1:=a0d (o:=.tup [.str (tx (l.take i)),.str (Str.ofString "/"),.str (tx (l.drop (i+1)))]) np
        have h1:=a0b (H:=H) (a:=pp) (o:=.tup [.str (tx (l.take i)),.str (Str.ofString "/"),.str (tx (l.drop (i+1)))])
        dsimp only
        revert t1 h1
        generalize upd H pp (.tup [.str (tx (l.take i)),.str (Str.ofString "/"),.str (tx (l.drop (i+1)))])=H1
        intro t1 h1
        refine⟨_,rfl,_,_,_,_,rfl,rfl,SqT.of h1,rfl,_,rfl,.inl ⟨l.take i,rfl,g.take i,fun hw H2 s2=>?_,fun hw H2 s2=>?_⟩⟩
        · refine⟨_,rfl,_,_,_,_,rfl,rfl,SqT.of (s2 _ _ h1),rfl,rfl,_,rfl,?_⟩
          dsimp only
          refine iteS (fun z=>absurd z (by decide +kernel)) (fun _=>?_)
          refine⟨_,rfl,_,_,_,_,rfl,rfl,SqT.of (s2 _ _ h1),rfl,_,rfl,.inl ⟨l.drop (i+1),rfl,g.drop _,fun hw2 H3 s3=>?_,fun hw2 H3 s3=>?_⟩⟩
          · refine⟨_,rfl,_,_,rfl,rfl,_,rfl,?_⟩
            dsimp only
            refine iteP (fun hb=>?_) (fun hb=>?_)
            · exact⟨(by show 1≤sizeLine;decide),k1 (by rw[rdF,hc];exact if_neg (fun z=>by omega)) _ ((t1.trans s2).trans s3)⟩
            refine⟨_,rfl,_,rfl,_,_,rfl,rfl,_,rfl,?_⟩
            dsimp only
            refine iteNI (fun hd=>?_) (fun hd=>?_)
            · exact⟨(by show 1≤sizeLine;decide),k1 (by rw[rdF,hc];exact if_neg (fun z=>hd z.2.2.2)) _ ((t1.trans s2).trans s3)⟩
            refine⟨_,rfl,_,rfl,(by show 2≤sizeLine;decide),fun q nq=>?_⟩
            exact k0 (.tuple [.int (nm (l.take i)),.int (nm (l.drop (i+1)))]) (by rw[rdF,hc];exact if_pos ⟨hw,hw2,by omega,hd⟩) _ _ (((t1.trans s2).trans s3).trans (a0d nq)) ⟨_,rfl,a0b⟩
          · exact k1 (by rw[rdF,hc];exact if_neg (fun z=>by rw[z.2.1]at hw2;cases hw2)) _ ((t1.trans s2).trans s3)
        · exact k1 (by rw[rdF,hc];exact if_neg (fun z=>by rw[z.1]at hw;cases hw)) _ (t1.trans s2)
    · refine⟨_,rfl,_,rfl,.inr ⟨hn,k1 _ (Same.refl _)⟩⟩
theorem e0l(T:Txt K mg t)(p:Int)(hp:2≤p):FnOk Pr w K mg base CX0 2 t.l0p t.l0i ["self","thing"] (fun vs H Q _=>∃k i,vs=[k,.int i]∧KAt t.t0u (pfs p) H k∧Q (.bl (decide (0≤i) && decide (i < p))) H):=by
  refine T.l0g.ok d0y (fun vs H Q E h=>?_) (fun cdv A outer s H vs Q E hr h=>?_)
  · obtain⟨k,x,rfl,_⟩:=h
    rfl
  · obtain⟨k0,i,rfl,⟨q,dx,rfl,hq⟩,k⟩:=h
    refine⟨_,(a0g (a0l (pe_and (a0n (h0t T) hr.m rfl T.r0s T.r0a.kp T.q0x .nil a0z (a0a (pv 1) a0e)) (pe_one (pe_chain op_le k0f a0f (pv 1) (pe_fld (pv 0) rfl)))))),?_⟩
    refine⟨_,rfl,_,rfl,_,rfl,?_⟩
    (try refine iteT ?_)
    refine⟨_,rfl,_,_,rfl,rfl,_,rfl,?_⟩
    refine iteP (fun h0=>?_) (fun h0=>?_)
    · refine⟨_,rfl,q,_,dx,_,_,rfl,hq,T.r0i,T.nP,pfs_prime p,_,_,rfl,rfl,?_⟩
      rw[decide_eq_true h0,Bool.true_and]at k
      exact k
    · rw[decide_eq_false h0,Bool.false_and]at k
      exact k
theorem g0m(T:Txt K mg t)(p:Int)(hp:2≤p):FnOk Pr w K mg base (CX1 Pr w) 4 t.m0w t.m0k ["self","text"] (spRead K t t.t0u (pfs p) (rdR p)):=by
  refine T.m0i.okx sc_Residues_read (fun vs H Q E h=>?_) (fun cdv A outer s H vs Q E hr h=>?_)
  · obtain⟨kv,v,rfl,_⟩:=h
    rfl
  · obtain⟨kv,v,rfl,⟨q,dx,rfl,hq⟩,h⟩:=h
    refine⟨_,(a0c (a0q (i:=2) sc_Residues_read.nd rfl (Or.inl rfl) (PEX.thru thru_cx (c0c (c0j T) hr.m rfl T.o0s T.o0e.kp T.o0o .nil (a0a (pv 1) a0e)))) (a0c (a0w (f0q (g0v (pe_meth (pv 0) T.r0i T.l0f (e0l T p hp) hr.m T.l0h .nil a0z (a0a (pv 2) a0e)))) (a0g (c0q thru_cx rfl T.t0l.ex rfl T.t0s (a0a a0h a0e))) a0m) (a0g (a0l (pv 2))))),?_⟩
    rcases h with ⟨l,rfl,g,k0,k1⟩ | ⟨hn,k1⟩
    case inr=>exact⟨_,rfl,_,rfl,.inr ⟨hn,k1 _ (Same.refl _)⟩⟩
    refine⟨_,rfl,_,rfl,.inl ⟨l,rfl,g,fun hw H1 s1=>?_,fun hw H1 s1=>?_⟩⟩
    · refine⟨_,rfl,_,_,_,rfl,s1 _ _ hq,rfl,_,rfl,_,_,rfl,⟨_,_,rfl,s1 _ _ hq⟩,?_⟩
      refine⟨_,rfl,?_⟩
      by_cases h:0≤nm l∧nm l < p
      · rw[decide_eq_true h.1,decide_eq_true h.2]
        (try refine iteF ?_)
        exact⟨_,rfl,k0 _ (if_pos ⟨hw,h⟩) _ _ s1 rfl⟩
      · have e:(decide (0≤nm l) && decide (nm l < p))=false:=by
          rw[Bool.and_eq_false_iff,decide_eq_false_iff_not,decide_eq_false_iff_not];omega
        rw[e]
        (try refine iteT ?_)
        exact⟨(by show 1≤sizeLine;decide),k1 (if_neg fun z=>h z.2) _ s1⟩
    · exact k1 (if_neg fun z=>by rw[z.1]at hw;cases hw) _ s1
theorem i0o(T:Txt K mg t):FnOk Pr w K mg base (CX1 Pr w) 3 t.s0b t.o0h ["self","text"] (spRead K t t.u0x [] rdC):=by
  refine T.o0l.okx k0b (fun vs H Q E h=>?_) (fun cdv A outer s H vs Q E hr h=>?_)
  · obtain⟨kv,v,rfl,_⟩:=h
    rfl
  · obtain⟨kv,v,rfl,hk,h⟩:=h
    refine⟨_,(a0c (d0q (PEX.thru thru_cx (c0c (c0r T) hr.m rfl T.q0q T.p0z.kp T.p0f .nil (a0a (pv 1) a0e)))) (a0c (a0w (a0j b0d (pv 1) a0h (a0o _)) (a0g (a0l b0v)) a0m) (a0g (a0l (PEX.thru thru_cx (c0c (c0j T) hr.m rfl T.o0s T.o0e.kp T.o0o .nil (a0a (pv 1) a0e))))))),?_⟩
    rcases h with ⟨l,rfl,g,k0,k1⟩ | ⟨hn,k1⟩
    · refine⟨_,rfl,_,rfl,.inl ⟨l,rfl,?_⟩⟩
      refine⟨_,rfl,rfl,_,rfl,?_⟩
      dsimp only
      refine iteS (fun h=>?_) (fun h=>?_)
      · exact k0 _ (if_pos h) _ _ (Same.refl _) rfl
      · refine⟨_,rfl,_,rfl,.inl ⟨l,rfl,g,fun hw H2 s2=>?_,fun hw H2 s2=>?_⟩⟩
        · exact k0 (.int (nm l)) (by rw[rdC,if_neg h,if_pos hw]) _ _ s2 rfl
        · exact k1 (by rw[rdC,if_neg h];exact if_neg (by rw[hw];decide)) _ s2
    · refine⟨_,rfl,_,rfl,.inr ⟨hn,k1 _ (Same.refl _)⟩⟩
theorem h0s(T:Txt K mg t):FnOk Pr w K mg base (CX1 Pr w) 2 t.q0s t.m0z ["self","text"] (spRead K t t.u0q [] rdT):=by
  refine T.n0s.okx i0n (fun vs H Q E h=>?_) (fun cdv A outer s H vs Q E hr h=>?_)
  · obtain⟨kv,v,rfl,_⟩:=h
    rfl
  · obtain⟨kv,v,rfl,hk,h⟩:=h
    refine⟨_,(a0c (d0q (PEX.thru thru_cx (c0c (c0r T) hr.m rfl T.q0q T.p0z.kp T.p0f .nil (a0a (pv 1) a0e)))) (a0c (a0w (a0j b0d (pv 1) a0h (a0o _)) (a0g (a0l e0h)) a0m) (a0c (a0w (a0j b0d (pv 1) a0h (a0o _)) (a0g (a0l e0h)) a0m) (a0g (c0q thru_cx rfl T.t0l.ex rfl T.t0s (a0a a0h a0e)))))),?_⟩
    rcases h with ⟨l,rfl,g,k0,k1⟩ | ⟨hn,k1⟩
    · refine⟨_,rfl,_,rfl,.inl ⟨l,rfl,?_⟩⟩
      refine⟨_,rfl,rfl,_,rfl,?_⟩
      dsimp only
      refine iteS (fun h=>?_) (fun h=>?_)
      · exact k0 _ (if_pos h) _ _ (Same.refl _) rfl
      · refine⟨_,rfl,rfl,_,rfl,?_⟩
        dsimp only
        refine iteS (fun h2=>?_) (fun h2=>?_)
        · exact k0 (.bool false) (by rw[rdT,if_neg h,if_pos h2]) _ _ (Same.refl _) rfl
        · exact⟨(by show 1≤sizeLine;decide),k1 (by rw[rdT,if_neg h,if_neg h2]) _ (Same.refl _)⟩
    · refine⟨_,rfl,_,rfl,.inr ⟨hn,k1 _ (Same.refl _)⟩⟩
theorem f0t{a:Int}(h:a.natAbs≤2 ^ 100):a.natAbs.log2 < 1920:=Nat.lt_of_lt_of_le (log_100 h) (by decide)
theorem ts_len{a:Int}(h:a.natAbs≤2 ^ 100):(ts a).length≤102:=by
  have:=(ts_gd h).1
  rw[Array.length_toList]at this
  exact this
theorem Str.len_app(a b:Str):(a++b).length=a.length+b.length:=by
  show(a.cps++b.cps).size=_
  simp[Str.length]
theorem d0t(xs:List V)(k:Nat):cutV xs none (some (k:Int))=xs.take k:=by
  unfold cutV
  rw[HT.h0d,HT.g0j,List.drop_zero,Nat.sub_zero]
  by_cases h:k≤xs.length
  · rw[Nat.min_eq_left h]
  · rw[Nat.min_eq_right (by omega),List.take_length,List.take_of_length_le (by omega)]
def Dr(H:Hp)(a:Addr):Prop:=∃x:Int,H a=some (.lst [.int x])∨∃d:Int,H a=some (.lst [.int d,.int x])
def SameX(a:Addr)(H H':Hp):Prop:=∀b o,b≠a→H b=some o→H' b=some o
theorem SameX.refl(a:Addr)(H:Hp):SameX a H H:=fun _ _ _ h=>h
theorem SameX.trans{a:Addr}{H H1 H2:Hp}(x:SameX a H H1)(y:SameX a H1 H2):SameX a H H2:=fun b o n h=>y b o n (x b o n h)
theorem SameX.upd{a:Addr}{H:Hp}{o:HO}:SameX a H (upd H a o):=fun b u n h=>by rw[a0v n];exact h
theorem SameX.of{a:Addr}{H H':Hp}(x:Same H H'):SameX a H H':=fun b o _ h=>x b o h
def sp_next:Sp:=fun vs H Q _=>∃(a:Addr) (m:Int),vs=[.ref a,.int m]∧(Dr H a∧0 < m∧m≤1000000000000000)∧∀(r:Int) H',SameX a H H'→Dr H' a→0≤r→r < m→Q (.int r) H'
def sp_state(K:PySem.W.Frag):Sp:=fun vs H Q _=>∃(a:Addr) (ns:List Int),vs=[.ref a]∧SqL K H a (ns.map V.int)∧ns.length≤63∧∀b H',H b=none→Same H H'→Dr H' b→Q (.ref b) H'
theorem small_div{m:Int}(h:0 < m)(h':m≤1000000000000000)(x:Int):CDivB x m:=by
  refine⟨by omega,?_⟩
  have:m.natAbs≤2 ^ 50:=by
    have e:(2:Nat) ^ 50=1125899906842624:=by decide
    omega
  by_cases e:m.natAbs=0
  · rw[e];decide
  · rw[Nat.log2_lt e]
    exact Nat.lt_of_le_of_lt this (Nat.pow_lt_pow_right (by decide) (by decide))
theorem a0p(T:Txt K mg t):FnOk Pr w K mg base CX0 1 t.t0o t.q0w ["_law_state_here","_law_many"] sp_next:=by
  refine T.r0t.ok sc_law_next (fun vs H Q E h=>?_) (fun cdv A outer s H vs Q E hr h=>?_)
  · obtain⟨a,m,rfl,_⟩:=h
    rfl
  · obtain⟨a,m,rfl,⟨⟨x,hD⟩,m0,m1⟩,k⟩:=h
    refine⟨_,(a0c (a0w (a0j b0d (a0x b0u (by rfl) T.z_len PySem.boot_len (a0a (pv 0) a0e)) a0f (a0o _)) (a0c (a0q (i:=2) sc_law_next.nd rfl (Or.inl rfl) (a0t d0f (b0b b0h (pv 0) a0f (fun _ _=>rfl)) (pv 1))) (a0c (ps_asg (a0t d0r (b0b b0h (pv 0) a0f (fun _ _=>rfl)) (pv 1)) (pg_sub (pv 0) a0f set_list)) (a0c (a0w (a0j b0d (b0b b0h (pv 0) a0f (fun _ _=>rfl)) a0f (a0o _)) (a0g (d0q (g0k PySem.F.plainAttrs_list PySem.F.slot_list_pop PySem.F.type_list_pop mt_popAt (pv 0) (a0a a0f a0e)))) a0m) (a0g (a0l (pv 2)))))) a0m) (a0c (ps_asg (a0t d0f (a0t b0t (a0t op_mul (b0b b0h (pv 0) a0f (fun _ _=>rfl)) a0f) a0f) a0f) (pg_sub (pv 0) a0f set_list)) (a0g (a0l (a0t d0f (a0t d0r (b0b b0h (pv 0) a0f (fun _ _=>rfl)) a0f) (pv 1)))))),?_⟩
    rcases hD with hD | ⟨d,hD⟩
    · have lc:LenV K (.ref a) H 1:=.inl ⟨_,SqL.of hD,rfl⟩
      refine⟨_,rfl,_,_,rfl,lc,rfl,_,rfl,?_⟩
      refine iteI (fun h=>absurd h (by decide)) (fun _=>?_)
      refine⟨_,rfl,_,_,_,_,rfl,rfl,SqL.of hD,rfl,_,_,rfl,rfl,.inr ⟨by decide,by decide⟩,_,_,rfl,rfl,_,_,rfl,rfl,(show(2305843009213693951:Int)≠0 by decide),?_⟩
      refine⟨_,rfl,_,_,_,_,rfl,rfl,hD,rfl,?_⟩
      refine⟨_,rfl,_,_,_,_,rfl,rfl,SqL.of a0b,rfl,_,_,rfl,rfl,⟨by decide,by decide⟩,_,rfl,_,_,rfl,rfl,(show m≠0 by omega),?_⟩
      exact k _ _ SameX.upd ⟨_,.inl a0b⟩ (Int.fmod_nonneg_of_pos _ m0) (Int.fmod_lt_of_pos _ m0)
    · have lc:LenV K (.ref a) H 2:=.inl ⟨_,SqL.of hD,rfl⟩
      refine⟨_,rfl,_,_,rfl,lc,rfl,_,rfl,?_⟩
      refine iteI (fun _=>?_) (fun h=>absurd rfl h)
      refine⟨_,rfl,_,_,_,_,rfl,rfl,SqL.of hD,rfl,_,rfl,_,_,rfl,rfl,(show m≠0 by omega),?_⟩
      refine⟨_,rfl,_,_,_,_,rfl,rfl,SqL.of hD,rfl,_,rfl,_,_,rfl,rfl,small_div m0 m1 _,?_⟩
      refine⟨_,rfl,_,_,_,_,rfl,rfl,hD,rfl,?_⟩
      refine⟨_,rfl,_,_,_,_,rfl,rfl,SqL.of a0b,rfl,rfl,_,rfl,?_⟩
      refine iteI (fun _=>?_) (fun _=>?_)
      · refine⟨_,rfl,.inl ⟨rfl,_,SqL.of a0b⟩,_,_,_,_,_,rfl,rfl,a0b,(by decide),(by decide),rfl,rfl,?_⟩
        refine⟨_,rfl,?_⟩
        exact k _ _ (SameX.upd.trans SameX.upd) ⟨x,.inl a0b⟩ (Int.fmod_nonneg_of_pos _ m0) (Int.fmod_lt_of_pos _ m0)
      · refine⟨_,rfl,?_⟩
        exact k _ _ SameX.upd ⟨x,.inr ⟨_,a0b⟩⟩ (Int.fmod_nonneg_of_pos _ m0) (Int.fmod_lt_of_pos _ m0)
theorem ok_law_state(T:Txt K mg t):FnOk Pr w K mg base CX0 1 t.s0w t.q0a ["_law_script"] (sp_state K):=by
  refine T.q0p.ok sc_law_state (fun vs H Q E h=>?_) (fun cdv A outer s H vs Q E hr h=>?_)
  · obtain⟨a,ns,rfl,_⟩:=h
    rfl
  · obtain⟨a,ns,rfl,hS,hlen,k⟩:=h
    refine⟨_,(a0c (a0q (i:=1) sc_law_state.nd rfl (Or.inl rfl) a0f) (a0c (e0g PassesOwn.never rfl (pi_list (b0c c0k (pv 0) b0j (b0g a0f))) (b0p (i:=2) sc_law_state.nd rfl (Or.inl rfl)) (a0g (a0q (i:=1) sc_law_state.nd rfl (Or.inl rfl) (a0t d0f (a0t b0t (a0t b0t (a0t op_mul (pv 1) a0f) (a0t d0f (pv 2) (a0t op_pow a0f a0f))) a0f) a0f)))) (a0c (a0w (PW.pt (j0c (a0j h0p (a0x b0u (by rfl) T.z_len PySem.boot_len (a0a (pv 0) a0e)) a0f (a0o _)) (j0c (a0j h0p (b0b b0h (pv 0) a0f (fun _ _=>rfl)) a0f (a0o _)) (h0m (a0j b0d (a0t d0f (b0b b0h (pv 0) a0f (fun _ _=>rfl)) a0f) a0f (a0o _)))))) (a0g (a0l (a0y (a0a (a0t d0r (b0b b0h (pv 0) a0f (fun _ _=>rfl)) a0f) (a0a (pv 1) a0e))))) a0m) (a0g (a0l (a0y (a0a (pv 1) a0e))))))),?_⟩
    refine⟨_,rfl,_,rfl,_,_,rfl,hS,fun c1 hc1=>?_⟩
    have ec:cutV (ns.map V.int) none (some 200)=(ns.take 200).map V.int:=by
      rw[show(200:Int)=((200:Nat):Int)from rfl,d0t,List.map_take]
    have s1:=a0d (o:=.lst (cutV (ns.map V.int) none (some 200))) hc1
    have k1:=a0b (H:=H) (a:=c1) (o:=.lst (cutV (ns.map V.int) none (some 200)))
    have hS1:=s1.seq hS
    clear hc1
    revert s1 k1 hS1
    generalize upd H c1 (.lst (cutV (ns.map V.int) none (some 200)))=H1
    intro s1 k1 hS1
    rw[ec]at k1
    refine⟨c1,rfl,⟨_,SqL.of k1⟩,k0y (K:=K) (a:=c1) (xs:=(ns.take 200).map V.int) (fun i σ H'=>∃(x:Int) (v:Option V),σ=[some (.ref a),some (.int x),v]∧H'=H1) ⟨_,_,rfl,rfl⟩ (fun i σ H' _ ⟨_,_,_,e⟩=>e▸SqL.of k1) ?_ ?_⟩
    · rintro i y σ H' hi ⟨x,v,rfl,rfl⟩
      obtain⟨z,rfl⟩:∃z,y=V.int z:=by
        rw[List.getElem?_map]at hi
        cases e:(ns.take 200)[i]? with
        | none=>rw[e]at hi;cases hi
        | some z=>rw[e]at hi;exact⟨z,(Option.some.inj hi).symm⟩
      refine⟨_,rfl,_,_,rfl,rfl,.inr ⟨by decide,by decide⟩,_,rfl,_,_,rfl,rfl,⟨by decide,by decide,by decide⟩,_,_,rfl,rfl,(show((10:Int) ^ (30:Int).toNat)≠0 by decide),_,_,rfl,rfl,_,_,rfl,rfl,_,_,rfl,rfl,(show(2305843009213693951:Int)≠0 by decide),?_⟩
      exact⟨_,_,rfl,rfl⟩
    · rintro σ H' ⟨x,v,rfl,rfl⟩
      have lc:LenV K (.ref a) H' (ns.map V.int).length:=.inl ⟨_,hS1,rfl⟩
      rw[List.length_map]at lc
      have last:tSeq tNext (tRet (tLst (tCons (tVar 1) tNil))) { nx:=fun _ H''=>Q .non H'',rt:=Q } [some (.ref a),some (.int x),v] H':=by
        refine⟨_,rfl,(by show 1≤sizeLine;decide),fun b hb=>?_⟩
        exact k b _ (s1.free hb) (s1.trans (a0d hb)) ⟨x,.inl a0b⟩
      refine⟨_,rfl,_,_,rfl,lc,_,_,rfl,rfl,_,rfl,?_⟩
      refine iteP (fun h0=>?_) (fun _=>?_)
      · obtain⟨n0,g0⟩:∃n,ns[0]? = some n:=⟨ns[0]'(by omega),by simp⟩
        have a0:atI (ns.map V.int) 0=some (V.int n0):=c0e (j:=0) (by rw[List.getElem?_map,g0];rfl)
        refine⟨_,rfl,_,_,_,_,rfl,rfl,hS1,a0,_,_,rfl,rfl,_,rfl,?_⟩
        refine iteP (fun _=>?_) (fun _=>?_)
        · refine⟨_,rfl,_,_,_,_,rfl,rfl,hS1,a0,_,_,rfl,rfl,(show(2:Int)≠0 by decide),rfl,_,rfl,?_⟩
          refine iteI (fun _=>?_) (fun _=>?_)
          · refine⟨_,rfl,_,_,_,_,rfl,rfl,hS1,a0,_,_,rfl,rfl,⟨by decide,by decide⟩,_,rfl,(by show 2≤sizeLine;decide),fun b hb=>?_⟩
            exact k b _ (s1.free hb) (s1.trans (a0d hb)) ⟨x,.inr ⟨_,a0b⟩⟩
          · exact last
        · exact last
      · exact last
theorem Dr.same{H H':Hp}{a:Addr}(e:Same H H')(h:Dr H a):Dr H' a:=by
  obtain⟨x,h | ⟨d,h⟩⟩:=h
  · exact⟨x,.inl (e _ _ h)⟩
  · exact⟨x,.inr ⟨d,e _ _ h⟩⟩
theorem Dr.lst{H:Hp}{a:Addr}(h:Dr H a):∃xs,H a=some (.lst xs):=by
  obtain⟨x,h | ⟨d,h⟩⟩:=h
  · exact⟨_,h⟩
  · exact⟨_,h⟩
theorem SameX.tt{a:Addr}{H H':Hp}(s:SameX a H H')(d:Dr H a):SameT H H':=fun p vs h=>s p _ (by
  rintro rfl
  obtain⟨xs,e⟩:=d.lst
  rw[h]at e;cases e) h
theorem SameX.tup{a p:Addr}{H:Hp}{o:HO}(n:H p=none)(d:Dr H a):SameX a H (L2.upd H p o)∧Dr (L2.upd H p o) a:=⟨.of (a0d n),d.same (a0d n)⟩
theorem tx_get{l:List Nat}{i c:Nat}(h:(tx l).cps[i]? = some c):l[i]? = some c:=by simpa [tx] using h
theorem in_l(l:List Nat)(c:Nat):(!(Builtin.Str.occurrences (tx l) (tx [c]) 0 (tx l).length 1).isEmpty)=decide (c∈l):=by
  have:=PySem.StrLaws.found_one (tx l) c
  have e:(tx l).cps.toList=l:=by simp[tx]
  rw[e]at this
  exact this
structure RX(w:World)(K:PySem.W.Frag)(mg:Str→Option Value)(base:Heap)(t:Adr)where
  way:Int
  p:Int
  C:Addr
  fs:List (Str × V)
  rd:List Nat→Option PyData
  cl:Cls K C
  f_read:Addr
  d_read:FuncData
  t_read:Meth K C "read" f_read
  b_read:Binds K d_read ["self","text"] []
  l_read:fs.lookup ("read":Str)=none
  G_read:FnOk Pr w K mg base (CX1 Pr w) 4 f_read d_read ["self","text"] (spRead K t C fs rd)
noncomputable def X_fr(T:Txt K mg t):RX w K mg base t:={ way:=0,p:=0,C:=t.t0f,fs:=[],rd:=rdF,cl:=T.q0r,f_read:=t.m0m,d_read:=t.m0f,t_read:=T.m0d,b_read:=T.l0z,l_read:=rfl,G_read:=(f0r T).mono (by decide) }
noncomputable def X_re(T:Txt K mg t)(p:Int)(hp:2≤p):RX w K mg base t:={ way:=1,p:=p,C:=t.t0u,fs:=pfs p,rd:=rdR p,cl:=T.r0i,f_read:=t.m0w,d_read:=t.m0k,t_read:=T.m0j,b_read:=T.m0g,l_read:=rfl,G_read:=g0m T p hp }
noncomputable def X_co(T:Txt K mg t):RX w K mg base t:={ way:=2,p:=0,C:=t.u0x,fs:=[],rd:=rdC,cl:=T.u0e,f_read:=t.s0b,d_read:=t.o0h,t_read:=T.o0m,b_read:=T.o0j,l_read:=rfl,G_read:=(i0o T).mono (by decide) }
noncomputable def X_tr(T:Txt K mg t):RX w K mg base t:={ way:=3,p:=0,C:=t.u0q,fs:=[],rd:=rdT,cl:=T.u0b,f_read:=t.q0s,d_read:=t.m0z,t_read:=T.n0c,b_read:=T.n0l,l_read:=rfl,G_read:=(h0s T).mono (by decide) }
inductive So(T:Txt K mg t):RX w K mg base t→Str→Int→Prop
  | fr:So T (X_fr T) "fractions" 0
  | re (p:Int) (hp:2≤p) (hq:p≤1000000) (hi:isP p=true):So T (X_re T p hp) "residues" p
  | co:So T (X_co T) "costs" 0
  | tr:So T (X_tr T) "truths" 0
def SortAt(H:Hp)(v:V)(nm:Str)(p:Int):Prop:=∃q,v=.ref q∧H q=some (.tup [.str nm,.int p])
theorem SortAt.same{H H':Hp}{v:V}{nm:Str}{p:Int}(s:SameT H H')(h:SortAt H v nm p):SortAt H' v nm p:=by
  obtain⟨q,rfl,e⟩:=h
  exact⟨q,rfl,s _ _ e⟩
theorem WV.wd{H:Hp}{v:V}{d:PyData}(h:WV H v d):WDt d:=by
  unfold WV at h
  split at h
  · exact .inl rfl
  · exact .inr (.inl ⟨_,rfl⟩)
  · exact .inr (.inr (.inl ⟨_,rfl⟩))
  · exact .inr (.inr (.inr ⟨_,_,rfl⟩))
  · exact h.elim
theorem WV.st{H H':Hp}{v:V}{d:PyData}(s:SameT H H')(h:WV H v d):WV H' v d:=by
  rcases h.wd with rfl | ⟨b,rfl⟩ | ⟨i,rfl⟩ | ⟨a,b,rfl⟩
  · exact h
  · exact h
  · exact h
  · obtain⟨p,e,hp⟩:=h
    exact⟨p,e,s _ _ hp⟩
def LT{α:Type}(Pd:α→V→Hp→Prop)(m:List α)(v:V)(H:Hp):Prop:=∃p vs,v=.ref p∧H p=some (.tup vs)∧Ents (fun i u H=>∃r,m[i]? = some r∧Pd r u H) vs m.length H
theorem LT.same{α:Type}{Pd:α→V→Hp→Prop}{m:List α}{v:V}{H H':Hp}(hp:∀r u,Pd r u H→Pd r u H')(s:SameT H H')(h:LT Pd m v H):LT Pd m v H':=by
  obtain⟨p,vs,rfl,h,e⟩:=h
  exact⟨p,vs,rfl,s _ _ h,e.mono fun j u _ ⟨r,e1,e2⟩=>⟨r,e1,hp r u e2⟩⟩
theorem ents_snoc{α:Type}{Pd:α→V→Hp→Prop}{m:List α}{ys:List V}{H H':Hp}{r:α}{u:V}(e:Ents (fun i u H=>∃r,m[i]? = some r∧Pd r u H) ys m.length H)(hp:∀r u,Pd r u H→Pd r u H')(h:Pd r u H') :
    Ents (fun i u H=>∃q,(m++[r])[i]? = some q∧Pd q u H) (ys++[u]) (m++[r]).length H':=by
  rw[List.length_append,List.length_singleton]
  refine(e.mono fun j v hj ⟨q,e1,e2⟩=>⟨q,by rw[List.getElem?_append_left hj];exact e1,hp q v e2⟩).snoc ⟨r,by simp,h⟩
def RowV(ds:List PyData)(v:V)(H:Hp):Prop:=LT (fun d u H=>WV H u d) ds v H
def TabV(m:List (List PyData))(v:V)(H:Hp):Prop:=LT RowV m v H
theorem RowV.same{ds:List PyData}{v:V}{H H':Hp}(s:SameT H H')(h:RowV ds v H):RowV ds v H':=LT.same (fun _ _ q=>q.st s) s h
theorem TabV.same{m:List (List PyData)}{v:V}{H H':Hp}(s:SameT H H')(h:TabV m v H):TabV m v H':=LT.same (fun _ _=>RowV.same s) s h
theorem LT.len{α:Type}{Pd:α→V→Hp→Prop}{m:List α}{v:V}{H:Hp}(h:LT Pd m v H):LenV K v H m.length:=by
  obtain⟨p,vs,rfl,h,e⟩:=h
  exact .inr ⟨_,SqT.of h,e.1.symm⟩
theorem fold_le{sep:Str}{k:Nat}:∀{ls:List Str} {a:Nat},(∀p∈ls,p.length≤k)→ls.foldl (fun x y=>x+y.length+sep.length) a≤a+ls.length * (k+sep.length)
  | [],a,_=>by simp
  | p::ls,a,h=>by
    have h1:=h p (by simp)
    have h2:=fold_le (sep:=sep) (k:=k) (ls:=ls) (a:=a+p.length+sep.length) (fun x hx=>h x (List.mem_cons_of_mem _ hx))
    rw[List.foldl_cons,List.length_cons,Nat.succ_mul]
    omega
theorem r_join{sep:List Nat}{sz:Str}(hz:sz=tx sep){a:Addr}{ls:List (List Nat)}{k:Nat}{H:Hp}{Q:VK}(hk:∀p∈ls,p.length≤k)(hl:ls.length * (k+sep.length)≤16777216)(hq:SqL K H a (ls.map vT))(q:Q (vT (jn sep ls)) H) :
    rJoin K (.str sz) [.ref a] H Q:=by
  subst hz
  refine⟨tx sep,a,ls.map tx,rfl,rfl,by rw[List.map_map];exact hq,?_,by rw[join_is];exact q⟩
  unfold PySem.JoinOk Builtin.Str.tooLong
  have:=fold_le (sep:=tx sep) (k:=k) (ls:=ls.map tx) (a:=0) (fun p hp=>by
    obtain⟨x,hx,rfl⟩:=List.mem_map.mp hp
    rw[a0u];exact hk x hx)
  have hl':ls.length * (k+(tx sep).length)≤16777216:=by rw[a0u];exact hl
  rw[List.length_map]at this
  have z:sizeLine=16777216:=by decide
  rw[List.foldl_toArray]
  simp only[Bool.not_eq_true',decide_eq_false_iff_not]
  omega
theorem r_split{sep:List Nat}{sz:Str}{o c n:Nat}(hz:sz=tx sep)(S:Sep sep o c)(gs:Gd 5 sep){ls:List (List Nat)}(hne:ls≠[])(hc:∀p∈ls,c ∉ p)(gx:Gd n (jn sep ls))(hn:n≤1000000)(hl:ls.length≤1000){H:Hp}{Q:VK}
    (q:∀p,H p=none→Q (.ref p) (upd H p (.lst (ls.map vT)))):rSplit (vT (jn sep ls)) [.str sz] H Q:=by
  subst hz
  obtain⟨e1,e2⟩:=split_is S gs hne hc gx
  have z:1000000 < sizeLine:=by decide
  have ho:=(List.getElem?_eq_some_iff.mp S.at_).1
  have gl:=gx.1
  refine⟨_,_,rfl,rfl,by rw[a0u,beq_eq_false_iff_ne];omega,by rw[a0u];omega,by rw[e2];omega,by rw[e1,List.length_map];omega,fun p np=>?_⟩
  rw[e1,List.map_map]
  exact q p np
theorem s1:Sep [32] 0 32:=⟨rfl,fun i h=>by omega⟩
theorem s2:Sep [44,32] 0 44:=⟨rfl,fun i h=>by omega⟩
theorem s3:Sep [32,124,32] 1 124:=⟨rfl,fun i h=>by
  have:i=0:=by omega
  subst this
  decide⟩
theorem p1_is:(Str.ofString " ")=tx [32]:=by decide +kernel
theorem iteN{b:Bool}{A B:Prop}(h:b=false)(q:B):if b=true then A else B:=by subst h;exact iteF q
theorem iteY{b:Bool}{A B:Prop}(h:b=true)(q:A):if b=true then A else B:=by subst h;exact iteT q
def SV:Sy→V→Hp→Prop
  | .nil,v,H=>∃p,v=.ref p∧H p=some (.tup [vT nN])
  | .word x,v,H=>∃p,v=.ref p∧H p=some (.tup [vT nW,vT x])
  | .times d a,v,H=>∃p u y,v=.ref p∧H p=some (.tup [vT nT,u,y])∧WV H u d∧SV a y H
  | .one f a,v,H=>∃p y,v=.ref p∧H p=some (.tup [vT (n1 f),y])∧SV a y H
  | .two f a b,v,H=>∃p y z,v=.ref p∧H p=some (.tup [vT (n2 f),y,z])∧SV a y H∧SV b z H
theorem SV.same{H H':Hp}(e:SameT H H'):∀{s:Sy} {v:V},SV s v H→SV s v H'
  | .nil,_,⟨p,rfl,h⟩=>⟨p,rfl,e _ _ h⟩
  | .word _,_,⟨p,rfl,h⟩=>⟨p,rfl,e _ _ h⟩
  | .times _ _,_,⟨p,u,y,rfl,h,h1,h2⟩=>⟨p,u,y,rfl,e _ _ h,h1.st e,SV.same e h2⟩
  | .one _ _,_,⟨p,y,rfl,h,h2⟩=>⟨p,y,rfl,e _ _ h,SV.same e h2⟩
  | .two _ _ _,_,⟨p,y,z,rfl,h,h1,h2⟩=>⟨p,y,z,rfl,e _ _ h,SV.same e h1,SV.same e h2⟩
theorem SV.look:∀{s:Sy} {v:V} {H:Hp},SV s v H→∃p es vs,v=.ref p∧H p=some (.tup ((vT (hdS s)::es)++vs))∧es.length=(exS s).length∧vs.length=(ptS s).length∧∀(i:Nat) u,vs[i]? = some u→∃a,(ptS s)[i]? = some a∧SV a u H
  | .nil,_,_,⟨p,rfl,h⟩=>⟨p,[],[],rfl,h,rfl,rfl,fun i u e=>by simp at e⟩
  | .word _,_,_,⟨p,rfl,h⟩=>⟨p,[_],[],rfl,h,rfl,rfl,fun i u e=>by simp at e⟩
  | .times _ a,_,_,⟨p,u,y,rfl,h,h1,h2⟩=>⟨p,[u],[y],rfl,h,rfl,rfl,fun i z e=>by
    cases i with
    | zero=>cases e;exact⟨a,rfl,h2⟩
    | succ i=>simp at e⟩
  | .one _ a,_,_,⟨p,y,rfl,h,h2⟩=>⟨p,[],[y],rfl,h,rfl,rfl,fun i z e=>by
    cases i with
    | zero=>cases e;exact⟨a,rfl,h2⟩
    | succ i=>simp at e⟩
  | .two _ a b,_,_,⟨p,y,z,rfl,h,h1,h2⟩=>⟨p,[],[y,z],rfl,h,rfl,rfl,fun i u e=>by
    match i,e with
    | 0,e=>cases e;exact⟨a,rfl,h1⟩
    | 1,e=>cases e;exact⟨b,rfl,h2⟩
    | (i+2),e=>simp at e⟩
theorem ex_len(s:Sy):(exS s).length≤1∧(ptS s).length≤2:=by cases s <;>simp[exS,ptS]
theorem cut_drop{xs:List V}{k:Nat}(h:k≤xs.length):cutV xs (some (k:Int)) none=xs.drop k:=by
  unfold cutV
  rw[HT.h0d,HT.g0j,Nat.min_eq_left h]
  exact List.take_of_length_le (by rw[List.length_drop];exact Nat.le_refl _)
def sp_within:Sp:=fun vs H Q _=>∃s v,vs=[v]∧SV s v H∧∀u H',Same H H'→LT SV (ptS s) u H'→Q u H'
theorem g0n(T:Txt K mg t)(hW:WK w K mg aW):FnOk Pr w K mg base CX0 1 t.m0n t.m0a ["saying"] sp_within:=by
  refine T.m0b.ok g0c (fun vs H Q E h=>?_) (fun cdv A outer s H vs Q E hr h=>?_)
  · obtain⟨s,v,rfl,_⟩:=h
    rfl
  · obtain⟨s,v,rfl,hv,k⟩:=h
    obtain⟨p,es,us,rfl,hp,le,lu,hu⟩:=hv.look
    obtain⟨x1,x2⟩:=ex_len s
    refine⟨_,(a0g (a0l (b0c sl_tupA (pv 0) (b0g (a0t g0x (a0x b0u (by rfl) T.z_len PySem.boot_len (a0a (pv 0) a0e)) (pe_gK hW.d (b0q (v:=.ref aW) rfl hW.m rfl) (b0b b0e (pv 0) a0f (fun _ _=>rfl)) (fun _ _=>rfl)))) b0j))),?_⟩
    have ln:LenV K (.ref p) H (1+es.length+us.length):=.inr ⟨_,SqT.of hp,by simp;omega⟩
    refine⟨_,rfl,_,rfl,_,_,rfl,ln,?_⟩
    have e0:atI ((vT (hdS s)::es)++us) 0=some (vT (hdS s)):=c0e (show((vT (hdS s)::es)++us)[0]? = some (vT (hdS s))from rfl)
    refine⟨_,rfl,_,_,_,_,rfl,rfl,SqT.of hp,e0,_,_,rfl,rfl,j0q s,_,_,rfl,rfl,_,rfl,?_⟩
    have ei:((1+es.length+us.length:Nat):Int) - ((ptS s).length:Nat)=((1+es.length:Nat):Int):=by omega
    dsimp only
    rw[ei]
    refine⟨p,_,rfl,SqT.of hp,hp,fun q H' s' hq=>k _ _ s' ⟨q,us,rfl,?_,?_⟩⟩
    · rw[hq,cut_drop (by simp;omega)]
      rw[List.drop_append_of_le_length (by simp;omega),List.drop_eq_nil_of_le (by simp;omega),List.nil_append]
    · refine⟨lu,fun i hi=>?_⟩
      have eu:us[i]? = some us[i]:=List.getElem?_eq_getElem (by omega)
      obtain⟨a,e1,e2⟩:=hu i _ eu
      exact⟨_,eu,a,e1,e2.same s'.t⟩
theorem hd_w{s:Sy}(h:hdS s=nW):∃x,s=.word x:=by
  cases s with
  | word x=>exact⟨x,rfl⟩
  | nil=>exact absurd (show nN=nW from h) (by decide)
  | times d a=>exact absurd (show nT=nW from h) (by decide)
  | one f a=>cases f <;>exact absurd (show n1 _=nW from h) (by decide)
  | two f a b=>rcases e0r f with e | e | e <;>exact absurd (e.symm.trans (show n2 f=nW from h)) (by decide)
theorem hd_t{s:Sy}(h:hdS s=nT):∃d a,s=.times d a:=by
  cases s with
  | times d a=>exact⟨d,a,rfl⟩
  | nil=>exact absurd (show nN=nT from h) (by decide)
  | word x=>exact absurd (show nW=nT from h) (by decide)
  | one f a=>cases f <;>exact absurd (show n1 _=nT from h) (by decide)
  | two f a b=>rcases e0r f with e | e | e <;>exact absurd (e.symm.trans (show n2 f=nT from h)) (by decide)
theorem ex_nil{s:Sy}(h1:hdS s≠nW)(h2:hdS s≠nT):exS s=[]:=by
  cases s with
  | word x=>exact absurd rfl h1
  | times d a=>exact absurd rfl h2
  | nil=>rfl
  | one f a=>rfl
  | two f a b=>rfl
theorem ht_pos(s:Sy):1≤htS s:=by cases s <;>simp[htS]
theorem pn_le{s a:Sy}(h:a∈ptS s):pnS a≤pnS s:=by
  rw[pn_pt (s:=s)]
  have key:∀(ls:List Sy),a∈ls→pnS a≤(ls.map pnS).sum:=fun ls=>by
    induction ls with
    | nil=>intro h;cases h
    | cons b ls ih=>
      intro h
      rw[List.map_cons,List.sum_cons]
      rcases List.mem_cons.mp h with rfl | h
      · omega
      · have:=ih h;omega
  have:=key _ h
  omega
def j0u(n:Nat):Sp:=fun vs H Q _=>∃s v,vs=[v]∧(SV s v H∧htS s≤n)∧∀H',Same H H'→Q (.int (pnS s:Nat)) H'
theorem okr_parts(T:Txt K mg t):∀(n:Nat) {w:World} {base:Heap} (_:WK w K mg aW),FnOk Pr w K mg base CX0 (n+3) t.o0g t.m0o ["saying"] (j0u n)
  | 0,w,base,hW=>by
    refine T.m0t.ok d0w (fun vs H Q E h=>?_) (fun cdv A outer s H vs Q E hr h=>?_)
    · obtain⟨s,v,rfl,_⟩:=h
      rfl
    · obtain⟨s,v,rfl,⟨_,h0⟩,_⟩:=h
      have:=ht_pos s
      omega
  | n+1,w,base,hW=>by
    have c0y:∀{w:World} {base:Heap} (T:Txt K mg t) (_:WK w K mg aW),FnOk Pr w K mg base CX0 (n+3) t.o0g t.m0o ["saying"] (j0u n):=fun T hW=>okr_parts T n hW
    refine T.m0t.ok d0w (fun vs H Q E h=>?_) (fun cdv A outer s H vs Q E hr h=>?_)
    · obtain⟨s,v,rfl,_⟩:=h
      rfl
    · obtain⟨s,v,rfl,⟨hv,hh⟩,k⟩:=h
      have zl:10000 < sizeLine:=by decide
      obtain⟨x1,x2⟩:=ex_len s
      refine⟨_,(a0g (a0l (a0t b0t a0f (a0x (call_sumL rfl) (by rfl) T.z_sum boot_sum (a0a (k0e (xs:=["part"]) rfl (show d0v ["saying"] (a0k c0i) _ from⟨rfl,by decide +kernel,by decide +kernel,by decide +kernel,by decide +kernel,by decide +kernel⟩) (pi_tup (a0n (g0n T hW) (hr.mono (by omega)) rfl T.m0c T.m0b.kp T.l0x .nil a0z (a0a (pv 0) a0e))) (fun _ _ _ _ _=>(b0p (i:=1) (by show List.Nodup (["saying","part"]:List Str);decide +kernel) rfl (Or.inl rfl))) (fun _ _ _ _ _=>(a0n (c0y (w:=w) (base:=base) T hW) (hr.mono (by omega)) rfl T.m0p T.m0t.kp T.m0s .nil a0z (a0a (pv 1) a0e)))) a0e))))),?_⟩
      refine⟨_,rfl,s,v,rfl,hv,fun u H3 s3 hw3=>?_⟩
      obtain⟨up,uvs,rfl,hup,eup⟩:=id hw3
      refine⟨up,rfl,⟨_,SqT.of hup⟩,l0b (n:=(ptS s).length) (fun j ys H4=>(ys=((((ptS s).take j).map fun a=>(pnS a:Int)).map V.int)∧Same H3 H4)∧ys.length=j) (by omega) ⟨⟨rfl,Same.refl _⟩,rfl⟩ (fun j ys H4 z=>z.2) ?_ ?_ ?_⟩
      · rintro j ys H4 hj ⟨⟨rfl,s4⟩,ly⟩
        obtain⟨x,ex,a,ea,sx⟩:=eup.2 j hj
        refine⟨⟨_,_,SqT.of (s4 _ _ hup),ex⟩,fun y H' hy=>?_⟩
        obtain⟨rfl,hy⟩:=hy
        have:=hy _ (SqT.of (s4 _ _ hup))
        rw[ex]at this;cases this
        have ma:=List.mem_of_getElem? ea
        have h1:=ht_pt ma
        refine⟨⟨[some _],rfl,rfl⟩,_,rfl,a,x,rfl,⟨sx.same s4.t,by omega⟩,fun H5 s5=>⟨⟨?_,s4.trans s5⟩,by rw[List.length_append,ly];rfl⟩⟩
        rw[List.take_add_one,ea,List.map_append,List.map_append];rfl
      · rintro ys H4 ⟨⟨rfl,s4⟩,_⟩
        exact⟨_,SqT.of (s4 _ _ hup),by rw[eup.1];exact Nat.le_refl _⟩
      · rintro ys H4 cp ⟨⟨rfl,s4⟩,_⟩ ncp
        rw[List.take_length]
        refine⟨cp,_,rfl,SqL.of a0b,_,_,rfl,rfl,?_⟩
        have e:(1:Int)+((ptS s).map fun a=>(pnS a:Int)).sum=((pnS s:Nat):Int):=by
          have key:∀ls:List Sy,(ls.map fun a=>(pnS a:Int)).sum=(((ls.map pnS).sum:Nat):Int):=fun ls=>by
            induction ls with
            | nil=>rfl
            | cons b ls ih=>rw[List.map_cons,List.sum_cons,ih,List.map_cons,List.sum_cons];omega
          rw[key,pn_pt (s:=s)];omega
        dsimp only
        rw[e]
        exact k _ ((s3.trans s4).trans (a0d ncp))
theorem c0y(T:Txt K mg t)(hW:WK w K mg aW):FnOk Pr w K mg base CX0 15 t.o0g t.m0o ["saying"] (j0u 12):=okr_parts T 12 hW
theorem SameX.tl{a:Addr}{H H':Hp}{xs:List V}(s:SameX a H H')(h:H a=some (.lst xs)):SameT H H':=fun p vs hp=>s p _ (fun e=>by rw[e,h]at hp;cases hp) hp
def EV:Sy→List V→Hp→Prop
  | .word x,es,_=>es=[vT x]
  | .times d _,es,H=>∃u,es=[u]∧WV H u d
  | _,es,_=>es=[]
theorem EV.same{H H':Hp}(e:SameT H H'){s:Sy}{es:List V}(h:EV s es H):EV s es H':=by
  cases s with
  | times d a=>obtain⟨u,h1,h2⟩:=h;exact⟨u,h1,h2.st e⟩
  | nil=>exact h
  | word x=>exact h
  | one f a=>exact h
  | two f a b=>exact h
theorem SV.mk{s:Sy}{p:Addr}{es us:List V}{H:Hp}(he:EV s es H)(hl:us.length=(ptS s).length)(hu:∀(j:Nat) u,us[j]? = some u→∃b,(ptS s)[j]? = some b∧SV b u H)(hp:H p=some (.tup ((vT (hdS s)::es)++us))):SV s (.ref p) H:=by
  cases s with
  | nil=>cases (show es=[]from he);cases List.length_eq_zero_iff.mp hl;exact⟨p,rfl,hp⟩
  | word x=>cases (show es=[vT x]from he);cases List.length_eq_zero_iff.mp hl;exact⟨p,rfl,hp⟩
  | times d a=>
    obtain⟨u,rfl,hw⟩:=he
    match us,hl with
    | [y],_=>
      obtain⟨b,e1,e2⟩:=hu 0 y rfl
      cases e1
      exact⟨p,u,y,rfl,hp,hw,e2⟩
  | one f a=>
    cases (show es=[]from he)
    match us,hl with
    | [y],_=>
      obtain⟨b,e1,e2⟩:=hu 0 y rfl
      cases e1
      exact⟨p,y,rfl,hp,e2⟩
  | two f a b=>
    cases (show es=[]from he)
    match us,hl with
    | [y,z],_=>
      obtain⟨b1,e1,e2⟩:=hu 0 y rfl
      obtain⟨b2,e3,e4⟩:=hu 1 z rfl
      cases e1
      cases e3
      exact⟨p,y,z,rfl,hp,e2,e4⟩
def sp_isw:Sp:=fun vs H Q _=>∃l x,vs=[vT l,vT x]∧(x.length≤400∧∀c∈x,c < 128)∧∀H',Same H H'→Q (.bl (x.all fun c=>decide (c∈l))) H'
theorem ok_is_word(T:Txt K mg t):FnOk Pr w K mg base CX0 1 t.u0j t.s0u ["letters","thing"] sp_isw:=by
  refine T.t0d.ok sc_is_word (fun vs H Q E h=>?_) (fun cdv A outer s H vs Q E hr h=>?_)
  · obtain⟨l,x,rfl,_⟩:=h
    rfl
  · obtain⟨l,x,rfl,⟨xl,as⟩,k⟩:=h
    have asc:(tx x).cps.all (· < 128)=true:=by
      show x.toArray.all (· < 128)=true
      simp only[List.all_toArray,List.all_eq_true,decide_eq_true_eq]
      exact as
    refine⟨_,(a0g (a0l (pe_and (a0x g0a (by rfl) T.z_isinstance boot_isinstance (a0a (pv 1) (a0a (g0l (v:=.ty "str") rfl T.z_str boot_str rfl) a0e))) (pe_one (a0x (call_all rfl) (by rfl) T.z_all boot_all (a0a (k0e (xs:=["sign"]) rfl (show d0v ["letters","thing"] (a0k f0o) _ from⟨rfl,by decide +kernel,by decide +kernel,by decide +kernel,by decide +kernel,by decide +kernel⟩) (pi_str (pv 1)) (fun _ _ _ _ _=>(b0p (i:=2) (by show List.Nodup (["letters","thing","sign"]:List Str);decide +kernel) rfl (Or.inl rfl))) (fun _ _ _ _ _=>(h0n h0o (pv 2) (pv 0) (by with_unfolding_all rfl)))) a0e)))))),?_⟩
    refine⟨_,rfl,_,_,_,_,rfl,TyOf.str _,T.k_ss,_,rfl,?_⟩
    refine iteT ?_
    refine⟨_,rfl,_,rfl,asc,l0b (n:=x.length) (fun j ys H2=>(ys=((x.take j).map fun c=>decide (c∈l)).map V.bl∧H2=H)∧ys.length=j) (by omega) ⟨⟨rfl,rfl⟩,rfl⟩ (fun j ys H2 q=>q.2) ?_ ?_ ?_⟩
    · rintro j ys H2 hj ⟨⟨rfl,rfl⟩,ly⟩
      refine⟨(by show j < x.toArray.size;simpa using hj),fun y H' hy=>?_⟩
      obtain⟨rfl,c,hc,rfl⟩:=hy
      refine⟨⟨[some _],rfl,rfl⟩,_,rfl,_,rfl,_,_,rfl,rfl,⟨?_,rfl⟩,by rw[List.length_append,ly];rfl⟩
      show _++[V.bl (!(Builtin.Str.occurrences (tx l) (tx [c]) 0 (tx l).length 1).isEmpty)]=_
      rw[in_l,List.take_add_one,tx_get hc,List.map_append,List.map_append];rfl
    · rintro ys H2 ⟨⟨rfl,rfl⟩,_⟩
      show x.toArray.size≤_
      simp
    · rintro ys H2 p ⟨⟨rfl,rfl⟩,_⟩ np
      rw[List.take_length]
      refine⟨p,x.map fun c=>decide (c∈l),rfl,SqL.of a0b,?_⟩
      have e:(x.map fun c=>decide (c∈l)).all id=x.all fun c=>decide (c∈l):=by rw[List.all_map];rfl
      show Q (.bl ((x.map fun c=>decide (c∈l)).all id)) _
      rw[e]
      exact k _ (a0d np)
def spx_rdw(t:Adr):Sp:=fun vs H Q E=>∃l x,vs=[vT l,vT x]∧Gd 400 x∧(∀z,rdw l x=some z→∀H',Same H H'→Q (vT z) H')∧(rdw l x=none→∀H',Same H H'→E (.ref t.u0o) none H')
theorem k0g(T:Txt K mg t):FnOk Pr w K mg base (CX1 Pr w) 2 t.s0l t.p0m ["letters","text"] (spx_rdw t):=by
  refine T.p0s.okx sc_read_word (fun vs H Q E h=>?_) (fun cdv A outer s H vs Q E hr h=>?_)
  · obtain⟨l,x,rfl,_⟩:=h
    rfl
  · obtain⟨l,x,rfl,g,k,kn⟩:=h
    refine⟨_,(a0c (a0w (a0j b0d (pv 1) a0h (a0o _)) (a0g (a0l a0h)) a0m) (a0c (a0w (PW.pt (e0f (a0j b0d (pv 1) a0h (a0o _)) (d0a (f0q (g0v (a0n (ok_is_word T) hr.m rfl T.s0h T.t0d.kp T.t0a .nil a0z (a0a (pv 0) (a0a (pv 1) a0e)))))))) (a0g (c0q thru_cx rfl T.t0l.ex rfl T.t0s (a0a a0h a0e))) a0m) (a0g (a0l (pv 1))))),?_⟩
    refine⟨_,rfl,rfl,_,rfl,?_⟩
    dsimp only
    by_cases z:x=[45]
    · subst z
      refine iteS (fun _=>?_) (fun h=>absurd mi_is.symm h)
      have:=k [] (if_pos rfl) H (Same.refl _)
      show Q (.str (Str.ofString "")) H
      rw[e0m];exact this
    · refine iteS (fun h=>absurd (b0x (h.trans mi_is)) z) (fun _=>?_)
      refine⟨_,rfl,rfl,_,rfl,?_⟩
      dsimp only
      by_cases e:x=[]
      · refine iteY (by rw[e,e0m];rfl) ?_
        (try refine iteT ?_)
        exact⟨(by show 1≤sizeLine;decide),kn (by rw[rdw,if_neg z,if_pos (.inl e)]) H (Same.refl _)⟩
      · have nz:decide (vT x=V.str (Str.ofString ""))=false:=decide_eq_false fun h=>e (b0x ((V.str.inj h).trans e0m))
        refine iteN nz ?_
        refine⟨_,rfl,_,rfl,l,x,rfl,⟨g.1,g.2⟩,fun H' s'=>⟨_,rfl,?_⟩⟩
        by_cases al:∀c∈x,c∈l
        · refine iteN (by rw[List.all_eq_true.mpr (fun c hc=>decide_eq_true (al c hc))];rfl) ?_
          exact⟨_,rfl,k x (by rw[rdw,if_neg z,if_neg (fun q=>q.elim e (fun q=>q al))]) H' s'⟩
        · refine iteY ?_ ?_
          · cases hb:x.all fun c=>decide (c∈l)with
            | false=>rfl
            | true=>exact absurd (fun c hc=>of_decide_eq_true (List.all_eq_true.mp hb c hc)) al
          · exact⟨(by show 1≤sizeLine;decide),kn (by rw[rdw,if_neg z,if_pos (.inr al)]) H' s'⟩
def spx_npc(t:Adr):Sp:=fun vs H Q E=>∃a,∃ps:List (List Nat),vs=[.ref a]∧H a=some (.lst (ps.reverse.map vT))∧(ps=[]→E (.ref t.u0o) none H)∧(∀x r,ps=x::r→Q (vT x) (upd H a (.lst (r.reverse.map vT))))
theorem d0g(T:Txt K mg t):FnOk Pr w K mg base (CX1 Pr w) 1 t.r0x t.o0n ["pieces"] (spx_npc t):=by
  refine T.o0d.okx j0y (fun vs H Q E h=>?_) (fun cdv A outer s H vs Q E hr h=>?_)
  · obtain⟨a,ps,rfl,_⟩:=h
    rfl
  · obtain⟨a,ps,rfl,ha,kn,k⟩:=h
    have ln:LenV K (.ref a) H ps.length:=.inl ⟨_,SqL.of ha,by simp⟩
    refine⟨_,(a0c (a0w (a0j b0d (a0x b0u (by rfl) T.z_len PySem.boot_len (a0a (pv 0) a0e)) a0f (a0o _)) (a0g (c0q thru_cx rfl T.t0l.ex rfl T.t0s (a0a a0h a0e))) a0m) (a0g (a0l (pe_bm0 PySem.F.plainAttrs_list PySem.F.slot_list_pop PySem.F.type_list_pop mt_pop (pv 0))))),?_⟩
    refine⟨_,rfl,_,_,rfl,ln,rfl,_,rfl,?_⟩
    dsimp only
    cases ps with
    | nil=>
      refine iteY (by rfl) ?_
      exact⟨(by show 1≤sizeLine;decide),kn rfl⟩
    | cons x r=>
      refine iteN (by simp;omega) ?_
      rw[List.reverse_cons,List.map_append]at ha
      refine⟨_,rfl,.inl ⟨rfl,_,SqL.of ha⟩,?_⟩
      refine⟨a,_,vT x,rfl,rfl,ha,(by simp),?_⟩
      show Q (vT x) (upd H a (.lst (r.reverse.map vT++[vT x]).dropLast))
      rw[List.dropLast_concat]
      exact k x r rfl
def EVx:Ex→List V→Hp→Prop
  | .no,es,_=>es=[]
  | .w x,es,_=>es=[vT x]
  | .d d,es,H=>∃u,es=[u]∧WV H u d
theorem EVx.same{H H':Hp}(e:SameT H H'){x:Ex}{es:List V}(h:EVx x es H):EVx x es H':=by
  cases x with
  | d d=>obtain⟨u,h1,h2⟩:=h;exact⟨u,h1,h2.st e⟩
  | no=>exact h
  | w x=>exact h
theorem EVx.len{H:Hp}{x:Ex}{es:List V}(h:EVx x es H):es.length≤1:=by
  cases x with
  | d d=>obtain⟨u,rfl,_⟩:=h;exact Nat.le_refl _
  | no=>rw[show es=[]from h];exact Nat.zero_le _
  | w x=>rw[show es=[vT x]from h];exact Nat.le_refl _
theorem j0i{l:List Nat}{rd:List Nat→Option PyData}{x:List Nat}(hx:x=nW):ext l rd x []=none:=by unfold ext;rw[if_pos hx]
theorem g0z{l:List Nat}{rd:List Nat→Option PyData}{x y:List Nat}{r:List (List Nat)}(hx:x=nW):ext l rd x (y::r)=(rdw l y).map fun z=>(.w z,r):=by unfold ext;rw[if_pos hx]
theorem ext_tn{l:List Nat}{rd:List Nat→Option PyData}{x:List Nat}(hw:x≠nW)(hx:x=nT):ext l rd x []=none:=by unfold ext;rw[if_neg hw,if_pos hx]
theorem j0j{l:List Nat}{rd:List Nat→Option PyData}{x y:List Nat}{r:List (List Nat)}(hw:x≠nW)(hx:x=nT):ext l rd x (y::r)=(rd y).map fun d=>(.d d,r):=by unfold ext;rw[if_neg hw,if_pos hx]
theorem i0f{l:List Nat}{rd:List Nat→Option PyData}{x:List Nat}{r:List (List Nat)}(hw:x≠nW)(hx:x≠nT):ext l rd x r=some (.no,r):=by unfold ext;rw[if_neg hw,if_neg hx]
theorem ext_sub{l:List Nat}{rd:List Nat→Option PyData}{x:List Nat}{r:List (List Nat)}{e:Ex × List (List Nat)}(h:ext l rd x r=some e):∀y∈e.2,y∈r:=by
  by_cases hw:x=nW
  · cases r with
    | nil=>rw[j0i hw]at h;cases h
    | cons y r=>
      rw[g0z hw]at h
      cases hr:rdw l y with
      | none=>rw[hr]at h;cases h
      | some z=>rw[hr]at h;cases h;exact fun y' hy=>List.mem_cons_of_mem _ hy
  · by_cases hx:x=nT
    · cases r with
      | nil=>rw[ext_tn hw hx]at h;cases h
      | cons y r=>
        rw[j0j hw hx]at h
        cases hr:rd y with
        | none=>rw[hr]at h;cases h
        | some z=>rw[hr]at h;cases h;exact fun y' hy=>List.mem_cons_of_mem _ hy
    · rw[i0f hw hx]at h;cases h;exact fun _ hy=>hy
theorem many_sub{f:List (List Nat)→Option (Sy × List (List Nat))}(hf:∀r q,f r=some q→∀y∈q.2,y∈r):∀{k:Nat} {r:List (List Nat)} {m:List Sy × List (List Nat)},many f k r=some m→∀y∈m.2,y∈r
  | 0,r,m,h=>by cases h;exact fun _ hy=>hy
  | k+1,r,m,h=>by
    simp only[many]at h
    cases hr:f r with
    | none=>rw[hr]at h;cases h
    | some q=>
      rw[hr]at h
      simp only[Option.bind_some]at h
      cases hm:many f k q.2 with
      | none=>rw[hm]at h;cases h
      | some m'=>
        rw[hm]at h
        cases h
        exact fun y hy=>hf r q hr y (many_sub hf hm y hy)
theorem prs_sub{l:List Nat}{rd:List Nat→Option PyData}:∀(n:Nat) (r:List (List Nat)) (q:Sy × List (List Nat)),prs l rd n r=some q→∀y∈q.2,y∈r
  | 0,r,q,h=>by cases h
  | n+1,[],q,h=>by cases h
  | n+1,x::r,q,h=>by
    simp only[prs]at h
    cases ha:ar x with
    | none=>rw[ha]at h;cases h
    | some k=>
      rw[ha]at h
      simp only[Option.bind_some]at h
      cases he:ext l rd x r with
      | none=>rw[he]at h;cases h
      | some e=>
        rw[he]at h
        simp only[Option.bind_some]at h
        cases hm:many (prs l rd n) k e.2 with
        | none=>rw[hm]at h;cases h
        | some m=>
          rw[hm]at h
          cases h
          exact fun y hy=>List.mem_cons_of_mem _ (ext_sub he y (many_sub (prs_sub n) hm y hy))
theorem ev_bld{l:List Nat}{rd:List Nat→Option PyData}{x:List Nat}{k:Nat}{r:List (List Nat)}{e:Ex × List (List Nat)}{m:List Sy}{es:List V}{H:Hp}(h1:ar x=some k)(h2:ext l rd x r=some e)(h3:m.length=k)(h:EVx e.1 es H):EV (bld x e.1 m) es H:=by
  have b:=j0n h1 h2 h3
  obtain⟨e,r'⟩:=e
  dsimp only at b h ⊢
  cases e with
  | w z=>exact h
  | d d=>
    match m,b with
    | [a],_=>exact h
    | [],b=>
      have hx:nN=x:=b.1
      subst hx
      rw[i0f (by decide) (by decide)]at h2
      cases h2
    | a::a'::m,b=>exact absurd b.2 (by simp[bld,ptS])
  | no=>
    match m,b with
    | [],_=>exact h
    | [a],_=>exact h
    | [a,a'],_=>exact h
    | a::a'::a''::m,b=>exact absurd b.2 (by simp[bld,ptS])
theorem prs_nil{l:List Nat}{rd:List Nat→Option PyData}:∀n,prs l rd n []=none
  | 0=>rfl
  | _+1=>rfl
def spx_rdp(w:World)(K:PySem.W.Frag)(mg:Str→Option Value)(base:Heap)(t:Adr)(N:Nat):Sp:=fun vs H Q E=>∃(R:RX w K mg base t),∃kv l a,∃ps:List (List Nat),∃z n:Nat,vs=[kv,vT l,.ref a,.int (z:Nat)]∧
  (KAt R.C R.fs H kv∧n < N∧z+n=13∧(∀x∈ps,Gd 400 x)∧H a=some (.lst (ps.reverse.map vT)))∧(prs l R.rd n ps=none→∀H',SameX a H H'→E (.ref t.u0o) none H')∧
  (∀s rest,prs l R.rd n ps=some (s,rest)→∀v H',SameX a H H'→H' a=some (.lst (rest.reverse.map vT))→SV s v H'→Q v H')
theorem okr_rdp(T:Txt K mg t):∀(N:Nat) {w:World} {base:Heap} (_:WK w K mg aW),FnOk Pr w K mg base (CX1 Pr w) (N+6) t.p0n t.n0j ["kind","letters","pieces","high"] (spx_rdp w K mg base t N)
  | 0,w,base,hW=>by
    refine T.n0f.okx sc_read_pieces (fun vs H Q E h=>?_) (fun cdv A outer s H vs Q E hr h=>?_)
    · obtain⟨R,kv,l,a,ps,z,n,rfl,_⟩:=h
      rfl
    · obtain⟨R,kv,l,a,ps,z,n,rfl,⟨_,h0,_⟩,_⟩:=h
      omega
  | N+1,w,base,hW=>by
    have c0x:∀{w:World} {base:Heap} (T:Txt K mg t) (_:WK w K mg aW),FnOk Pr w K mg base (CX1 Pr w) (N+6) t.p0n t.n0j ["kind","letters","pieces","high"] (spx_rdp w K mg base t N):=fun T hW=>okr_rdp T N hW
    refine T.n0f.okx sc_read_pieces (fun vs H Q E h=>?_) (fun cdv A outer s H vs Q E hr h=>?_)
    · obtain⟨R,kv,l,a,ps,z,n,rfl,_⟩:=h
      rfl
    · obtain⟨R,kv,l,a,ps,z,n,rfl,⟨⟨kp,dx,rfl,hk⟩,hn,hz,hg,ha⟩,kn,k⟩:=h
      refine⟨_,(a0c (a0q (i:=4) sc_read_pieces.nd rfl (Or.inl rfl) (PEX.thru thru_cx (c0c (d0g T) (hr.mono (by omega)) rfl T.o0p T.o0d.kp T.p0b .nil (a0a (pv 2) a0e)))) (a0c (a0w (PW.pt (e0f (pt_cmp (pc_nK hW.d (pv 4) (b0q (v:=.ref aW) rfl hW.m rfl)) (by with_unfolding_all rfl)) (d0a (a0j h0p (pv 3) (b0q (v:=.int 12) rfl T.c_MOST_HIGH.choose_spec ⟨_,rfl⟩) (a0o _))))) (a0g (c0q thru_cx rfl T.t0l.ex rfl T.t0s (a0a a0h a0e))) a0m) (a0c (a0q (i:=5) sc_read_pieces.nd rfl (Or.inl rfl) (b0i (a0a (pv 4) a0e))) (a0c (a0w (a0j b0d (pv 4) a0h (a0o _)) (a0g (a0q (i:=5) sc_read_pieces.nd rfl (Or.inl rfl) (a0t h0q (pv 5) (b0i (a0a (pe_callX thru_cx (k0g T) (hr.mono (by omega)) rfl T.q0h T.p0s.kp T.q0b .nil (a0a (pv 1) (a0a (PEX.thru thru_cx (c0c (d0g T) (hr.mono (by omega)) rfl T.o0p T.o0d.kp T.p0b .nil (a0a (pv 2) a0e))) a0e))) a0e))))) a0m) (a0c (a0w (a0j b0d (pv 4) a0h (a0o _)) (a0g (a0q (i:=5) sc_read_pieces.nd rfl (Or.inl rfl) (a0t h0q (pv 5) (b0i (a0a (pe_methX thru_cx (pv 0) R.cl R.t_read R.G_read (hr.mono (by omega)) R.b_read .nil (a0a (PEX.thru thru_cx (c0c (d0g T) (hr.mono (by omega)) rfl T.o0p T.o0d.kp T.p0b .nil (a0a (pv 2) a0e))) a0e)) a0e))))) a0m) (a0c (e0g thru_cx.own rfl (d0i rfl T.z_range (a0a (pe_gK hW.d (b0q (v:=.ref aW) rfl hW.m rfl) (pv 4) (fun _ _=>rfl)) a0e)) (b0p (i:=6) sc_read_pieces.nd rfl (Or.inl rfl)) (a0g (a0q (i:=5) sc_read_pieces.nd rfl (Or.inl rfl) (a0t h0q (pv 5) (b0i (a0a (PEX.thru thru_cx (c0c (c0x T hW) (hr.mono (by omega)) rfl T.n0g T.n0f.kp T.n0n .nil (a0a (pv 0) (a0a (pv 1) (a0a (pv 2) (a0a (a0t b0t (pv 3) a0f) a0e)))))) a0e)))))) (a0g (a0l (pv 5))))))))),?_⟩
      have zl:10000 < sizeLine:=by decide
      refine⟨_,rfl,a,ps,rfl,ha,fun e=>kn (by rw[e];exact prs_nil n) H (SameX.refl _ _),fun x r e=>?_⟩
      subst e
      have s1:SameX a H (upd H a (.lst (r.reverse.map vT))):=fun c u hc he=>by rw[a0v hc];exact he
      have k1:upd H a (.lst (r.reverse.map vT)) a=some (.lst (r.reverse.map vT)):=a0b
      revert s1 k1
      generalize upd H a (.lst (r.reverse.map vT))=H1
      intro s1 k1
      have ka:kp≠a:=fun e=>by rw[e,ha]at hk;cases hk
      have hk1:=s1 _ _ ka hk
      show b0m 4 (vT x) [some (.ref kp),some (vT l),some (.ref a),some (.int (z:Nat)),none,none,none] H1 _
      refine⟨_,rfl,_,rfl,rfl,_,rfl,?_⟩
      dsimp only
      cases har:ar x with
      | none=>
        have nk:(!(valV (kvI wkv) (Sum.inr (tx x))).isSome)=true:=by rw[wk_ar,har];rfl
        refine iteY nk ?_
        (try refine iteT ?_)
        refine⟨(by show 1≤sizeLine;omega),kn ?_ _ s1⟩
        cases n with
        | zero=>rfl
        | succ n=>show(ar x).bind _=none;rw[har];rfl
      | some kk=>
        have nk:(!(valV (kvI wkv) (Sum.inr (tx x))).isSome)=false:=by rw[wk_ar,har];rfl
        refine iteN nk ?_
        refine⟨_,rfl,_,_,rfl,rfl,_,rfl,?_⟩
        dsimp only
        cases n with
        | zero=>
          refine iteY (decide_eq_true (by omega)) ?_
          (try refine iteT ?_)
          exact⟨(by show 1≤sizeLine;omega),kn rfl _ s1⟩
        | succ n=>
        refine iteN (decide_eq_false (by omega)) ?_
        have pe:prs l R.rd (n+1) (x::r)=(ext l R.rd x r).bind fun e=>(many (prs l R.rd n) kk e.2).map fun m=>(bld x e.1 m.1,m.2):=by
          show(ar x).bind _=_
          rw[har];rfl
        rw[pe]at kn k
        have k2le:kk≤2:=by
          rcases d0d har with ⟨_,b⟩ | ⟨_,b⟩ | ⟨_,b⟩ | ⟨_,b⟩ | ⟨_,b⟩ | ⟨_,b⟩ | ⟨_,b⟩ | ⟨_,b⟩ <;>omega
        have hgr:∀y∈r,Gd 400 y:=fun y hy=>hg y (List.mem_cons_of_mem _ hy)
        refine⟨_,rfl,(by show 1≤sizeLine;omega),fun q nq=>?_⟩
        have t2:=a0d (o:=.tup [vT x]) nq
        have kq:upd H1 q (.tup [vT x]) q=some (.tup [vT x]):=a0b
        revert t2 kq
        generalize upd H1 q (.tup [vT x])=H2
        intro t2 kq
        have s2:=s1.trans (.of t2)
        have k2:=t2 _ _ k1
        have qa:q≠a:=fun e=>by rw[e,k2]at kq;cases kq
        have hk2:=t2 _ _ hk1
        show b0m 5 (.ref q) [some (.ref kp),some (vT l),some (.ref a),some (.int (z:Nat)),some (vT x),none,none] H2 _
        refine⟨_,rfl,rfl,_,rfl,?_⟩
        dsimp only
        refine(fun(key:∀(p:Addr) (es:List V) (e:Ex × List (List Nat)) H3,ext l R.rd x r=some e→(∀y∈e.2,Gd 400 y)→SameX a H H3→H3 a=some (.lst (e.2.reverse.map vT))→H3 p=some (.tup (vT x::es))→EVx e.1 es H3→(?F:L2.St→Hp→Prop) [some (.ref kp),some (vT l),some (.ref a),some (.int (z:Nat)),some (vT x),some (.ref p),none] H3)=>?main) ?rest
        case main=>
          refine iteS (fun h=>?_) (fun h=>?_)
          · have hx:x=nW:=b0x (h.trans nW_is)
            refine⟨_,rfl,_,rfl,_,rfl,a,r,rfl,k2,fun e=>kn (by rw[e,j0i hx];rfl) _ s2,fun y r2 e=>?_⟩
            have ee:ext l R.rd x r=(rdw l y).map fun z=>(.w z,r2):=by rw[e,g0z hx]
            subst e
            have s3:SameX a H (upd H2 a (.lst (r2.reverse.map vT))):=fun c u hc he=>by rw[a0v hc];exact s2 c u hc he
            refine⟨l,y,rfl,hgr y (List.mem_cons_self ..),fun w hw H3 s3'=>?_,fun hw H3 s3'=>kn (by rw[ee,hw];rfl) _ (s3.trans (.of s3'))⟩
            have kq3:H3 q=some (.tup [vT x]):=s3' _ _ (by rw[a0v qa];exact kq)
            have k3:H3 a=some (.lst (r2.reverse.map vT)):=s3' _ _ a0b
            refine⟨(by show 1≤sizeLine;omega),fun p np=>⟨q,p,_,_,rfl,rfl,a0d np _ _ kq3,a0b,(by show 1+1≤sizeLine;omega),fun p' H' s' hp'=>?_⟩⟩
            have t4:=(a0d (o:=.tup [vT w]) np).trans s'
            refine⟨_,rfl,rfl,_,rfl,?_⟩
            dsimp only
            refine iteS (fun h'=>absurd (b0x (h'.trans nT_is)) (by rw[hx];decide)) (fun _=>?_)
            exact key p' [vT w] (.w w,r2) H' (by rw[ee,hw];rfl) (fun y' hy'=>hgr y' (List.mem_cons_of_mem _ hy')) ((s3.trans (.of s3')).trans (.of t4)) (t4 _ _ k3) hp' rfl
          · refine⟨_,rfl,rfl,_,rfl,?_⟩
            dsimp only
            have xw:x≠nW:=fun z=>h (by rw[z];exact nW_is.symm)
            refine iteS (fun h2=>?_) (fun h2=>?_)
            · have hx:x=nT:=b0x (h2.trans nT_is)
              refine⟨_,rfl,_,rfl,_,_,_,rfl,hk2,R.l_read,_,rfl,a,r,rfl,k2,fun e=>kn (by rw[e,ext_tn xw hx];rfl) _ s2,fun y r2 e=>?_⟩
              have ee:ext l R.rd x r=(R.rd y).map fun d=>(.d d,r2):=by rw[e,j0j xw hx]
              subst e
              have s3:SameX a H (upd H2 a (.lst (r2.reverse.map vT))):=fun c u hc he=>by rw[a0v hc];exact s2 c u hc he
              refine⟨_,_,rfl,⟨kp,dx,rfl,by rw[a0v ka];exact hk2⟩,.inl ⟨y,rfl,hgr y (List.mem_cons_self ..),fun d hd u H3 s3' wv=>?_,fun hd H3 s3'=>kn (by rw[ee,hd];rfl) _ (s3.trans (.of s3'))⟩⟩
              have kq3:H3 q=some (.tup [vT x]):=s3' _ _ (by rw[a0v qa];exact kq)
              have k3:H3 a=some (.lst (r2.reverse.map vT)):=s3' _ _ a0b
              refine⟨(by show 1≤sizeLine;omega),fun p np=>⟨q,p,_,_,rfl,rfl,a0d np _ _ kq3,a0b,(by show 1+1≤sizeLine;omega),fun p' H' s' hp'=>?_⟩⟩
              have t4:=(a0d (o:=.tup [u]) np).trans s'
              exact key p' [u] (.d d,r2) H' (by rw[ee,hd];rfl) (fun y' hy'=>hgr y' (List.mem_cons_of_mem _ hy')) ((s3.trans (.of s3')).trans (.of t4)) (t4 _ _ k3) hp' ⟨u,rfl,wv.st t4.t⟩
            · have xt:x≠nT:=fun z=>h2 (by rw[z];exact nT_is.symm)
              exact key q [] (.no,r) H2 (i0f xw xt) hgr s2 k2 kq rfl
        case rest=>
          intro p es e H3 he hge s3 k3 kp3 he3
          rw[he]at kn k
          have va:valV (kvI wkv) (Sum.inr (tx x))=some (V.int ((kk:Nat):Int)):=by rw[wk_ar,har];rfl
          refine⟨_,rfl,_,_,rfl,rfl,va,_,rfl,(by omega),(by omega),e0p (lo:=0) (n:=((kk:Nat):Int).toNat) (fun i σ G=>∃(p':Addr) (us:List V) (ms:List Sy) (r3:List (List Nat)) (v6:Option V),σ=[some (.ref kp),some (vT l),some (.ref a),some (.int (z:Nat)),some (vT x),some (.ref p'),v6]∧SameX a H G∧G a=some (.lst (r3.reverse.map vT))∧(∀y∈r3,Gd 400 y)∧G p'=some (.tup ((vT x::es)++us))∧(us.length=i∧ms.length=i)∧(∀(j:Nat) u,us[j]? = some u→∃b,ms[j]? = some b∧SV b u G)∧EVx e.1 es G∧many (prs l R.rd n) kk e.2=(many (prs l R.rd n) (kk - i) r3).map fun m=>(ms++m.1,m.2)) ⟨p,[],[],e.2,_,rfl,s3,k3,hge,by rw[List.append_nil];exact kp3,⟨rfl,rfl⟩,(fun j u e=>by simp at e),he3,by simp⟩ ?_ ?_⟩
          · rintro i σ G hi ⟨p',us,ms,r3,v6,rfl,sG,kG,gG,kp',⟨lu,lm⟩,hu,heG,hm⟩
            have hi':i < kk:=by omega
            have e1:kk - i=(kk - (i+1))+1:=by omega
            rw[e1]at hm
            have pa:p'≠a:=fun e=>by rw[e,kG]at kp';cases kp'
            refine⟨_,rfl,_,rfl,_,rfl,_,rfl,_,rfl,_,_,rfl,rfl,R,.ref kp,l,a,r3,z+1,n,rfl,⟨⟨kp,dx,rfl,sG _ _ ka hk⟩,by omega,by omega,gG,kG⟩,fun hp H4 s4=>?_,fun sy rest hp v H4 s4 k4 sv4=>?_⟩
            · refine kn ?_ _ (sG.trans s4)
              show(many (prs l R.rd n) kk e.2).map _=none
              rw[hm]
              simp only[many,hp];rfl
            · have kp4:=s4 _ _ pa kp'
              have u4:=s4.tl kG
              have el:=heG.len
              refine⟨(by show 1≤sizeLine;omega),fun y ny=>⟨p',y,_,_,rfl,rfl,a0d ny _ _ kp4,a0b,?_,fun y' H' s' hy'=>?_⟩⟩
              · simp;omega
              · have t5:=(a0d (o:=.tup [v]) ny).trans s'
                refine⟨y',us++[v],ms++[sy],rest,_,rfl,(sG.trans s4).trans (.of t5),t5 _ _ k4,?_,?_,⟨by simp[lu],by simp[lm]⟩,?_,(heG.same u4).same t5.t,?_⟩
                · exact fun y hy=>gG y (prs_sub n r3 _ hp y hy)
                · rw[hy'];simp
                · intro j u ej
                  rcases Nat.lt_or_ge j us.length with lj | lj
                  · rw[List.getElem?_append_left lj]at ej
                    obtain⟨b,eb,sb⟩:=hu j u ej
                    exact⟨b,by rw[List.getElem?_append_left (by omega)];exact eb,(sb.same u4).same t5.t⟩
                  · rw[List.getElem?_append_right lj]at ej
                    have lx:=(List.getElem?_eq_some_iff.mp ej).1
                    rw[List.length_singleton]at lx
                    have ej':j=us.length:=by omega
                    rw[ej',Nat.sub_self]at ej
                    cases ej
                    exact⟨sy,by rw[ej',List.getElem?_append_right (by omega),lm,lu,Nat.sub_self];rfl,sv4.same t5.t⟩
                · rw[hm]
                  simp only[many,hp,Option.bind_some,Option.map_map]
                  congr 1
                  funext m
                  simp
          · rintro σ G ⟨p',us,ms,r3,v6,rfl,sG,kG,gG,kp',⟨lu,lm⟩,hu,heG,hm⟩
            have e0:kk - ((kk:Nat):Int).toNat=0:=by omega
            rw[e0]at hm
            have hm':many (prs l R.rd n) kk e.2=some (ms,r3):=by rw[hm];simp[many]
            have lk:ms.length=kk:=by omega
            have bo:=j0n har he lk
            refine⟨_,rfl,k (bld x e.1 ms) r3 ?_ _ _ sG kG ?_⟩
            · show(many (prs l R.rd n) kk e.2).map _=_
              rw[hm'];rfl
            · exact SV.mk (s:=bld x e.1 ms) (es:=es) (us:=us) (ev_bld har he lk heG) (by rw[bo.2];omega) (fun j u ej=>by rw[bo.2];exact hu j u ej) (by rw[bo.1];exact kp')
theorem c0x(T:Txt K mg t)(hW:WK w K mg aW):FnOk Pr w K mg base (CX1 Pr w) 20 t.p0n t.n0j ["kind","letters","pieces","high"] (spx_rdp w K mg base t 14):=okr_rdp T 14 hW
theorem ht_le{n:Nat}{s:Sy}(h:∀a∈ptS s,htS a≤n):htS s≤n+1:=by
  cases s with
  | nil=>show 1≤_;omega
  | word x=>show 1≤_;omega
  | times d a=>have:=h a (List.mem_singleton.mpr rfl);show htS a+1≤_;omega
  | one f a=>have:=h a (List.mem_singleton.mpr rfl);show htS a+1≤_;omega
  | two f a b=>
    have h1:=h a (List.mem_cons_self ..)
    have h2:=h b (List.mem_cons_of_mem _ (List.mem_singleton.mpr rfl))
    show max _ _+1≤_;omega
theorem many_all{f:List (List Nat)→Option (Sy × List (List Nat))}{P:Sy→Prop}(hf:∀r q,f r=some q→P q.1):∀{k:Nat} {r:List (List Nat)} {m:List Sy × List (List Nat)},many f k r=some m→∀a∈m.1,P a
  | 0,r,m,h=>by cases h;exact fun _ hy=>nomatch hy
  | k+1,r,m,h=>by
    simp only[many]at h
    cases hr:f r with
    | none=>rw[hr]at h;cases h
    | some q=>
      rw[hr]at h
      simp only[Option.bind_some]at h
      cases hm:many f k q.2 with
      | none=>rw[hm]at h;cases h
      | some m'=>
        rw[hm]at h
        cases h
        intro a ha
        rcases List.mem_cons.mp ha with rfl | ha
        · exact hf r q hr
        · exact many_all hf hm a ha
theorem prs_ht{l:List Nat}{rd:List Nat→Option PyData}:∀(n:Nat) (r:List (List Nat)) (q:Sy × List (List Nat)),prs l rd n r=some q→htS q.1≤n
  | 0,r,q,h=>by cases h
  | n+1,[],q,h=>by cases h
  | n+1,x::r,q,h=>by
    simp only[prs]at h
    cases ha:ar x with
    | none=>rw[ha]at h;cases h
    | some k=>
      rw[ha]at h
      simp only[Option.bind_some]at h
      cases he:ext l rd x r with
      | none=>rw[he]at h;cases h
      | some e=>
        rw[he]at h
        simp only[Option.bind_some]at h
        cases hm:many (prs l rd n) k e.2 with
        | none=>rw[hm]at h;cases h
        | some m=>
          rw[hm]at h
          cases h
          refine ht_le fun a ha'=>?_
          rw[(j0n ha he (h0h hm)).2]at ha'
          exact many_all (P:=fun a=>htS a≤n) (prs_ht n) hm a ha'
def wht(l:List Nat)(rd:List Nat→Option PyData)(ps:List (List Nat)):Option Sy:=
  match prs l rd 12 ps with
  | some (s,[])=>if pnS s≤40 then some s else none
  | _=>none
def spx_rdsay(w:World)(K:PySem.W.Frag)(mg:Str→Option Value)(base:Heap)(t:Adr):Sp:=fun vs H Q E=>∃(R:RX w K mg base t),∃kv l v,vs=[kv,vT l,v]∧KAt R.C R.fs H kv∧
  ((∃ps:List (List Nat),v=vT (jn [32] ps)∧(ps≠[]∧(∀x∈ps,Gd 400 x∧32 ∉ x)∧ps.length≤400)∧(wht l R.rd ps=none→∀H',Same H H'→E (.ref t.u0o) none H')∧(∀s,wht l R.rd ps=some s→∀u H',Same H H'→SV s u H'→Q u H'))∨
    (NoStr K v H∧E (.ref t.u0o) none H))
theorem tc1{x v:V}{H:Hp}{σ:L2.St}{Q:VK}(h:rSplit x [v] H Q):tCons (tC v) tNil σ H (fun xs H2=>rSplit x xs H2 Q):=h
theorem h0r(T:Txt K mg t)(hW:WK w K mg aW):FnOk Pr w K mg base (CX1 Pr w) 21 t.p0h t.n0u ["kind","letters","text"] (spx_rdsay w K mg base t):=by
  refine T.n0e.okx sc_read_saying (fun vs H Q E h=>?_) (fun cdv A outer s H vs Q E hr h=>?_)
  · obtain⟨R,kv,l,v,rfl,_⟩:=h
    rfl
  · obtain⟨R,kv,l,v,rfl,hk,h⟩:=h
    refine⟨_,(a0c (d0q (PEX.thru thru_cx (c0c (c0r T) hr.m rfl T.q0q T.p0z.kp T.p0f .nil (a0a (pv 2) a0e)))) (a0c (a0q (i:=3) sc_read_saying.nd rfl (Or.inl rfl) (pe_lrev rfl rfl T.z_list rfl T.z_reversed (a0a (g0k PySem.F.plainAttrs_str PySem.F.slot_str_split PySem.F.type_str_split mt_split (pv 2) (a0a a0h a0e)) a0e))) (a0c (a0q (i:=4) sc_read_saying.nd rfl (Or.inl rfl) (PEX.thru thru_cx (c0c (c0x T hW) hr.m rfl T.n0g T.n0f.kp T.n0n .nil (a0a (pv 0) (a0a (pv 1) (a0a (pv 3) (a0a a0f a0e))))))) (a0c (a0w (PW.pt (e0f (a0j h0p (a0x b0u (by rfl) T.z_len PySem.boot_len (a0a (pv 3) a0e)) a0f (a0o _)) (d0a (a0j h0p (a0n (c0y T hW) hr.m rfl T.m0p T.m0t.kp T.m0s .nil a0z (a0a (pv 4) a0e)) (b0q (v:=.int 40) rfl T.c_MOST_PARTS.choose_spec ⟨_,rfl⟩) (a0o _))))) (a0g (c0q thru_cx rfl T.t0l.ex rfl T.t0s (a0a a0h a0e))) a0m) (a0g (a0l (pv 4))))))),?_⟩
    rcases h with ⟨ps,rfl,⟨hne,hg,hl⟩,kn,k⟩ | ⟨hn,ke⟩
    case inr=>exact⟨_,rfl,_,rfl,.inr ⟨hn,ke⟩⟩
    refine⟨_,rfl,_,rfl,.inl ⟨_,rfl,?_⟩⟩
    have g:=jn_gd (sep:=[32]) (k:=400) (by decide) (fun x hx=>(hg x hx).1)
    have gl:ps.length * 401≤160400:=Nat.mul_le_mul_right 401 hl
    refine⟨_,rfl,rfl,tc1 (r_split (n:=160400) p1_is s1 (by decide) hne (fun x hx=>(hg x hx).2) (g.mono gl) (by decide) (by omega) fun a1 n1=>?_)⟩
    have t1:=a0d (o:=.lst (ps.map vT)) n1
    have k1:=a0b (H:=H) (a:=a1) (o:=.lst (ps.map vT))
    revert t1 k1
    generalize upd H a1 (.lst (ps.map vT))=H1
    intro t1 k1
    refine⟨a1,_,rfl,SqL.of k1,fun a2 n2=>?_⟩
    have t2:=a0d (o:=.lst (ps.map vT).reverse) n2
    have k2:=a0b (H:=H1) (a:=a2) (o:=.lst (ps.map vT).reverse)
    revert t2 k2
    generalize upd H1 a2 (.lst (ps.map vT).reverse)=H2
    intro t2 k2
    have n2':H a2=none:=by
      cases e:H a2 with
      | none=>rfl
      | some u=>rw[t1 _ _ e]at n2;cases n2
    have k2':H2 a2=some (.lst (ps.reverse.map vT)):=by rw[k2,List.map_reverse]
    have sx:∀H3,SameX a2 H2 H3→Same H H3:=fun H3 s3 c u hc=>s3 c u (fun e=>by rw[e,n2']at hc;cases hc) ((t1.trans t2) _ _ hc)
    obtain⟨kp,dx,rfl,hk⟩:=hk
    show b0m 3 (.ref a2) [some (.ref kp),some (vT l),some (vT (jn [32] ps)),none,none] H2 _
    refine⟨_,rfl,_,rfl,_,rfl,R,.ref kp,l,a2,ps,1,12,rfl,⟨⟨kp,dx,rfl,(t1.trans t2) _ _ hk⟩,by omega,by omega,fun x hx=>(hg x hx).1,k2'⟩,fun hp H3 s3=>kn (by rw[wht,hp]) _ (sx _ s3),fun sy rest hp v H3 s3 k3 sv=>?_⟩
    have s03:=sx _ s3
    have ht:=prs_ht _ _ _ hp
    have ln:LenV K (.ref a2) H3 rest.length:=.inl ⟨_,SqL.of k3,by simp⟩
    refine⟨_,rfl,_,_,rfl,ln,_,_,rfl,rfl,_,rfl,?_⟩
    dsimp only
    cases rest with
    | cons y rest=>
      refine iteY (decide_eq_true (by simp)) ?_
      (try refine iteT ?_)
      exact⟨(by show 1≤sizeLine;decide),kn (by rw[wht,hp]) _ s03⟩
    | nil=>
      refine iteN (by simp) ?_
      refine⟨_,rfl,sy,v,rfl,⟨sv,ht⟩,fun H4 s4=>?_⟩
      refine⟨_,_,rfl,rfl,_,rfl,?_⟩
      dsimp only
      by_cases h40:pnS sy≤40
      · refine iteN (by simp;omega) ?_
        exact⟨_,rfl,k sy (by rw[wht,hp];exact if_pos h40) _ _ (s03.trans s4) (sv.same s4.t)⟩
      · refine iteY (by simp;omega) ?_
        exact⟨(by show 1≤sizeLine;decide),kn (by rw[wht,hp];exact if_neg h40) _ (s03.trans s4)⟩
theorem e0w(T:Txt K mg t):FnOk Pr w K mg base CX0 1 t.p0k t.n0k ["_law_one","_law_other"] sp_divisor:=by
  refine T.n0m.ok sc_law_divisor (fun vs H Q E h=>?_) (fun cdv A outer s H vs Q E hr h=>?_)
  · obtain⟨a,b,rfl,_⟩:=h
    rfl
  · obtain⟨a,b,rfl,k⟩:=h
    refine⟨_,(a0c (h0f PassesOwn.never (a0j op_ne (pv 1) a0f (a0o _)) (a0g (ps_par (i:=0) (j:=1) rfl sc_law_divisor.nd rfl rfl (by decide) rfl rfl (a0a (pv 1) (a0a (a0t d0f (pv 0) (pv 1)) a0e)) rfl))) (a0g (a0l (a0x l0e (by rfl) T.z_abs boot_abs (a0a (pv 0) a0e))))),?_⟩
    refine⟨fun m σ H'=>∃x y,σ=[some (.int x),some (.int y)]∧m=y.natAbs∧dv x y=dv a b∧H'=H,⟨_,_,_,rfl,rfl,rfl,rfl⟩,?_⟩
    rintro m σ H' ⟨x,y,rfl,rfl,e,rfl⟩
    (repeat (first | apply Exists.intro | refine And.intro rfl ?_ | refine And.intro (by with_reducible assumption) ?_ | refine And.intro (SqT.of (by assumption)) ?_ | refine And.intro (SqL.of (by assumption)) ?_ | refine And.intro (TyOf.int _) ?_ | refine And.intro (TyOf.tup (by assumption)) ?_ | refine And.intro T.k_ii ?_ | refine And.intro T.k_ib ?_ | refine And.intro T.k_tt ?_ | refine And.intro T.k_bb ?_ | refine And.intro T.k_ss ?_ | refine And.intro T.nP ?_ | refine And.intro T.k_ts ?_ | refine And.intro T.k_ns ?_ | refine And.intro T.k_is ?_ | refine And.intro T.k_ls ?_ | refine And.intro T.eT ?_ | refine And.intro T.vT1 ?_ | refine And.intro T.kTT ?_ | refine And.intro T.kT1 ?_ | refine And.intro T.kT2 ?_))
    refine iteNI (fun h0=>?_) (fun h0=>?_)
    · refine⟨fun σ' H''=>∃x' y',σ'=[some (.int x'),some (.int y')]∧y'.natAbs < y.natAbs∧dv x' y'=dv a b∧H''=H',fun σ' H'' ⟨x',y',e1,e2,e3,e4⟩=>⟨_,e2,x',y',e1,rfl,e3,e4⟩,?_⟩
      refine⟨_,rfl,_,rfl,_,rfl,_,_,rfl,rfl,h0,_,_,rfl,?_⟩
      exact⟨_,_,rfl,fmod_abs_lt _ _ h0,l_turn e,rfl⟩
    · refine⟨_,rfl,_,rfl,?_⟩
      (try dsimp only)
      rw[out2 e h0]
      exact k
theorem fr_is{a b:Int}(pb:0 < b):a.fdiv (dv a b)=tp a b∧b.fdiv (dv a b)=bt a b:=by
  unfold tp bt
  rw[sg_pos (by omega)]
  exact⟨rfl,rfl⟩
theorem dv_sz{a b:Int}{n:Nat}(h:b.natAbs≤2 ^ n)(pb:0 < b):(dv a b).natAbs≤2 ^ n:=by
  have h1:=dv_le a b (by omega)
  have h2:=i0g a b
  omega
def sp_low:Sp:=fun vs H Q _=>∃a b,vs=[.int a,.int b]∧(a.natAbs≤2 ^ 100∧b.natAbs≤2 ^ 100∧0 < b)∧∀v H',Same H H'→WV H' v (.tuple [.int (tp a b),.int (bt a b)])→Q v H'
theorem ok_law_low(T:Txt K mg t):FnOk Pr w K mg base CX0 2 t.u0h t.s0q ["_law_top","_law_bottom"] sp_low:=by
  refine T.s0z.ok sc_law_low (fun vs H Q E h=>?_) (fun cdv A outer s H vs Q E hr h=>?_)
  · obtain⟨a,b,rfl,_⟩:=h
    rfl
  · obtain⟨a,b,rfl,⟨ha,hb,pb⟩,k⟩:=h
    have hd:CDivB a (dv a b):=⟨Int.ne_of_gt (dv_pos (by omega)),sz_log (dv_sz hb pb) (by decide)⟩
    have hd':CDivB b (dv a b):=hd
    refine⟨_,(a0c (a0q (i:=2) sc_law_low.nd rfl (Or.inl rfl) (a0n (e0w T) hr.m rfl T.n0h T.n0m.kp T.n0x .nil a0z (a0a (pv 0) (a0a (pv 1) a0e)))) (a0g (a0l (b0i (a0a (a0t d0r (pv 0) (pv 2)) (a0a (a0t d0r (pv 1) (pv 2)) a0e)))))),?_⟩
    (repeat (first | apply Exists.intro | refine And.intro rfl ?_ | refine And.intro (by with_reducible assumption) ?_ | refine And.intro (SqT.of (by assumption)) ?_ | refine And.intro (SqL.of (by assumption)) ?_ | refine And.intro (TyOf.int _) ?_ | refine And.intro (TyOf.tup (by assumption)) ?_ | refine And.intro T.k_ii ?_ | refine And.intro T.k_ib ?_ | refine And.intro T.k_tt ?_ | refine And.intro T.k_bb ?_ | refine And.intro T.k_ss ?_ | refine And.intro T.nP ?_ | refine And.intro T.k_ts ?_ | refine And.intro T.k_ns ?_ | refine And.intro T.k_is ?_ | refine And.intro T.k_ls ?_ | refine And.intro T.eT ?_ | refine And.intro T.vT1 ?_ | refine And.intro T.kTT ?_ | refine And.intro T.kT1 ?_ | refine And.intro T.kT2 ?_))
    refine⟨(by show 2≤sizeLine;decide),fun p hp=>?_⟩
    (try dsimp only)
    rw[(fr_is pb).1,(fr_is pb).2]
    exact k _ _ (a0d hp) ⟨_,rfl,a0b⟩
theorem eight8{r:Int}(h0:0≤r)(h1:r < 8):∃p:Int,atI ([2,3,5,7,11,101,65537,999983].map V.int) r=some (V.int p)∧2≤p∧p≤1000000∧isP p=true:=by
  rcases(by omega:r=0∨r=1∨r=2∨r=3∨r=4∨r=5∨r=6∨r=7)with rfl | rfl | rfl | rfl | rfl | rfl | rfl | rfl
  · exact⟨2,rfl,by decide,by decide,p2⟩
  · exact⟨3,rfl,by decide,by decide,p3⟩
  · exact⟨5,rfl,by decide,by decide,p5⟩
  · exact⟨7,rfl,by decide,by decide,p7⟩
  · exact⟨11,rfl,by decide,by decide,p11⟩
  · exact⟨101,rfl,by decide,by decide,p101⟩
  · exact⟨65537,rfl,by decide,by decide,p65537⟩
  · exact⟨999983,rfl,by decide,by decide,p999983⟩
def sp_sort(T:Txt K mg t):Sp:=fun vs H Q _=>∃(a:Addr),vs=[.ref a]∧Dr H a∧∀(R:RX w K mg base t) nm p v H',So T R nm p→SortAt H' v nm p→SameX a H H'→Dr H' a→Q v H'
theorem ok_law_sort(T:Txt K mg t):FnOk Pr w K mg base CX0 2 t.t0y t.r0f ["_law_state_here"] (sp_sort (w:=w) (base:=base) T):=by
  refine T.r0r.ok sc_law_sort (fun vs H Q E h=>?_) (fun cdv A outer s H vs Q E hr h=>?_)
  · obtain⟨a,rfl,_⟩:=h
    rfl
  · obtain⟨a,rfl,hD,k⟩:=h
    refine⟨_,(a0c (a0q (i:=1) sc_law_sort.nd rfl (Or.inl rfl) (b0b b0h (a0y (a0a a0f (a0a a0f (a0a a0f (a0a a0f (a0a a0f (a0a a0f (a0a a0f (a0a a0f a0e))))))))) (a0n (a0p T) hr.m rfl T.r0j T.r0t.kp T.r0w .nil a0z (a0a (pv 0) (a0a a0f a0e))) (fun _ _=>rfl))) (a0g (a0l (b0b b0h (a0y (a0a (b0i (a0a a0h (a0a a0f a0e))) (a0a (b0i (a0a a0h (a0a (pv 1) a0e))) (a0a (b0i (a0a a0h (a0a a0f a0e))) (a0a (b0i (a0a a0h (a0a a0f a0e))) a0e))))) (a0n (a0p T) hr.m rfl T.r0j T.r0t.kp T.r0w .nil a0z (a0a (pv 0) (a0a a0f a0e))) (fun _ _=>rfl))))),?_⟩
    refine⟨(by show 8≤sizeLine;decide),fun l0 h0=>?_⟩
    have e0:=a0d (o:=.lst ([2,3,5,7,11,101,65537,999983].map V.int)) h0
    have la:l0≠a:=fun e=>by obtain⟨xs,z⟩:=hD.lst;rw[← e,h0]at z;cases z
    refine⟨_,rfl,a,8,rfl,⟨hD.same e0,by decide,by decide⟩,fun r H1 s1 d1 r0 r1=>?_⟩
    obtain⟨p,ap,hp⟩:=eight8 r0 r1
    refine⟨_,_,_,_,rfl,rfl,SqL.of (s1 _ _ la a0b),ap,?_⟩
    have q1:SameX a H H1:=(SameX.of e0).trans s1
    refine⟨(by show 2≤sizeLine;decide),fun p1 n1=>⟨_,rfl,(by show 2≤sizeLine;decide),fun p2 n2=>⟨(by show 2≤sizeLine;decide),fun p3 n3=>⟨(by show 2≤sizeLine;decide),fun p4 n4=>⟨(by show 4≤sizeLine;decide),fun l nl=>?_⟩⟩⟩⟩⟩
    have t1:=a0d (o:=.tup [.str "fractions",.int 0]) n1
    have t2:=a0d (o:=.tup [.str "residues",.int p]) n2
    have t3:=a0d (o:=.tup [.str "costs",.int 0]) n3
    have t4:=a0d (o:=.tup [.str "truths",.int 0]) n4
    have t5:=a0d (o:=.lst [V.ref p1,.ref p2,.ref p3,.ref p4]) nl
    have tt:=(((t1.trans t2).trans t3).trans t4).trans t5
    have q2:=q1.trans (.of tt)
    have d2:=d1.same tt
    have f1:=(((t2.trans t3).trans t4).trans t5) _ _ (a0b (H:=H1) (a:=p1) (o:=.tup [.str "fractions",.int 0]))
    have f2:=((t3.trans t4).trans t5) _ _ (a0b (a:=p2) (o:=.tup [.str "residues",.int p]))
    have f3:=(t4.trans t5) _ _ (a0b (a:=p3) (o:=.tup [.str "costs",.int 0]))
    have f4:=t5 _ _ (a0b (a:=p4) (o:=.tup [.str "truths",.int 0]))
    have f5:=a0b (H:=upd (upd (upd (upd H1 p1 (.tup [.str "fractions",.int 0])) p2 (.tup [.str "residues",.int p])) p3 (.tup [.str "costs",.int 0])) p4 (.tup [.str "truths",.int 0])) (a:=l) (o:=.lst [V.ref p1,.ref p2,.ref p3,.ref p4])
    have ll:l≠a:=fun e=>by obtain⟨xs,z⟩:=(d1.same (((t1.trans t2).trans t3).trans t4)).lst;rw[← e,nl]at z;cases z
    refine⟨_,rfl,a,4,rfl,⟨d2,by decide,by decide⟩,fun wy H3 s3 d3 w0 w4=>?_⟩
    have u3:=s3.tt d2
    have q3:=q2.trans s3
    have f5':=s3 _ _ ll f5
    rcases(by omega:wy=0∨wy=1∨wy=2∨wy=3)with rfl | rfl | rfl | rfl
    · exact⟨_,_,_,_,rfl,rfl,SqL.of f5',rfl,k _ _ _ _ _ .fr ⟨p1,rfl,u3 _ _ f1⟩ q3 d3⟩
    · exact⟨_,_,_,_,rfl,rfl,SqL.of f5',rfl,k _ _ _ _ _ (.re p hp.1 hp.2.1 hp.2.2) ⟨p2,rfl,u3 _ _ f2⟩ q3 d3⟩
    · exact⟨_,_,_,_,rfl,rfl,SqL.of f5',rfl,k _ _ _ _ _ .co ⟨p3,rfl,u3 _ _ f3⟩ q3 d3⟩
    · exact⟨_,_,_,_,rfl,rfl,SqL.of f5',rfl,k _ _ _ _ _ .tr ⟨p4,rfl,u3 _ _ f4⟩ q3 d3⟩
def sp_kind(T:Txt K mg t):Sp:=fun vs H Q _=>∃(R:RX w K mg base t),∃nm p so,So T R nm p∧vs=[so]∧SortAt H so nm p∧∀v H',Same H H'→KAt R.C R.fs H' v→Q v H'
theorem ok_law_kind(T:Txt K mg t):FnOk Pr w K mg base CX0 4 t.t0q t.s0f ["_law_sort_here"] (sp_kind (w:=w) (base:=base) T):=by
  refine T.r0m.ok sc_law_kind (fun vs H Q E h=>?_) (fun cdv A outer s H vs Q E hr h=>?_)
  · obtain⟨R,nm,p,so,_,rfl,_⟩:=h
    rfl
  · obtain⟨R,nm,p,so,hS,rfl,⟨q,rfl,hq⟩,k⟩:=h
    refine⟨_,(a0c (a0w (a0j b0d (b0b b0e (pv 0) a0f (fun _ _=>rfl)) a0h (a0o _)) (a0g (a0l (k0d T.p0w rfl T.p0l))) a0m) (a0c (a0w (a0j b0d (b0b b0e (pv 0) a0f (fun _ _=>rfl)) a0h (a0o _)) (a0g (a0l (pe_make T.q0v (e0t T) hr.m rfl T.s0g T.l0k .nil a0z (a0a (b0b b0e (pv 0) a0f (fun _ _=>rfl)) a0e)))) a0m) (a0c (a0w (a0j b0d (b0b b0e (pv 0) a0f (fun _ _=>rfl)) a0h (a0o _)) (a0g (a0l (k0d T.u0k rfl T.u0g))) a0m) (a0g (a0l (k0d T.t0z rfl T.t0p)))))),?_⟩
    cases hS with
    | fr=>
      refine⟨_,rfl,_,_,_,_,rfl,rfl,SqT.of hq,rfl,rfl,_,rfl,?_⟩
      rw[show decide (V.str ("fractions":Str)=V.str ("fractions":Str))=true by decide +kernel]
      refine iteT ?_
      intro x dx nx ndx nex
      exact k _ _ (f0m nx ndx) ⟨_,_,rfl,a0b⟩
    | re p hp hq' hi=>
      refine⟨_,rfl,_,_,_,_,rfl,rfl,SqT.of hq,rfl,rfl,_,rfl,?_⟩
      rw[show decide (V.str ("residues":Str)=V.str ("fractions":Str))=false by decide +kernel]
      refine iteF ?_
      refine⟨_,rfl,_,_,_,_,rfl,rfl,SqT.of hq,rfl,rfl,_,rfl,?_⟩
      rw[show decide (V.str ("residues":Str)=V.str ("residues":Str))=true by decide +kernel]
      refine iteT ?_
      refine⟨_,rfl,_,_,_,_,rfl,rfl,SqT.of hq,rfl,fun x dx nx ndx nex=>⟨x,dx,_,rfl,⟨hp,hq',hi⟩,a0b,rfl,?_⟩⟩
      rw[upd_upd]
      exact k _ _ (f0m nx ndx) ⟨_,_,rfl,a0b⟩
    | co=>
      refine⟨_,rfl,_,_,_,_,rfl,rfl,SqT.of hq,rfl,rfl,_,rfl,?_⟩
      rw[show decide (V.str ("costs":Str)=V.str ("fractions":Str))=false by decide +kernel]
      refine iteF ?_
      refine⟨_,rfl,_,_,_,_,rfl,rfl,SqT.of hq,rfl,rfl,_,rfl,?_⟩
      rw[show decide (V.str ("costs":Str)=V.str ("residues":Str))=false by decide +kernel]
      refine iteF ?_
      refine⟨_,rfl,_,_,_,_,rfl,rfl,SqT.of hq,rfl,rfl,_,rfl,?_⟩
      rw[show decide (V.str ("costs":Str)=V.str ("costs":Str))=true by decide +kernel]
      refine iteT ?_
      intro x dx nx ndx nex
      exact k _ _ (f0m nx ndx) ⟨_,_,rfl,a0b⟩
    | tr=>
      refine⟨_,rfl,_,_,_,_,rfl,rfl,SqT.of hq,rfl,rfl,_,rfl,?_⟩
      rw[show decide (V.str ("truths":Str)=V.str ("fractions":Str))=false by decide +kernel]
      refine iteF ?_
      refine⟨_,rfl,_,_,_,_,rfl,rfl,SqT.of hq,rfl,rfl,_,rfl,?_⟩
      rw[show decide (V.str ("truths":Str)=V.str ("residues":Str))=false by decide +kernel]
      refine iteF ?_
      refine⟨_,rfl,_,_,_,_,rfl,rfl,SqT.of hq,rfl,rfl,_,rfl,?_⟩
      rw[show decide (V.str ("truths":Str)=V.str ("costs":Str))=false by decide +kernel]
      refine iteF ?_
      intro x dx nx ndx nex
      exact k _ _ (f0m nx ndx) ⟨_,_,rfl,a0b⟩
def nts(p1:Addr):List (Key × V):=[(Sum.inr "fractions",.ref p1),(Sum.inr "residues",.int 0),(Sum.inr "costs",.non),(Sum.inr "truths",.bl false)]
theorem nts_fr(p1:Addr):valV (c0n [] (nts p1)) (Sum.inr "fractions")=some (.ref p1):=by kernel_rfl
theorem nts_re(p1:Addr):valV (c0n [] (nts p1)) (Sum.inr "residues")=some (.int 0):=by kernel_rfl
theorem nts_co(p1:Addr):valV (c0n [] (nts p1)) (Sum.inr "costs")=some .non:=by kernel_rfl
theorem nts_tr(p1:Addr):valV (c0n [] (nts p1)) (Sum.inr "truths")=some (.bl false):=by kernel_rfl
def ntD:Int→PyData
  | 0=>.tuple [.int 0,.int 1]
  | 1=>.int 0
  | 2=>.none
  | _=>.bool false
def sp_lnought(T:Txt K mg t):Sp:=fun vs H Q _=>∃(R:RX w K mg base t),∃nm p so,So T R nm p∧vs=[so]∧SortAt H so nm p∧∀v H',Same H H'→WV H' v (ntD R.way)→Q v H'
theorem k0i(T:Txt K mg t):FnOk Pr w K mg base CX0 1 t.r0o t.o0k ["_law_sort_here"] (sp_lnought (w:=w) (base:=base) T):=by
  refine T.n0z.ok k0a (fun vs H Q E h=>?_) (fun cdv A outer s H vs Q E hr h=>?_)
  · obtain⟨R,nm,p,so,_,rfl,_⟩:=h
    rfl
  · obtain⟨R,nm,p,so,hS,rfl,⟨q,rfl,hq⟩,k⟩:=h
    refine⟨_,(a0g (a0l (pe_dget (hu_of hr) (pe_disp (b0s a0h (b0i (a0a a0f (a0a a0f a0e))) (b0s a0h a0f (b0s a0h b0v (b0s a0h e0h pps_nil)))) rfl rfl (fun h=>by cases h) (by decide)) (b0b b0e (pv 0) a0f (fun _ _=>rfl)) (fun _ _=>rfl)))),?_⟩
    intro d nd
    refine⟨(by show 2≤sizeLine;decide),fun p1 n1=>?_⟩
    have s1:=a0d (o:=.dK []) nd
    have s2:=a0d (o:=.tup [.int 0,.int 1]) n1
    have nd1:p1≠d:=fun e=>by rw[e,a0b]at n1;cases n1
    have s3:Same H (upd (upd (upd H d (.dK [])) p1 (.tup [.int 0,.int 1])) d (.dK (c0n [] (nts p1)))):=fun b o e=>by
      rw[a0v (a0s e nd)]
      exact(s1.trans s2) _ _ e
    refine⟨s2 _ _ a0b,nts p1,rfl,(by show 4≤15;decide),?_⟩
    refine⟨_,rfl,_,_,_,_,rfl,rfl,SqT.of (s3 _ _ hq),rfl,?_⟩
    have g:=DGet.k (H:=upd (upd (upd H d (.dK [])) p1 (.tup [.int 0,.int 1])) d (.dK (c0n [] (nts p1)))) (k:=Sum.inr nm) a0b
    cases hS with
    | fr=>
      rw[nts_fr]at g
      exact⟨_,_,rfl,g,k _ _ s3 ⟨p1,rfl,by rw[a0v nd1,a0b]⟩⟩
    | re p hp hq' hi=>
      rw[nts_re]at g
      exact⟨_,_,rfl,g,k _ _ s3 rfl⟩
    | co=>
      rw[nts_co]at g
      exact⟨_,_,rfl,g,k _ _ s3 rfl⟩
    | tr=>
      rw[nts_tr]at g
      exact⟨_,_,rfl,g,k _ _ s3 rfl⟩
def sp_lweight(T:Txt K mg t):Sp:=fun vs H Q _=>∃(R:RX w K mg base t),∃nm p,∃(a:Addr),∃so,So T R nm p∧vs=[.ref a,so]∧(Dr H a∧SortAt H so nm p)∧∀v H' d,SameX a H H'→Dr H' a→WV H' v d→WQ R.way R.p d→Q v H'
theorem Dr.ne{H:Hp}{a l:Addr}(d:Dr H a)(n:H l=none):l≠a:=fun e=>by
  obtain⟨xs,z⟩:=d.lst
  rw[← e,n]at z
  cases z
theorem nt_wq(T:Txt K mg t){R:RX w K mg base t}{nm:Str}{p:Int}(h:So T R nm p):WQ R.way R.p (ntD R.way):=by
  cases h with
  | fr=>exact .inl ⟨rfl,0,1,rfl,by decide,by decide,by decide,by decide +kernel⟩
  | re p hp hq hi=>exact .inr (.inl ⟨rfl,0,rfl,Int.le_refl _,by show(0:Int) < p;omega,hq⟩)
  | co=>exact .inr (.inr (.inl ⟨rfl,.inl rfl⟩))
  | tr=>exact .inr (.inr (.inr ⟨rfl,_,rfl⟩))
theorem k0h(T:Txt K mg t):FnOk Pr w K mg base CX0 3 t.q0z t.o0b ["_law_state_here","_law_sort_here"] (sp_lweight (w:=w) (base:=base) T):=by
  refine T.o0x.ok j0z (fun vs H Q E h=>?_) (fun cdv A outer s H vs Q E hr h=>?_)
  · obtain⟨R,nm,p,a,so,_,rfl,_⟩:=h
    rfl
  · obtain⟨R,nm,p,a,so,hS,rfl,⟨hD,hso⟩,k⟩:=h
    refine⟨_,(a0c (a0w (a0j b0d (a0n (a0p T) hr.m rfl T.r0j T.r0t.kp T.r0w .nil a0z (a0a (pv 0) (a0a a0f a0e))) a0f (a0o _)) (a0g (a0l (a0n (k0i T) hr.m rfl T.o0w T.n0z.kp T.o0t .nil a0z (a0a (pv 1) a0e)))) a0m) (a0c (a0w (a0j b0d (b0b b0e (pv 1) a0f (fun _ _=>rfl)) a0h (a0o _)) (a0g (a0l (a0n (ok_law_low T) hr.m rfl T.t0g T.s0z.kp T.t0b .nil a0z (a0a (a0t g0x (a0n (a0p T) hr.m rfl T.r0j T.r0t.kp T.r0w .nil a0z (a0a (pv 0) (a0a a0f a0e))) a0f) (a0a (a0t b0t a0f (a0n (a0p T) hr.m rfl T.r0j T.r0t.kp T.r0w .nil a0z (a0a (pv 0) (a0a a0f a0e)))) a0e))))) a0m) (a0c (a0w (a0j b0d (b0b b0e (pv 1) a0f (fun _ _=>rfl)) a0h (a0o _)) (a0g (a0l (a0n (a0p T) hr.m rfl T.r0j T.r0t.kp T.r0w .nil a0z (a0a (pv 0) (a0a (b0b b0e (pv 1) a0f (fun _ _=>rfl)) a0e))))) a0m) (a0c (a0w (a0j b0d (b0b b0e (pv 1) a0f (fun _ _=>rfl)) a0h (a0o _)) (a0g (a0l (a0t g0x (a0n (a0p T) hr.m rfl T.r0j T.r0t.kp T.r0w .nil a0z (a0a (pv 0) (a0a a0f a0e))) a0f))) a0m) (a0g (a0l (h0n h0p (a0n (a0p T) hr.m rfl T.r0j T.r0t.kp T.r0w .nil a0z (a0a (pv 0) (a0a a0f a0e))) a0f (a0o _)))))))),?_⟩
    refine⟨_,rfl,a,6,rfl,⟨hD,by decide,by decide⟩,fun r1 H1 s1 d1 a1 b1=>⟨rfl,_,rfl,?_⟩⟩
    have u1:=s1.tt hD
    have hso1:=hso.same u1
    refine iteI (fun _=>?_) (fun _=>?_)
    · exact⟨_,rfl,R,nm,p,so,hS,rfl,hso1,fun v H2 s2 wv=>k v H2 _ (s1.trans (.of s2)) (d1.same s2) wv (nt_wq T hS)⟩
    · obtain⟨q,rfl,hq⟩:=hso1
      refine⟨_,rfl,_,_,_,_,rfl,rfl,SqT.of hq,rfl,rfl,_,rfl,?_⟩
      cases hS with
      | fr=>
        rw[show decide (V.str ("fractions":Str)=V.str ("fractions":Str))=true by decide +kernel]
        refine iteT ?_
        refine⟨_,rfl,a,9,rfl,⟨d1,by decide,by decide⟩,fun r2 H2 s2 d2 a2 b2=>?_⟩
        refine⟨_,_,rfl,rfl,_,rfl,a,3,rfl,⟨d2,by decide,by decide⟩,fun r3 H3 s3 d3 a3 b3=>?_⟩
        refine⟨_,_,rfl,rfl,_,_,rfl,⟨Nat.le_trans (show(r2 - 4).natAbs≤8 by omega) (by decide),Nat.le_trans (show(1+r3).natAbs≤8 by omega) (by decide),by omega⟩,fun v H' s' wv=>?_⟩
        have z30:(8:Nat) < 10 ^ 30:=by decide
        exact k v H' _ (((s1.trans s2).trans s3).trans (.of s')) (d3.same s') wv (.inl ⟨rfl,_,_,rfl,Nat.lt_of_le_of_lt (tp_le (by omega)) (Nat.lt_of_le_of_lt (show(r2 - 4).natAbs≤8 by omega) z30),Nat.lt_of_le_of_lt (bt_le (by omega)) (Nat.lt_of_le_of_lt (show(1+r3).natAbs≤8 by omega) z30),bt_pos (by omega),low (by omega)⟩)
      | re p hp hq' hi=>
        rw[show decide (V.str ("residues":Str)=V.str ("fractions":Str))=false by decide +kernel]
        refine iteF ?_
        refine⟨_,rfl,_,_,_,_,rfl,rfl,SqT.of hq,rfl,rfl,_,rfl,?_⟩
        rw[show decide (V.str ("residues":Str)=V.str ("residues":Str))=true by decide +kernel]
        refine iteT ?_
        refine⟨_,rfl,_,rfl,_,_,_,_,rfl,rfl,SqT.of hq,rfl,a,p,rfl,⟨d1,by omega,by omega⟩,fun r2 H2 s2 d2 a2 b2=>?_⟩
        exact k _ _ (.int r2) (s1.trans s2) d2 rfl (.inr (.inl ⟨rfl,_,rfl,a2,b2,hq'⟩))
      | co=>
        rw[show decide (V.str ("costs":Str)=V.str ("fractions":Str))=false by decide +kernel]
        refine iteF ?_
        refine⟨_,rfl,_,_,_,_,rfl,rfl,SqT.of hq,rfl,rfl,_,rfl,?_⟩
        rw[show decide (V.str ("costs":Str)=V.str ("residues":Str))=false by decide +kernel]
        refine iteF ?_
        refine⟨_,rfl,_,_,_,_,rfl,rfl,SqT.of hq,rfl,rfl,_,rfl,?_⟩
        rw[show decide (V.str ("costs":Str)=V.str ("costs":Str))=true by decide +kernel]
        refine iteT ?_
        refine⟨_,rfl,a,9,rfl,⟨d1,by decide,by decide⟩,fun r2 H2 s2 d2 a2 b2=>?_⟩
        refine⟨_,_,rfl,rfl,?_⟩
        exact k _ _ (.int (r2 - 2)) (s1.trans s2) d2 rfl (.inr (.inr (.inl ⟨rfl,.inr ⟨_,rfl,Nat.lt_of_le_of_lt (show(r2 - 2).natAbs≤8 by omega) (by decide)⟩⟩)))
      | tr=>
        rw[show decide (V.str ("truths":Str)=V.str ("fractions":Str))=false by decide +kernel]
        refine iteF ?_
        refine⟨_,rfl,_,_,_,_,rfl,rfl,SqT.of hq,rfl,rfl,_,rfl,?_⟩
        rw[show decide (V.str ("truths":Str)=V.str ("residues":Str))=false by decide +kernel]
        refine iteF ?_
        refine⟨_,rfl,_,_,_,_,rfl,rfl,SqT.of hq,rfl,rfl,_,rfl,?_⟩
        rw[show decide (V.str ("truths":Str)=V.str ("costs":Str))=false by decide +kernel]
        refine iteF ?_
        refine⟨_,rfl,a,4,rfl,⟨d1,by decide,by decide⟩,fun r2 H2 s2 d2 a2 b2=>?_⟩
        refine⟨_,_,rfl,rfl,?_⟩
        exact k _ _ (.bool _) (s1.trans s2) d2 rfl (.inr (.inr (.inr ⟨rfl,_,rfl⟩)))
def sp_lshown(T:Txt K mg t):Sp:=fun vs H Q _=>∃(R:RX w K mg base t),∃nm p so x d,So T R nm p∧vs=[so,x]∧(SortAt H so nm p∧WV H x d∧WQ R.way R.p d)∧∀H',Same H H'→Q (vT (wl d)) H'
theorem f0g(T:Txt K mg t):FnOk Pr w K mg base CX0 1 t.m0e t.l0q ["_law_sort_here","_law_x"] (sp_lshown (w:=w) (base:=base) T):=by
  refine T.l0o.ok e0y (fun vs H Q E h=>?_) (fun cdv A outer s H vs Q E hr h=>?_)
  · obtain⟨R,nm,p,so,x,d,_,rfl,_⟩:=h
    rfl
  · obtain⟨R,nm,p,so,x,d,hS,rfl,⟨⟨q,rfl,hq⟩,hx,hd⟩,k⟩:=h
    have z40:1000 < sizeLine:=by decide
    have wb:=hd.wb
    have k:∀H',Same H H'→Q (.str (wrt d)) H':=fun H' s'=>by
      have:=k H' s'
      rw[vT,wl_tx]at this
      exact this
    refine⟨_,(a0c (a0w (a0j b0d (b0b b0e (pv 0) a0f (fun _ _=>rfl)) a0h (a0o _)) (a0g (a0l (b0b b0h (a0y (a0a a0h (a0a a0h a0e))) (b0y call_int1 (by rfl) T.z_int boot_int (a0a (pv 1) a0e)) (fun _ _=>rfl)))) a0m) (a0c (a0w (a0j j0d (pv 1) b0v (a0o _)) (a0g (a0l a0h)) a0m) (a0c (a0w (a0j op_ne (b0b b0e (pv 0) a0f (fun _ _=>rfl)) a0h (a0o _)) (a0g (a0l (b0y d0c (by rfl) T.z_str boot_str (a0a (pv 1) a0e)))) a0m) (a0c (a0w (a0j b0d (b0b b0e (pv 1) a0f (fun _ _=>rfl)) a0f (a0o _)) (a0g (a0l (b0y d0c (by rfl) T.z_str boot_str (a0a (b0b b0e (pv 1) a0f (fun _ _=>rfl)) a0e)))) a0m) (a0g (a0l (a0t c0t (a0t c0t (b0y d0c (by rfl) T.z_str boot_str (a0a (b0b b0e (pv 1) a0f (fun _ _=>rfl)) a0e)) a0h) (b0y d0c (by rfl) T.z_str boot_str (a0a (b0b b0e (pv 1) a0f (fun _ _=>rfl)) a0e))))))))),?_⟩
    refine⟨_,rfl,_,_,_,_,rfl,rfl,SqT.of hq,rfl,rfl,_,rfl,?_⟩
    cases hS with
    | fr=>
      rcases wb with ⟨_,a,b,rfl,ha,hb⟩ | ⟨z,_⟩ | ⟨z,_⟩ | ⟨z,_⟩ <;>try (exact absurd z (by show ¬(0:Int)=_;decide))
      obtain⟨px,rfl,hp⟩:=hx
      have k:=k H (Same.refl _)
      rw[wrt]at k
      have la:=ts_len ha
      have lb:=ts_len hb
      have l1:(Str.ofString "/").length=1:=rfl
      rw[show decide (V.str ("fractions":Str)=V.str ("truths":Str))=false by decide +kernel]
      refine iteF ?_
      refine⟨_,rfl,rfl,_,rfl,?_⟩
      (try refine iteF ?_)
      refine⟨_,rfl,_,_,_,_,rfl,rfl,SqT.of hq,rfl,rfl,_,rfl,?_⟩
      rw[show decide (V.str ("fractions":Str)=V.str ("fractions":Str))=true by decide +kernel]
      (try refine iteF ?_)
      refine⟨_,rfl,_,_,_,_,rfl,rfl,SqT.of hp,rfl,rfl,_,rfl,?_⟩
      dsimp only
      refine iteI (fun h=>?_) (fun h=>?_)
      · rw[if_pos h]at k
        exact⟨_,rfl,_,_,_,_,rfl,rfl,SqT.of hp,rfl,_,rfl,f0t ha,k⟩
      · rw[if_neg h]at k
        refine⟨_,rfl,_,_,_,_,rfl,rfl,SqT.of hp,rfl,_,rfl,f0t ha,_,_,rfl,rfl,by show(ts a).length+_≤_;omega,?_⟩
        refine⟨_,rfl,_,_,_,_,rfl,rfl,SqT.of hp,rfl,_,rfl,f0t hb,_,_,rfl,rfl,by show(ts a++_).length+(ts b).length≤_;rw[Str.len_app];omega,?_⟩
        exact k
    | re p hp hq' hi=>
      rcases wb with ⟨z,_⟩ | ⟨_,a,rfl,ha⟩ | ⟨z,_⟩ | ⟨z,_⟩ <;>try (exact absurd z (by show ¬(1:Int)=_;decide))
      obtain rfl:x=_:=hx
      rw[show decide (V.str ("residues":Str)=V.str ("truths":Str))=false by decide +kernel]
      refine iteF ?_
      refine⟨_,rfl,rfl,_,rfl,?_⟩
      (try refine iteF ?_)
      refine⟨_,rfl,_,_,_,_,rfl,rfl,SqT.of hq,rfl,rfl,_,rfl,?_⟩
      rw[show decide (V.str ("residues":Str)=V.str ("fractions":Str))=false by decide +kernel]
      (try refine iteT ?_)
      exact⟨_,rfl,_,rfl,f0t ha,k H (Same.refl _)⟩
    | co=>
      rw[show decide (V.str ("costs":Str)=V.str ("truths":Str))=false by decide +kernel]
      refine iteF ?_
      rcases wb with ⟨z,_⟩ | ⟨z,_⟩ | ⟨_,rfl | ⟨a,rfl,ha⟩⟩ | ⟨z,_⟩ <;>try (exact absurd z (by show ¬(2:Int)=_;decide))
      · obtain rfl:x=_:=hx
        refine⟨_,rfl,rfl,_,rfl,?_⟩
        (try refine iteT ?_)
        exact k H (Same.refl _)
      · obtain rfl:x=_:=hx
        refine⟨_,rfl,rfl,_,rfl,?_⟩
        (try refine iteF ?_)
        refine⟨_,rfl,_,_,_,_,rfl,rfl,SqT.of hq,rfl,rfl,_,rfl,?_⟩
        rw[show decide (V.str ("costs":Str)=V.str ("fractions":Str))=false by decide +kernel]
        (try refine iteT ?_)
        exact⟨_,rfl,_,rfl,f0t ha,k H (Same.refl _)⟩
    | tr=>
      rcases wb with ⟨z,_⟩ | ⟨z,_⟩ | ⟨z,_⟩ | ⟨_,b,rfl⟩ <;>try (exact absurd z (by show ¬(3:Int)=_;decide))
      obtain rfl:x=_:=hx
      rw[show decide (V.str ("truths":Str)=V.str ("truths":Str))=true by decide +kernel]
      refine iteT ?_
      refine⟨(by show 2≤sizeLine;decide),fun l0 n0=>?_⟩
      refine⟨_,rfl,.inr ⟨b,rfl,_,_,_,_,rfl,rfl,SqL.of a0b,?_,k _ (a0d n0)⟩⟩
      cases b <;>rfl
theorem comp_goI{J:It}{n k:Nat}{g:TG}{tc:TT}{te:TE}{σ:L2.St}{Q:VK}{H1:Hp}(Pv:Nat→List V→Hp→Prop)(hn:n≤10000)(h0:Pv 0 [] H1)(hl:∀i ys H,Pv i ys H→ys.length≤i)
    (hgo:∀i ys H,i < n→Pv i ys H→J.go i H∧∀x H',J.yld i H x H'→g x (σ++List.replicate k none) H' fun σ2 H2=>(∃zs,σ2=σ++zs∧zs.length=k)∧tc σ2 H2 fun b H3=>if b=true then te σ2 H3 fun v H4=>Pv (i+1) (ys++[v]) H4 else Pv (i+1) ys H3)
    (hstop:∀ys H,Pv n ys H→J.stop n H) (hend:∀ys H p,Pv n ys H→H p=none→Q (.ref p) (upd H p (.lst ys))) :
    CTailI J k g tc te σ Q H1:=by
  have z:10000 < sizeLine:=by decide
  refine⟨fun i m ys H=>m=n - i∧i≤n∧Pv i ys H,⟨n,rfl,Nat.zero_le _,h0⟩,?_⟩
  rintro i m ys H ⟨rfl,hi,p⟩
  have yl:=hl i ys H p
  by_cases hlt:i < n
  · obtain⟨a,b⟩:=hgo i ys H hlt p
    refine .inr ⟨a,by omega,fun x H' y=>?_⟩
    have c:=b x H' y
    have e1:∀ys H3,(∃m',m' < n - i∧m'=n - (i+1)∧i+1≤n∧Pv (i+1) ys H3)=Pv (i+1) ys H3:=fun ys H3=>propext ⟨fun⟨_,_,_,_,q⟩=>q,fun q=>⟨_,by omega,rfl,hlt,q⟩⟩
    simp only[e1]
    exact c
  · have e:i=n:=by omega
    subst e
    exact .inl ⟨hstop ys H p,by omega,fun q nq=>hend ys H q p nq⟩
def azs:List Nat:=[97,98,99,100,101,102,103,104,105,106,107,108,109,110,111,112,113,114,115,116,117,118,119,120,121,122]
theorem az_is:(Str.ofString "abcdefghijklmnopqrstuvwxyz")=tx azs:=by decide +kernel
theorem az_at{r:Int}(h0:0≤r)(h1:r < 26):∃c,atI (tx azs).cps.toList r=some c∧97≤c∧c≤122:=by
  obtain⟨i,rfl⟩:∃i:Nat,r=(i:Int):=⟨r.toNat,by omega⟩
  have hi:i < azs.length:=by show i < 26;omega
  have hc:azs[i]? = some azs[i]:=List.getElem?_eq_getElem hi
  have all:∀c∈azs,97≤c∧c≤122:=by decide
  refine⟨azs[i],?_,all _ (List.getElem_mem hi)⟩
  have e:(tx azs).cps.toList=azs:=by simp[tx]
  rw[e]
  exact c0e hc
theorem jn_sing:∀ls:List Nat,jn [] (ls.map fun c=>[c])=ls
  | []=>rfl
  | [a]=>rfl
  | a::b::ls=>by
    have:=jn_sing (b::ls)
    rw[List.map_cons,k0v (by simp),this];rfl
def sp_lletters:Sp:=fun vs H Q _=>∃(a:Addr),vs=[.ref a,.int 3]∧Dr H a∧∀l H',SameX a H H'→Dr H' a→Lt l→Q (vT l) H'
theorem i0r(T:Txt K mg t):FnOk Pr w K mg base CX0 2 t.p0t t.m0y ["_law_state_here","_law_most"] sp_lletters:=by
  refine T.n0t.ok sc_law_letters (fun vs H Q E h=>?_) (fun cdv A outer s H vs Q E hr h=>?_)
  · obtain⟨a,rfl,_⟩:=h
    rfl
  · obtain⟨a,rfl,hD,k⟩:=h
    have zl:10000 < sizeLine:=by decide
    refine⟨_,(a0c (a0q (i:=2) sc_law_letters.nd rfl (Or.inl rfl) a0h) (a0c (a0q (i:=3) sc_law_letters.nd rfl (Or.inl rfl) (a0n (a0p T) hr.m rfl T.r0j T.r0t.kp T.r0w .nil a0z (a0a (pv 0) (a0a a0f a0e)))) (a0c (a0q (i:=4) sc_law_letters.nd rfl (Or.inr rfl) (b0b j0g (pv 2) (pv 3) (fun _ _=>rfl))) (a0c (e0g PassesOwn.never rfl (d0i rfl T.z_range (a0a (a0n (a0p T) hr.m rfl T.r0j T.r0t.kp T.r0w .nil a0z (a0a (pv 0) (a0a (pv 1) a0e))) a0e)) (b0p (i:=5) sc_law_letters.nd rfl (Or.inl rfl)) (a0g (a0q (i:=4) sc_law_letters.nd rfl (Or.inr rfl) (a0t c0t (pv 4) (b0b j0g (pv 2) (a0t d0f (a0t b0t (a0t b0t (pv 3) a0f) (a0t op_mul (pv 5) (a0t b0t a0f (a0n (a0p T) hr.m rfl T.r0j T.r0t.kp T.r0w .nil a0z (a0a (pv 0) (a0a a0f a0e)))))) a0f) (fun _ _=>rfl)))))) (a0g (a0l (g0k PySem.F.plainAttrs_str PySem.F.slot_str_join PySem.F.type_str_join mt_join a0h (a0a (pe_compif (xs:=["_law_at","_law_sign"]) rfl (show d0v ["_law_state_here","_law_most","_law_some","_law_first","_law_letters_here","_law_k"] (a0k c0p) _ from⟨rfl,by decide +kernel,by decide +kernel,by decide +kernel,by decide +kernel,by decide +kernel⟩) (pi_enum rfl T.z_enumerate (a0a (pv 4) a0e)) (fun _ _ _ _ _=>(show PG _ _ (gTup K 2 _)from(pg_tup rfl (pgs_cons (b0p (i:=6) (by show List.Nodup (["_law_state_here","_law_most","_law_some","_law_first","_law_letters_here","_law_k","_law_at","_law_sign"]:List Str);decide +kernel) rfl (Or.inl rfl)) (pgs_cons (b0p (i:=7) (by show List.Nodup (["_law_state_here","_law_most","_law_some","_law_first","_law_letters_here","_law_k","_law_at","_law_sign"]:List Str);decide +kernel) rfl (Or.inl rfl)) pgs_nil))))) (fun _ _ _ _ _=>(a0j e0j (pv 7) (b0c g0t (pv 4) b0j (b0g (pv 6))) (by with_unfolding_all rfl))) (fun _ _ _ _ _=>(pv 7))) a0e)))))))),?_⟩
    rw[az_is]
    refine⟨_,rfl,a,26,rfl,⟨hD,by decide,by decide⟩,fun r1 H1 s1 d1 a1 b1=>?_⟩
    obtain⟨c1,ac1,hc1⟩:=az_at a1 b1
    refine⟨_,rfl,_,rfl,_,_,_,rfl,rfl,(by rw[a0u];show 26≤_;omega),ac1,?_⟩
    refine⟨_,rfl,_,rfl,a,3,rfl,⟨d1,by decide,by decide⟩,fun r2 H2 s2 d2 a2 b2=>?_⟩
    have ht:r2.toNat≤2:=by omega
    have t1:(⟨#[c1]⟩:Str)=tx [c1]:=rfl
    refine⟨_,rfl,(by omega),(by omega),e0p (lo:=0) (n:=r2.toNat) (fun i σ G=>∃(l:List Nat) (v5:Option V),σ=[some (.ref a),some (.int 3),some (.str (tx azs)),some (.int r1),some (vT l),v5]∧SameX a H G∧Dr G a∧l.length=1+i∧∀c∈l,97≤c∧c≤122) ⟨[c1],_,rfl,s1.trans s2,d2,rfl,fun c hc=>by rw[List.mem_singleton.mp hc];exact hc1⟩ ?_ ?_⟩
    · rintro i σ G hi ⟨l,v5,rfl,sG,dG,ll,hl⟩
      refine⟨_,rfl,_,rfl,_,rfl,_,_,rfl,rfl,_,rfl,_,rfl,a,11,rfl,⟨dG,by decide,by decide⟩,fun r3 G3 s3 d3 a3 b3=>?_⟩
      have m0:0≤(r1+1+(0+(i:Int)) * (1+r3)).fmod 26:=Int.fmod_nonneg_of_pos _ (by decide)
      have m1:(r1+1+(0+(i:Int)) * (1+r3)).fmod 26 < 26:=Int.fmod_lt_of_pos _ (by decide)
      obtain⟨c3,ac3,hc3⟩:=az_at m0 m1
      refine⟨_,_,rfl,rfl,_,_,rfl,rfl,.inl ⟨by omega,by omega⟩,_,_,rfl,rfl,_,_,rfl,rfl,(by show(26:Int)≠0;decide),_,_,_,rfl,rfl,(by rw[a0u];show 26≤_;omega),ac3,_,_,rfl,rfl,(by rw[a0u];show _+1≤_;omega),?_⟩
      have ea:tx l++(⟨#[c3]⟩:Str)=tx (l++[c3]):=i0z l [c3]
      rw[ea]
      refine⟨l++[c3],some (.int (0+(i:Int))),rfl,sG.trans s3,d3,by rw[List.length_append,ll];show _+1=_;omega,fun c hc=>?_⟩
      · rcases List.mem_append.mp hc with hc | hc
        · exact hl c hc
        · rw[List.mem_singleton.mp hc];exact hc3
    · rintro σ G ⟨l,v5,rfl,sG,dG,ll,hl⟩
      refine⟨rfl,_,rfl,.str (tx l),_,_,rfl,rfl,rfl,comp_goI (n:=l.length) (fun j ys G2=>SameX a G G2∧Dr G2 a∧∃ls:List Nat,ys=(ls.map fun c=>[c]).map vT∧ls.length≤j∧(0 < j→ls≠[])∧∀c∈ls,c∈l) (by omega) ⟨SameX.refl _ _,dG,[],rfl,Nat.le_refl _,(fun z=>absurd z (by decide)),(fun c hc=>nomatch hc)⟩ (fun j ys G2 ⟨_,_,ls,e,hj,_⟩=>by rw[e,List.length_map,List.length_map];exact hj) ?_ ?_ ?_⟩
      · rintro j ys G2 hj ⟨sG2,dG2,ls,rfl,lj,l0,lm⟩
        have ec:l[j]? = some l[j]:=List.getElem?_eq_getElem hj
        have es:(L2.i0l (tx l))[j]? = some (vT [l[j]]):=by
          simp only[L2.i0l,tx,List.getElem?_map]
          rw[ec];rfl
        refine⟨⟨_,_,rfl,es⟩,fun x G3 hy=>?_⟩
        obtain⟨p,x2,rfl,np,rfl,hx⟩:=hy
        have:=hx _ rfl
        rw[es]at this
        cases this
        have e3:=a0d (o:=.tup [V.int j,vT [l[j]]]) np
        refine⟨p,_,rfl,SqT.of a0b,rfl,_,_,rfl,_,_,rfl,rfl,⟨[some _,some _],rfl,rfl⟩,?_⟩
        refine⟨_,rfl,_,rfl,_,rfl,?_⟩
        refine⟨_,rfl,_,rfl,(by rw[a0u];omega),_,_,rfl,rfl,_,rfl,?_⟩
        dsimp only
        rw[sl_to (p:=l) (q:=(j:Int)) (by omega) (by omega),show((j:Int)).toNat=j by omega,in_l]
        by_cases h:l[j]∈l.take j
        rotate_left
        · refine iteY (by rw[decide_eq_false h];rfl) ?_
          refine⟨_,rfl,sG2.trans (.of e3),dG2.same e3,ls++[l[j]],by simp,by rw[List.length_append];show _+1≤_;omega,fun _=>by simp,fun c hc=>?_⟩
          rcases List.mem_append.mp hc with hc | hc
          · exact lm c hc
          · rw[List.mem_singleton.mp hc];exact List.getElem_mem hj
        · refine iteN (by rw[decide_eq_true h];rfl) ?_
          refine⟨sG2.trans (.of e3),dG2.same e3,ls,rfl,by omega,fun _=>?_,lm⟩
          refine l0 (Nat.pos_of_ne_zero fun z=>?_)
          subst z
          exact nomatch h
      · rintro ys G2 ⟨sG2,dG2,ls,rfl,lj,l0,lm⟩
        exact⟨_,rfl,by simp[L2.i0l,tx]⟩
      · rintro ys G2 p ⟨sG2,dG2,ls,rfl,lj,l0,lm⟩ np
        have e2:=a0d (o:=.lst ((ls.map fun c=>[c]).map vT)) np
        refine r_join (sep:=[]) (k:=1) e0m ?_ ?_ (SqL.of a0b) ?_
        · intro x hx
          obtain⟨c,_,rfl⟩:=List.mem_map.mp hx
          exact Nat.le_refl _
        · rw[List.length_map];show ls.length * (1+0)≤_;omega
        · rw[jn_sing]
          exact k _ _ (sG.trans (sG2.trans (.of e2))) (dG2.same e2) ⟨l0 (by omega),by omega,fun c hc=>hl c (lm c hc)⟩
theorem hd_n{s:Sy}(h:hdS s=nN):s=.nil:=by
  cases s with
  | nil=>rfl
  | word x=>exact absurd (show nW=nN from h) (by decide)
  | times d a=>exact absurd (show nT=nN from h) (by decide)
  | one f a=>cases f <;>exact absurd (show n1 _=nN from h) (by decide)
  | two f a b=>rcases e0r f with e | e | e <;>exact absurd (e.symm.trans (show n2 f=nN from h)) (by decide)
def h0j(T:Txt K mg t)(n:Nat):Sp:=fun vs H Q _=>∃(R:RX w K mg base t),∃nm p so v l s,So T R nm p∧vs=[so,v]∧(SortAt H so nm p∧SV s v H∧Lt l∧OkS l R.way R.p s∧htS s≤n∧pnS s≤40)∧∀q H',Same H H'→H' q=some (.lst ((pcS s).map vT))→Q (.ref q) H'
theorem j0e(T:Txt K mg t):∀(n:Nat) {w:World} {base:Heap},FnOk Pr w K mg base CX0 (n+3) t.s0p t.q0n ["_law_sort_here","_law_saying_here"] (h0j (w:=w) (base:=base) T n)
  | 0,w,base=>by
    refine T.p0x.ok sc_law_texts (fun vs H Q E h=>?_) (fun cdv A outer s H vs Q E hr h=>?_)
    · obtain⟨R,nm,p,so,v,l,s,_,rfl,_⟩:=h
      rfl
    · obtain⟨R,nm,p,so,v,l,s,_,rfl,⟨_,_,_,_,h0,_⟩,_⟩:=h
      have:=ht_pos s
      omega
  | n+1,w,base=>by
    have d0b:∀{w:World} {base:Heap} (T:Txt K mg t),FnOk Pr w K mg base CX0 (n+3) t.s0p t.q0n ["_law_sort_here","_law_saying_here"] (h0j (w:=w) (base:=base) T n):=fun T=>j0e T n
    refine T.p0x.ok sc_law_texts (fun vs H Q E h=>?_) (fun cdv A outer s H vs Q E hr h=>?_)
    · obtain⟨R,nm,p,so,v,l,s,_,rfl,_⟩:=h
      rfl
    · obtain⟨R,nm,p,so,v,l,s,hS,rfl,⟨hso,hv,L,o,hh,hp40⟩,k⟩:=h
      refine⟨_,(a0c (a0w (a0j b0d (b0b b0e (pv 1) a0f (fun _ _=>rfl)) a0h (a0o _)) (a0g (a0l (a0y (a0a a0h a0e)))) a0m) (a0c (a0w (a0j b0d (b0b b0e (pv 1) a0f (fun _ _=>rfl)) a0h (a0o _)) (a0g (a0l (a0y (a0a a0h (a0a (b0b b0h (a0y (a0a (b0b b0e (pv 1) a0f (fun _ _=>rfl)) (a0a a0h a0e))) (b0y call_int1 (by rfl) T.z_int boot_int (a0a (h0n b0d (b0b b0e (pv 1) a0f (fun _ _=>rfl)) a0h (a0o _)) a0e)) (fun _ _=>rfl)) a0e))))) a0m) (a0c (a0w (a0j b0d (b0b b0e (pv 1) a0f (fun _ _=>rfl)) a0h (a0o _)) (a0g (a0l (a0t c0w (a0y (a0a a0h (a0a (a0n (f0g T) (hr.mono (by omega)) rfl T.l0n T.l0o.kp T.l0r .nil a0z (a0a (pv 0) (a0a (b0b b0e (pv 1) a0f (fun _ _=>rfl)) a0e))) a0e))) (a0n (d0b T) (hr.mono (by omega)) rfl T.q0g T.p0x.kp T.q0i .nil a0z (a0a (pv 0) (a0a (b0b b0e (pv 1) a0f (fun _ _=>rfl)) a0e)))))) a0m) (a0c (a0q (i:=2) sc_law_texts.nd rfl (Or.inl rfl) (a0y (a0a (b0b b0e (pv 1) a0f (fun _ _=>rfl)) a0e))) (a0c (e0g PassesOwn.never rfl (pi_tup (b0c sl_tupA (pv 1) (b0g a0f) b0j)) (b0p (i:=3) sc_law_texts.nd rfl (Or.inl rfl)) (a0g (a0q (i:=2) sc_law_texts.nd rfl (Or.inl rfl) (a0t c0w (pv 2) (a0n (d0b T) (hr.mono (by omega)) rfl T.q0g T.p0x.kp T.q0i .nil a0z (a0a (pv 0) (a0a (pv 3) a0e))))))) (a0g (a0l (pv 2)))))))),?_⟩
      have zl:10000 < sizeLine:=by decide
      obtain⟨p',es,us,rfl,hp,le,lu,hu⟩:=hv.look
      obtain⟨x1,x2⟩:=ex_len s
      have pcl:=g0w s
      have e0:atI ((vT (hdS s)::es)++us) 0=some (vT (hdS s)):=c0e (show((vT (hdS s)::es)++us)[0]? = some (vT (hdS s))from rfl)
      refine⟨_,rfl,_,_,_,_,rfl,rfl,SqT.of hp,e0,rfl,_,rfl,?_⟩
      dsimp only
      refine iteS (fun h=>?_) (fun g1=>?_)
      · cases hd_n (b0x (h.trans i0s))
        refine⟨(by show 1≤sizeLine;omega),fun q nq=>?_⟩
        rw[i0s]
        exact k _ _ (a0d nq) a0b
      refine⟨_,rfl,_,_,_,_,rfl,rfl,SqT.of hp,e0,rfl,_,rfl,?_⟩
      dsimp only
      refine iteS (fun h=>?_) (fun g2=>?_)
      · obtain⟨x,rfl⟩:=hd_w (b0x (h.trans nW_is))
        obtain⟨p2,e,hp'⟩:=id hv
        cases e
        have ea:atI [vT x,V.str (Str.ofString "-")] (if decide (vT x=V.str (Str.ofString ""))=true then 1 else 0)=some (vT (shW x)):=by
          by_cases z:x=[]
          · subst z
            rw[decide_eq_true (show vT []=V.str (Str.ofString "") by rw[e0m];rfl),if_pos rfl,mi_is];rfl
          · have nz:decide (vT x=V.str (Str.ofString ""))=false:=decide_eq_false fun h=>z (b0x ((V.str.inj h).trans e0m))
            rw[nz,show shW x=x from if_neg z];rfl
        refine⟨_,rfl,_,_,_,_,rfl,rfl,SqT.of hp',rfl,(by show 2≤sizeLine;omega),fun l0 n0=>?_⟩
        have t0:=a0d (o:=.lst [vT x,V.str (Str.ofString "-")]) n0
        refine⟨_,rfl,_,_,_,_,rfl,rfl,SqT.of (t0 _ _ hp'),rfl,rfl,.inr ⟨_,rfl,_,_,_,_,rfl,rfl,SqL.of a0b,ea,(by show 2≤sizeLine;omega),fun q nq=>?_⟩⟩
        rw[nW_is]
        exact k _ _ (t0.trans (a0d nq)) a0b
      refine⟨_,rfl,_,_,_,_,rfl,rfl,SqT.of hp,e0,rfl,_,rfl,?_⟩
      dsimp only
      refine iteS (fun h=>?_) (fun g3=>?_)
      · obtain⟨d,a,rfl⟩:=hd_t (b0x (h.trans nT_is))
        obtain⟨p2,u,y,e,hp',hu',hy'⟩:=id hv
        cases e
        refine⟨_,rfl,_,rfl,_,_,_,_,rfl,rfl,SqT.of hp',rfl,R,nm,p,so,u,d,hS,rfl,⟨hso,hu',o.1⟩,fun H1 s1=>?_⟩
        refine⟨(by show 2≤sizeLine;omega),fun q nq=>?_⟩
        have t1:=a0d (o:=.lst [V.str (Str.ofString "times"),vT (wl d)]) nq
        rw[nT_is]at t1 ⊢
        have ha:=ht_pt (s:=.times d a) (a:=a) (List.mem_singleton.mpr rfl)
        have hn:=pn_le (s:=.times d a) (a:=a) (List.mem_singleton.mpr rfl)
        have pca:=g0w a
        refine⟨_,rfl,_,rfl,_,_,_,_,rfl,rfl,SqT.of ((s1.trans t1) _ _ hp'),rfl,R,nm,p,so,y,l,a,hS,rfl,⟨hso.same (s1.trans t1).t,hy'.same (s1.trans t1).t,L,o.2,by omega,by omega⟩,fun q2 H2 s2 k2=>?_⟩
        refine⟨_,_,_,_,rfl,rfl,s2 _ _ a0b,k2,(by rw[List.length_map];show 2+_≤_;omega),fun q3 n3=>?_⟩
        exact k _ _ ((s1.trans t1).trans (s2.trans (a0d n3))) a0b
      have ex:=ex_nil (fun z=>g2 (by rw[z];exact nW_is.symm)) (fun z=>g3 (by rw[z];exact nT_is.symm))
      have es0:es=[]:=List.eq_nil_of_length_eq_zero (by rw[le,ex];rfl)
      subst es0
      have hp:H p'=some (.tup (vT (hdS s)::us)):=hp
      have e0:atI (vT (hdS s)::us) 0=some (vT (hdS s)):=e0
      refine⟨_,rfl,_,_,_,_,rfl,rfl,SqT.of hp,e0,(by show 1≤sizeLine;omega),fun q nq=>?_⟩
      have t1:=a0d (o:=.lst [vT (hdS s)]) nq
      have k1:upd H q (.lst [vT (hdS s)]) q=some (.lst (([hdS s]).map vT)):=a0b
      revert t1 k1
      generalize upd H q (.lst [vT (hdS s)])=H1
      intro t1 k1
      show b0m 2 (.ref q) [some so,some (.ref p'),none,none] H1 _
      refine⟨_,rfl,_,rfl,p',_,rfl,SqT.of (t1 _ _ hp),t1 _ _ hp,fun p3 H2 s2 h2=>?_⟩
      have ec:cutV (vT (hdS s)::us) (some (1:Int)) none=us:=cut_drop (k:=1) (xs:=vT (hdS s)::us) (by simp)
      rw[ec]at h2
      refine⟨p3,rfl,⟨_,SqT.of h2⟩,for_it (n:=us.length) (fun i σ G=>∃q v3,σ=[some so,some (.ref p'),some (.ref q),v3]∧Same H2 G∧Same H G∧G q=some (.lst ((hdS s::((ptS s).take i).flatMap pcS).map vT))) ⟨q,_,rfl,Same.refl _,t1.trans s2,s2 _ _ k1⟩ ?_ ?_⟩
      · rintro i σ G hi ⟨q,v3,rfl,sG2,sG,hq⟩
        have ei:us[i]? = some us[i]:=List.getElem?_eq_getElem hi
        obtain⟨a,ea,sa⟩:=hu i _ ei
        refine⟨⟨_,_,SqT.of (sG2 _ _ h2),ei⟩,fun x H' hy=>?_⟩
        obtain⟨rfl,hy⟩:=hy
        have:=hy _ (SqT.of (sG2 _ _ h2))
        rw[ei]at this;cases this
        have ma:=List.mem_of_getElem? ea
        have ha:=ht_pt ma
        have hn:=pn_le ma
        have pca:=g0w a
        have lt:(hdS s::((ptS s).take i).flatMap pcS).length≤(pcS s).length:=by
          have e:=congrArg (fun l:List Sy=>(l.flatMap pcS).length) (List.take_append_drop i (ptS s))
          rw[pcS_eq s,ex]
          simp only[List.flatMap_append,List.length_append]at e
          show _+1≤([hdS s]++(ptS s).flatMap pcS).length
          rw[List.length_append]
          show _≤1+_
          omega
        refine⟨_,rfl,_,rfl,_,rfl,R,nm,p,so,us[i],l,a,hS,rfl,⟨hso.same sG.t,sa.same sG.t,L,ok_pt o ma,by omega,by omega⟩,fun q2 G2 s2' k2=>?_⟩
        refine⟨_,_,_,_,rfl,rfl,s2' _ _ hq,k2,(by rw[List.length_map,List.length_map];omega),fun q3 n3=>?_⟩
        have t3:=s2'.trans (a0d (o:=.lst (((hdS s::((ptS s).take i).flatMap pcS).map vT)++(pcS a).map vT)) n3)
        refine⟨q3,_,rfl,sG2.trans t3,sG.trans t3,?_⟩
        rw[a0b,List.take_add_one,ea]
        simp
      · rintro σ G ⟨q,v3,rfl,sG2,sG,hq⟩
        refine⟨⟨_,SqT.of (sG2 _ _ h2),Nat.le_refl _⟩,_,rfl,k _ _ sG ?_⟩
        rw[hq,pcS_eq s,ex,List.take_of_length_le (by omega)]
        rfl
theorem d0b(T:Txt K mg t):FnOk Pr w K mg base CX0 15 t.s0p t.q0n ["_law_sort_here","_law_saying_here"] (h0j (w:=w) (base:=base) T 12):=j0e T 12
def pB:Nat→Nat
  | 0=>1
  | 1=>3
  | 2=>7
  | 3=>15
  | _=>31
theorem pB_pos(n:Nat):1≤pB n:=by
  unfold pB
  split <;>omega
theorem pB_up(m:Nat)(h:m+1≤4):1+pB m≤pB (m+1):=by
  rcases(by omega:m=0∨m=1∨m=2∨m=3)with rfl | rfl | rfl | rfl <;>decide
theorem pB_up2(m:Nat)(h:m+1≤4):1+(pB m+pB m)≤pB (m+1):=by
  rcases(by omega:m=0∨m=1∨m=2∨m=3)with rfl | rfl | rfl | rfl <;>decide
theorem iteD{p:Prop} [Decidable p]{A B:Prop}(a:p→A)(b:¬p→B):if decide p=true then A else B:=by
  by_cases h:p
  · exact iteY (decide_eq_true h) (a h)
  · exact iteN (decide_eq_false h) (b h)
def sp_lsay(T:Txt K mg t)(n:Nat):Sp:=fun vs H Q _=>∃(R:RX w K mg base t),∃nm p a so l,∃(m:Nat),So T R nm p∧vs=[.ref a,so,vT l,.int (m:Int)]∧(Dr H a∧SortAt H so nm p∧Lt l∧m < n∧m≤4)∧∀s v H',SameX a H H'→Dr H' a→SV s v H'→OkS l R.way R.p s→htS s≤m+1→pnS s≤pB m→Q v H'
theorem okr_lsay(T:Txt K mg t):∀(n:Nat) {w:World} {base:Heap},FnOk Pr w K mg base CX0 (n+5) t.r0k t.n0y ["_law_state_here","_law_sort_here","_law_letters_here","_law_deep"] (sp_lsay (w:=w) (base:=base) T n)
  | 0,w,base=>by
    refine T.o0r.ok sc_law_saying (fun vs H Q E h=>?_) (fun cdv A outer s H vs Q E hr h=>?_)
    · obtain⟨R,nm,p,a,so,l,m,_,rfl,_⟩:=h
      rfl
    · obtain⟨R,nm,p,a,so,l,m,_,rfl,⟨_,_,_,h0,_⟩,_⟩:=h
      omega
  | n+1,w,base=>by
    have c0s:∀{w:World} {base:Heap} (T:Txt K mg t),FnOk Pr w K mg base CX0 (n+5) t.r0k t.n0y ["_law_state_here","_law_sort_here","_law_letters_here","_law_deep"] (sp_lsay (w:=w) (base:=base) T n):=fun T=>okr_lsay T n
    refine T.o0r.ok sc_law_saying (fun vs H Q E h=>?_) (fun cdv A outer s H vs Q E hr h=>?_)
    · obtain⟨R,nm,p,a,so,l,m,_,rfl,_⟩:=h
      rfl
    · obtain⟨R,nm,p,a,so,l,m,hS,rfl,⟨hD,hso,L,hm,h5⟩,k⟩:=h
      refine⟨_,(a0c (a0q (i:=4) sc_law_saying.nd rfl (Or.inl rfl) (a0n (a0p T) (hr.mono (by omega)) rfl T.r0j T.r0t.kp T.r0w .nil a0z (a0a (pv 0) (a0a a0f a0e)))) (a0c (a0w (PW.pt (e0f (a0j b0d (pv 3) a0f (a0o _)) (d0a (a0j k0f (pv 4) a0f (a0o _))))) (a0c (a0w (a0j b0d (a0n (a0p T) (hr.mono (by omega)) rfl T.r0j T.r0t.kp T.r0w .nil a0z (a0a (pv 0) (a0a a0f a0e))) a0f (a0o _)) (a0g (a0l (b0i (a0a a0h a0e)))) a0m) (a0c (a0q (i:=5) sc_law_saying.nd rfl (Or.inl rfl) a0h) (a0c (e0g PassesOwn.never rfl (d0i rfl T.z_range (a0a (a0n (a0p T) (hr.mono (by omega)) rfl T.r0j T.r0t.kp T.r0w .nil a0z (a0a (pv 0) (a0a a0f a0e))) a0e)) (b0p (i:=6) sc_law_saying.nd rfl (Or.inl rfl)) (a0g (a0q (i:=5) sc_law_saying.nd rfl (Or.inl rfl) (a0t c0t (pv 5) (b0b j0g (pv 2) (a0n (a0p T) (hr.mono (by omega)) rfl T.r0j T.r0t.kp T.r0w .nil a0z (a0a (pv 0) (a0a (a0x b0u (by rfl) T.z_len PySem.boot_len (a0a (pv 2) a0e)) a0e))) (fun _ _=>rfl)))))) (a0g (a0l (b0i (a0a a0h (a0a (pv 5) a0e)))))))) a0m) (a0c (a0q (i:=7) sc_law_saying.nd rfl (Or.inl rfl) (a0n (c0s T) (hr.mono (by omega)) rfl T.p0c T.o0r.kp T.o0z .nil a0z (a0a (pv 0) (a0a (pv 1) (a0a (pv 2) (a0a (a0t g0x (pv 3) a0f) a0e)))))) (a0c (a0w (a0j k0f (pv 4) a0f (a0o _)) (a0g (a0l (b0i (a0a a0h (a0a (a0n (k0h T) (hr.mono (by omega)) rfl T.o0y T.o0x.kp T.o0a .nil a0z (a0a (pv 0) (a0a (pv 1) a0e))) (a0a (pv 7) a0e)))))) a0m) (a0c (a0w (a0j k0f (pv 4) a0f (a0o _)) (a0g (a0l (b0i (a0a (b0b b0h (a0y (a0a a0h (a0a a0h (a0a a0h a0e)))) (a0t g0x (pv 4) a0f) (fun _ _=>rfl)) (a0a (pv 7) a0e))))) a0m) (a0g (a0l (b0i (a0a (b0b b0h (a0y (a0a a0h (a0a a0h (a0a a0h (a0a a0h a0e))))) (a0t g0x (pv 4) a0f) (fun _ _=>rfl)) (a0a (pv 7) (a0a (a0n (c0s T) (hr.mono (by omega)) rfl T.p0c T.o0r.kp T.o0z .nil a0z (a0a (pv 0) (a0a (pv 1) (a0a (pv 2) (a0a (a0t g0x (pv 3) a0f) a0e))))) a0e))))))))))),?_⟩
      have zl:10000 < sizeLine:=by decide
      refine⟨_,rfl,a,11,rfl,⟨hD,by decide,by decide⟩,fun r1 H1 s1 d1 a1 b1=>?_⟩
      show b0m 4 (.int r1) [some (.ref a),some so,some (vT l),some (.int (m:Int)),none,none,none,none] H1 _
      refine(fun(key1:(?F:L2.St→Hp→Prop) [some (.ref a),some so,some (vT l),some (.int (m:Int)),some (.int r1),none,none,none] H1) (key2:0 < m→(?G:L2.St→Hp→Prop) [some (.ref a),some so,some (vT l),some (.int (m:Int)),some (.int r1),none,none,none] H1)=>?main) ?r1 ?r2
      case main=>
        refine⟨_,rfl,rfl,_,rfl,?_⟩
        dsimp only
        by_cases z:m=0
        · refine iteY (by subst z;rfl) ?_
          (try refine iteT ?_)
          exact key1
        · refine iteN (decide_eq_false fun e=>z (by have:=V.int.inj e;omega)) ?_
          refine⟨_,rfl,_,_,rfl,rfl,_,rfl,?_⟩
          dsimp only
          refine iteD (fun h=>?_) (fun h=>?_)
          · (try refine iteT ?_)
            exact key1
          · (try refine iteF ?_)
            exact key2 (by omega)
      case r1=>
        refine⟨_,rfl,a,5,rfl,⟨d1,by decide,by decide⟩,fun r2 H2 s2 d2 a2 b2=>?_⟩
        refine⟨rfl,_,rfl,?_⟩
        dsimp only
        have s12:=s1.trans s2
        by_cases z:r2=0
        · refine iteY (by subst z;rfl) ?_
          refine⟨(by show 1≤sizeLine;omega),fun q nq=>?_⟩
          rw[i0s]
          have e:=a0d (o:=.tup [V.str (tx nN)]) nq
          exact k .nil _ _ (s12.trans (.of e)) (d2.same e) ⟨q,rfl,a0b⟩ trivial (by show 1≤_;omega) (pB_pos _)
        · refine iteN (decide_eq_false fun e=>z (V.int.inj e)) ?_
          refine⟨_,rfl,a,4,rfl,⟨d2,by decide,by decide⟩,fun r3 H3 s3 d3 a3 b3=>?_⟩
          refine⟨_,rfl,(by omega),(by omega),e0p (lo:=0) (n:=r3.toNat) (fun i σ G=>∃(x:List Nat) (v6:Option V),σ=[some (.ref a),some so,some (vT l),some (.int (m:Int)),some (.int r1),some (vT x),v6,none]∧SameX a H G∧Dr G a∧x.length=i∧∀c∈x,c∈l) ⟨[],_,rfl,s12.trans s3,d3,rfl,fun c hc=>nomatch hc⟩ ?_ ?_⟩
          · rintro i σ G hi ⟨x,v6,rfl,sG,dG,xl,hx⟩
            have l3:=L.l3
            have l1:=List.length_pos_iff.mpr L.ne
            have ln:LenV K (vT l) G l.length:=⟨by rw[a0u];omega,(a0u l).symm⟩
            refine⟨_,rfl,_,rfl,_,rfl,_,rfl,_,_,rfl,ln,a,_,rfl,⟨dG,by omega,by omega⟩,fun r4 G4 s4 d4 a4 b4=>?_⟩
            obtain⟨j,rfl⟩:∃j:Nat,r4=(j:Int):=⟨r4.toNat,by omega⟩
            have hj:j < l.length:=by omega
            have ec:l[j]? = some l[j]:=List.getElem?_eq_getElem hj
            have ac:atI (tx l).cps.toList (j:Int)=some l[j]:=by
              rw[show(tx l).cps.toList=l by simp[tx]]
              exact c0e ec
            refine⟨_,_,_,rfl,rfl,(by rw[a0u];omega),ac,_,_,rfl,rfl,(by rw[a0u];show _+1≤_;omega),?_⟩
            have ea:tx x++(⟨#[l[j]]⟩:Str)=tx (x++[l[j]]):=i0z x [l[j]]
            rw[ea]
            refine⟨x++[l[j]],some (.int (0+(i:Int))),rfl,sG.trans s4,d4,by rw[List.length_append,xl];rfl,fun c hc=>?_⟩
            rcases List.mem_append.mp hc with hc | hc
            · exact hx c hc
            · rw[List.mem_singleton.mp hc];exact List.getElem_mem hj
          · rintro σ G ⟨x,v6,rfl,sG,dG,xl,hx⟩
            refine⟨_,rfl,(by show 2≤sizeLine;omega),fun q nq=>?_⟩
            rw[nW_is]
            have e:=a0d (o:=.tup [V.str (tx nW),vT x]) nq
            exact k (.word x) _ _ (sG.trans (.of e)) (dG.same e) ⟨q,rfl,a0b⟩ ⟨by omega,hx⟩ (by show 1≤_;omega) (pB_pos _)
      case r2=>
        intro m0
        obtain⟨m,rfl⟩:∃m',m=m'+1:=⟨m - 1,by omega⟩
        have em:(((m+1:Nat):Int) - 1)=(m:Int):=by omega
        have hso1:=hso.same (s1.tt hD)
        refine⟨_,rfl,_,rfl,_,rfl,_,rfl,_,_,rfl,rfl,R,nm,p,a,so,l,m,hS,(by show [_,_,_,V.int (((m+1:Nat):Int) - 1)]=_;rw[em]),⟨d1,hso1,L,by omega,by omega⟩,fun x2 v2 H2 s2 d2 sv2 ok2 ht2 pn2=>?_⟩
        show b0m 7 v2 [some (.ref a),some so,some (vT l),some (.int ((m+1:Nat):Int)),some (.int r1),none,none,none] H2 _
        have hso2:=hso1.same (s2.tt d1)
        have s12:=s1.trans s2
        refine⟨_,rfl,_,_,rfl,rfl,_,rfl,?_⟩
        dsimp only
        refine iteD (fun h4=>?_) (fun h4=>?_)
        · refine⟨_,rfl,_,rfl,R,nm,p,a,so,hS,rfl,⟨d2,hso2⟩,fun v3 H3 w3 s3 d3 wv3 wq3=>?_⟩
          refine⟨_,rfl,(by show 3≤sizeLine;omega),fun q nq=>?_⟩
          rw[nT_is]
          have e:=a0d (o:=.tup [V.str (tx nT),v3,v2]) nq
          exact k (.times w3 x2) _ _ ((s12.trans s3).trans (.of e)) (d3.same e) ⟨q,v3,v2,rfl,a0b,wv3.st e.t,(sv2.same (s3.tt d2)).same e.t⟩ ⟨wq3,ok2⟩ (by show _+1≤_;omega) (by have:=pB_up m (by omega);show 1+_≤_;omega)
        refine⟨_,rfl,_,_,rfl,rfl,_,rfl,?_⟩
        dsimp only
        refine iteD (fun h7=>?_) (fun h7=>?_)
        · refine⟨(by show 3≤sizeLine;omega),fun l0 n0=>?_⟩
          have e0:=a0d (o:=.lst [V.str (Str.ofString "back"),V.str (Str.ofString "star"),V.str (Str.ofString "star")]) n0
          have three:∃f,atI [V.str (Str.ofString "back"),V.str (Str.ofString "star"),V.str (Str.ofString "star")] (r1 - 4)=some (vT (n1 f)):=by
            rw[bk_is,st_is]
            rcases(by omega:r1=4∨r1=5∨r1=6)with rfl | rfl | rfl
            · exact⟨false,rfl⟩
            · exact⟨true,rfl⟩
            · exact⟨true,rfl⟩
          obtain⟨f,ef⟩:=three
          refine⟨_,rfl,_,_,rfl,rfl,_,_,_,_,rfl,rfl,SqL.of a0b,ef,_,rfl,(by show 2≤sizeLine;omega),fun q nq=>?_⟩
          have e:=e0.trans (a0d (o:=.tup [vT (n1 f),v2]) nq)
          exact k (.one f x2) _ _ (s12.trans (.of e)) (d2.same e) ⟨q,v2,rfl,a0b,sv2.same e.t⟩ ok2 (by show _+1≤_;omega) (by have:=pB_up m (by omega);show 1+_≤_;omega)
        have up:=pB_up2 m (by omega)
        refine⟨(by show 4≤sizeLine;omega),fun l1 m1=>?_⟩
        have e1:=a0d (o:=.lst [V.str (Str.ofString "sum"),V.str (Str.ofString "then"),V.str (Str.ofString "both"),V.str (Str.ofString "sum")]) m1
        have four:∃f,atI [V.str (Str.ofString "sum"),V.str (Str.ofString "then"),V.str (Str.ofString "both"),V.str (Str.ofString "sum")] (r1 - 7)=some (vT (n2 f)):=by
          rw[sm_is,th_is,bo_is]
          rcases(by omega:r1=7∨r1=8∨r1=9∨r1=10)with rfl | rfl | rfl | rfl
          · exact⟨0,rfl⟩
          · exact⟨1,rfl⟩
          · exact⟨2,rfl⟩
          · exact⟨0,rfl⟩
        obtain⟨f,ef⟩:=four
        refine⟨_,rfl,_,_,rfl,rfl,_,_,_,_,rfl,rfl,SqL.of a0b,ef,_,rfl,_,rfl,_,rfl,_,rfl,_,rfl,_,_,rfl,rfl,R,nm,p,a,so,l,m,hS,(by show [_,_,_,V.int (((m+1:Nat):Int) - 1)]=_;rw[em]),⟨d2.same e1,hso2.same e1.t,L,by omega,by omega⟩,fun x3 v3 H3 s3 d3 sv3 ok3 ht3 pn3=>?_⟩
        refine⟨(by show 3≤sizeLine;omega),fun q nq=>?_⟩
        have e:=a0d (o:=.tup [vT (n2 f),v2,v3]) nq
        have s23:SameX a H2 H3:=(SameX.of e1).trans s3
        exact k (.two f x2 x3) _ _ ((s12.trans s23).trans (.of e)) (d3.same e) ⟨q,v2,v3,rfl,a0b,(sv2.same (s23.tt d2)).same e.t,sv3.same e.t⟩ ⟨ok2,ok3⟩ (by show max _ _+1≤_;omega) (by show 1+_≤_;omega)
theorem c0s(T:Txt K mg t):FnOk Pr w K mg base CX0 10 t.r0k t.n0y ["_law_state_here","_law_sort_here","_law_letters_here","_law_deep"] (sp_lsay (w:=w) (base:=base) T 5):=okr_lsay T 5
structure GD(k:Nat)(d:PyData):Prop where
  lay:d.canLay0=true
  dep:d.depth≤k
  mix:noMix d d=true
theorem gD_all{k:Nat}:∀{ds:List PyData},(∀d∈ds,GD k d)→PyData.canLayAll0 ds=true∧PyData.depthAll ds≤k∧noMixAll ds ds=true
  | [],_=>⟨by simp[PyData.canLayAll0],by simp[PyData.depthAll],by simp[noMixAll]⟩
  | d::ds,h=>by
    obtain⟨a,b,c⟩:=gD_all (ds:=ds) fun x hx=>h x (List.mem_cons_of_mem _ hx)
    have g:=h d (List.mem_cons_self ..)
    have gd:=g.dep
    exact⟨by simp[PyData.canLayAll0,g.lay,a],by simp only[PyData.depthAll];omega,by simp[noMixAll,g.mix,c]⟩
theorem GD.tup{k:Nat}{ds:List PyData}(h:∀d∈ds,GD k d):GD (k+1) (.tuple ds):=by
  obtain⟨a,b,c⟩:=gD_all h
  exact⟨by simp[PyData.canLay0,a],by simp only[PyData.depth];omega,by simp[noMix,c]⟩
theorem GD.up{j k:Nat}{d:PyData}(h:GD j d)(e:j≤k):GD k d:=⟨h.lay,Nat.le_trans h.dep e,h.mix⟩
theorem GD.sh{k:Nat}{d:PyData}(h:GD k d)(e:k≤64):shaped d=true:=by
  have hd:=h.dep
  unfold shaped
  rw[h.lay,decide_eq_true (by omega)];rfl
theorem wd_gd{d:PyData}(h:WDt d):GD 2 d:=by
  rcases h with rfl | ⟨b,rfl⟩ | ⟨i,rfl⟩ | ⟨a,b,rfl⟩
  · exact⟨by simp[PyData.canLay0],by simp[PyData.depth],by simp[noMix]⟩
  · exact⟨by simp[PyData.canLay0],by simp[PyData.depth],by simp[noMix]⟩
  · exact⟨by simp[PyData.canLay0],by simp[PyData.depth],by simp[noMix]⟩
  · exact⟨by simp[PyData.canLay0,PyData.canLayAll0],by simp[PyData.depth,PyData.depthAll],by simp[noMix,noMixAll]⟩
theorem indices_to{n:Nat}{i:Int}(h:(n:Int)≤i):Builtin.Str.strSliceIndices none (some i) 1 n=Builtin.Str.strSliceIndices none (some (n:Int)) 1 n:=by
  have h0:¬i < 0:=by omega
  have h1:¬((n:Int) < 0):=by omega
  have h2:(1:Int) > 0:=by decide
  simp only[Builtin.Str.strSliceIndices,h0,h1,h2,if_false,if_true,Int.min_eq_right h,Int.min_self]
theorem sl_toG{p:List Nat}{q:Int}(h0:0≤q):Txt.slice (tx p) none (some q)=tx (p.take q.toNat):=by
  by_cases h1:q≤p.length
  · exact sl_to h0 h1
  · have e2:Txt.slice (tx p) none (some q)=Txt.slice (tx p) none (some ((p.length:Nat):Int)):=by
      unfold Txt.slice
      rw[a0u,indices_to (by omega)]
    rw[e2,sl_to (by omega) (Int.le_refl _),List.take_of_length_le (by omega),List.take_of_length_le (by omega)]
def sp_lwhole:Sp:=fun vs H Q _=>∃x,vs=[vT x]∧Gd 400 x∧∀H',Same H H'→Q (if wr x=true then .int (nm x)else .non) H'
theorem e0k(T:Txt K mg t):FnOk Pr w K mg base CX0 1 t.s0t t.p0o ["_law_text"] sp_lwhole:=by
  refine T.p0r.ok sc_law_whole (fun vs H Q E h=>?_) (fun cdv A outer s H vs Q E hr h=>?_)
  · obtain⟨x,rfl,_⟩:=h
    rfl
  · obtain⟨x,rfl,g,k⟩:=h
    have z40:1000 < sizeLine:=by decide
    have gl:=g.1
    refine⟨_,(a0c (a0q (i:=1) sc_law_whole.nd rfl (Or.inl rfl) (pv 0)) (a0c (a0w (a0j b0d (b0c g0t (pv 0) b0j (b0g a0f)) a0h (a0o _)) (a0g (a0q (i:=1) sc_law_whole.nd rfl (Or.inl rfl) (b0c g0t (pv 0) (b0g a0f) b0j))) a0m) (a0c (a0w (PW.pt (e0f (f0q (pt_chain op_le op_le a0f (a0x b0u (by rfl) T.z_len PySem.boot_len (a0a (pv 1) a0e)) a0f)) (d0a (PW.pt (j0c (a0j b0d (b0b j0g (pv 1) a0f (fun _ _=>rfl)) a0h (a0o _)) (h0m (a0j op_ne (pv 0) a0h (a0o _)))))))) (a0g (a0l b0v)) a0m) (a0c (e0g PassesOwn.never rfl (pi_str (pv 1)) (b0p (i:=2) sc_law_whole.nd rfl (Or.inl rfl)) (a0g (a0w (a0j e0j (pv 2) a0h (by with_unfolding_all rfl)) (a0g (a0l b0v)) a0m))) (a0g (a0l (b0y g0b (by rfl) T.z_int boot_int (a0a (pv 0) a0e)))))))),?_⟩
    refine⟨_,rfl,?_⟩
    show b0m 1 (vT x) [some (vT x),none,none] H _
    refine⟨_,rfl,_,rfl,_,rfl,by rw[a0u];omega,rfl,_,rfl,?_⟩
    dsimp only
    rw[sl_toG (by decide)]
    refine(fun(key:∀f,f=figs x→(?F:L2.St→Hp→Prop) [some (vT x),some (vT f),none] H)=>?main) ?rest
    case main=>
      refine iteS (fun h=>?_) (fun h=>?_)
      · have h1:x.head? = some 45:=by
          have:=b0x (h.trans mi_is)
          cases x with
          | nil=>cases this
          | cons c r=>simpa using this
        refine⟨_,rfl,_,rfl,_,rfl,by rw[a0u];omega,?_⟩
        rw[j0w (by decide)]
        exact key (x.drop 1) (by rw[figs,if_pos h1])
      · have h1:¬x.head? = some 45:=fun e=>h (by
          rw[mi_is]
          cases x with
          | nil=>cases e
          | cons c r=>cases e;rfl)
        exact key x (by rw[figs,if_neg h1])
    case rest=>
      intro f ef
      have gf:Gd 400 f:=by
        rw[ef,figs]
        split
        · exact g.drop 1
        · exact g
      have fl:=gf.1
      have lf:LenV K (vT f) H (tx f).length:=⟨by rw[a0u];omega,rfl⟩
      rw[a0u]at lf
      have no:wr x=false→Q .non H:=fun e=>by
        have:=k H (Same.refl _)
        rw[if_neg (by rw[e];decide)]at this
        exact this
      refine⟨_,rfl,_,_,rfl,lf,_,_,rfl,rfl,_,rfl,?_⟩
      dsimp only
      cases f with
      | nil=>
        refine iteN (by rfl) ?_
        refine⟨_,rfl,?_⟩
        (try refine iteT ?_)
        exact no (by rw[wr,← ef];rfl)
      | cons c r=>
      refine iteY (decide_eq_true (by simp;omega)) ?_
      refine⟨_,_,rfl,rfl,_,rfl,?_⟩
      by_cases h30:(c::r).length≤30
      rotate_left
      · refine iteY (by rw[decide_eq_false (by omega)];rfl) ?_
        (try refine iteT ?_)
        exact no (by rw[wr,← ef,decide_eq_false h30,Bool.and_false];rfl)
      refine iteN (by rw[decide_eq_true (by omega)];rfl) ?_
      have ewr:wr x=(if c=48 then decide (x=[48])else(c::r).all dg):=by
        rw[wr,← ef,decide_eq_true (by simp),decide_eq_true h30]
        simp only[List.head?_cons,Option.some.injEq,Bool.and_self,Bool.true_and]
      refine⟨_,rfl,_,_,_,rfl,rfl,by rw[a0u];omega,hd_at rfl,rfl,_,rfl,?_⟩
      dsimp only
      rw[o_is]
      refine(fun(key2:(c=48→x=[48])→(?F2:L2.St→Hp→Prop) [some (vT x),some (vT (c::r)),none] H)=>?main2) ?rest2
      case main2=>
        refine iteS (fun h2=>?_) (fun h2=>?_)
        · have hc:c=48:=by
            have:=b0x (a:=[c]) (b:=[48]) h2
            simpa using this
          refine⟨_,rfl,rfl,_,rfl,?_⟩
          dsimp only
          by_cases hx:x=[48]
          · refine iteN (by rw[decide_eq_true (show vT x=V.str (tx [48]) by rw[hx];rfl)];rfl) ?_
            (try refine iteF ?_)
            exact key2 fun _=>hx
          · refine iteY (by rw[decide_eq_false (show ¬vT x=V.str (tx [48])from fun z=>hx (b0x (V.str.inj z)))];rfl) ?_
            (try refine iteT ?_)
            exact no (by rw[ewr,if_pos hc,decide_eq_false hx])
        · (try refine iteF ?_)
          exact key2 fun hc=>absurd (by subst hc;rfl) h2
      case rest2=>
        intro hcx
        have ewr:wr x=(c::r).all dg:=by
          rw[ewr]
          by_cases hc:c=48
          · rw[if_pos hc]
            have hx:=hcx hc
            have ef':c::r=[48]:=by rw[ef,hx];rfl
            rw[ef',decide_eq_true hx];rfl
          · rw[if_neg hc]
        refine⟨_,rfl,_,rfl,gf.asc,for_it (n:=(c::r).length) (fun i σ H3=>∃v,σ=[some (vT x),some (vT (c::r)),v]∧H3=H∧((c::r).take i).all dg=true) ⟨_,rfl,rfl,rfl⟩ ?_ ?_⟩
        · rintro i σ H3 hi ⟨v,rfl,rfl,hall⟩
          refine⟨(by show i < (c::r).toArray.size;simpa using hi),fun y G3 hy=>?_⟩
          obtain⟨rfl,c',hc',rfl⟩:=hy
          have hc':(c::r)[i]? = some c':=by simpa [tx] using hc'
          have inf:=in_fig c'
          refine⟨_,rfl,_,_,rfl,rfl,_,rfl,?_⟩
          dsimp only
          rw[inf]
          cases hd:dg c' with
          | true=>
            (try refine iteF ?_)
            refine⟨_,rfl,rfl,?_⟩
            rw[List.take_succ,hc',List.all_append,hall]
            simp[hd]
          | false=>
            (try refine iteT ?_)
            have:(c::r).all dg=false:=by
              rw[List.all_eq_false]
              exact⟨c',List.mem_of_getElem? hc',by simp[hd]⟩
            exact no (by rw[ewr,this])
        · rintro σ H3 ⟨v,rfl,rfl,hall⟩
          rw[List.take_length]at hall
          have hw:wr x=true:=by rw[ewr,hall]
          obtain⟨e1,e2⟩:=wr_int hw
          have k:=k H3 (Same.refl _)
          rw[if_pos hw]at k
          exact⟨(by show(c::r).toArray.size≤_;simp),_,rfl,_,_,rfl,e1,e2,k⟩
theorem GD.lst{k:Nat}{ds:List PyData}(h:∀d∈ds,GD k d):GD (k+1) (.list ds):=by
  obtain⟨a,b,c⟩:=gD_all h
  exact⟨by simp[PyData.canLay0,a],by simp only[PyData.depth];omega,by simp[noMix,c]⟩
theorem f0v{l:List Nat}(h:∀c∈l,c < 1000):GD 1 (.str (tx l)):=by
  refine⟨?_,by simp[PyData.depth],by simp[noMix]⟩
  show PyData.strOk (tx l)=true
  show l.toArray.all (· < 0x110000)=true
  simp only[List.all_toArray,List.all_eq_true,decide_eq_true_eq]
  exact fun c hc=>by have:=h c hc;omega
theorem sg_all{H:Hp}:∀fs:List Nat,IsAll K H (fs.map fun c=>vT [c]) (fs.map fun c=>PyData.str (tx [c]))
  | []=>.nil
  | c::r=>.cons (.str _) (sg_all r)
def sp_lword:Sp:=fun vs H Q _=>∃l x,vs=[vT l,vT x]∧Gd 400 x∧∀q H',Same H H'→H' q=some (.lst ((rdw l x).toList.map vT))→Q (.ref q) H'
theorem i0p(T:Txt K mg t):FnOk Pr w K mg base CX0 1 t.p0j t.n0r ["_law_letters_here","_law_text"] sp_lword:=by
  refine T.n0b.ok i0m (fun vs H Q E h=>?_) (fun cdv A outer s H vs Q E hr h=>?_)
  · obtain⟨l,x,rfl,_⟩:=h
    rfl
  · obtain⟨l,x,rfl,g,k⟩:=h
    have z40:1000 < sizeLine:=by decide
    have gl:=g.1
    refine⟨_,(a0c (a0w (a0j b0d (pv 1) a0h (a0o _)) (a0g (a0l (a0y (a0a a0h a0e)))) a0m) (a0c (a0w (PW.pt (e0f (a0j b0d (pv 1) a0h (a0o _)) (d0a (a0j (op_neD hr.units) (pe_compif (xs:=["_law_sign"]) rfl (show d0v ["_law_letters_here","_law_text"] (a0k c0o) _ from⟨rfl,by decide +kernel,by decide +kernel,by decide +kernel,by decide +kernel,by decide +kernel⟩) (pi_str (pv 1)) (fun _ _ _ _ _=>(b0p (i:=2) (by show List.Nodup (["_law_letters_here","_law_text","_law_sign"]:List Str);decide +kernel) rfl (Or.inl rfl))) (fun _ _ _ _ _=>(a0j e0j (pv 2) (pv 0) (by with_unfolding_all rfl))) (fun _ _ _ _ _=>(pv 2))) (a0y a0e) (a0o _))))) (a0g (a0l (a0y a0e))) a0m) (a0g (a0l (a0y (a0a (pv 1) a0e)))))),?_⟩
    refine⟨_,rfl,rfl,_,rfl,?_⟩
    dsimp only
    by_cases z:x=[45]
    · subst z
      refine iteS (fun _=>?_) (fun h=>absurd mi_is.symm h)
      refine⟨(by show 1≤sizeLine;omega),fun q nq=>?_⟩
      rw[e0m]
      exact k q _ (a0d nq) a0b
    · refine iteS (fun h=>absurd (b0x (h.trans mi_is)) z) (fun _=>?_)
      refine⟨_,rfl,rfl,_,rfl,?_⟩
      dsimp only
      by_cases e:x=[]
      · refine iteY (by rw[e,e0m];rfl) ?_
        (try refine iteT ?_)
        refine⟨(by show 0≤sizeLine;omega),fun q nq=>?_⟩
        exact k q _ (a0d nq) (by rw[a0b,rdw,if_neg z,if_pos (.inl e)];rfl)
      · have nz:decide (vT x=V.str (Str.ofString ""))=false:=decide_eq_false fun h=>e (b0x ((V.str.inj h).trans e0m))
        refine iteN nz ?_
        refine⟨_,rfl,_,rfl,g.asc,comp_goI (n:=x.length) (fun j ys H2=>H2=H∧ys=((x.take j).filter fun c=>decide (c ∉ l)).map fun c=>vT [c]) (by omega) ⟨rfl,rfl⟩ (fun j ys H2 q=>by rw[q.2,List.length_map];exact Nat.le_trans (List.length_filter_le _ _) (by rw[List.length_take];omega)) ?_ ?_ ?_⟩
        · rintro j ys H2 hj ⟨rfl,rfl⟩
          refine⟨(by show j < x.toArray.size;simpa using hj),fun y H' hy=>?_⟩
          obtain⟨rfl,c,hc,rfl⟩:=hy
          refine⟨⟨[some _],rfl,rfl⟩,_,rfl,_,rfl,_,_,rfl,rfl,_,rfl,?_⟩
          have hx:x[j]? = some c:=tx_get hc
          have io:(!(Builtin.Str.occurrences (tx l) ⟨#[c]⟩ 0 (tx l).length 1).isEmpty)=decide (c∈l):=in_l l c
          dsimp only
          rw[io]
          by_cases hm:c∈l
          · refine iteN (by rw[decide_eq_true hm];rfl) ⟨rfl,?_⟩
            rw[List.take_add_one,hx];simp[hm]
          · refine iteY (by rw[decide_eq_false hm];rfl) ⟨_,rfl,rfl,?_⟩
            rw[List.take_add_one,hx];simp[hm];rfl
        · rintro ys H2 ⟨rfl,rfl⟩
          show x.toArray.size≤_
          simp
        · rintro ys H2 p ⟨rfl,rfl⟩ np
          rw[List.take_length]
          have fx:∀c∈x.filter fun c=>decide (c ∉ l),c < 128:=fun c hc=>g.2 c (List.mem_filter.mp hc).1
          have nil_iff:(x.filter fun c=>decide (c ∉ l))=[]↔∀c∈x,c∈l:=by
            rw[List.filter_eq_nil_iff]
            exact⟨fun h c hc=>by simpa using h c hc,fun h c hc=>by simpa using h c hc⟩
          revert fx nil_iff
          generalize (x.filter fun c=>decide (c ∉ l))=fs
          intro fx nil_iff
          have t1:=a0d (o:=.lst (fs.map fun c=>vT [c])) np
          refine⟨(by show 0≤sizeLine;omega),fun q0 n0=>?_⟩
          have t2:=a0d (o:=.lst []) n0
          have i1:Is K (upd (upd H2 p (.lst (fs.map fun c=>vT [c]))) q0 (.lst [])) (.ref p) (.list (fs.map fun c=>.str (tx [c]))):=.lst (SqL.of (t2 _ _ a0b)) (sg_all fs)
          have i2:Is K (upd (upd H2 p (.lst (fs.map fun c=>vT [c]))) q0 (.lst [])) (.ref q0) (.list []):=.lst (SqL.of a0b) .nil
          have g1:GD 2 (.list (fs.map fun c=>PyData.str (tx [c]))):=GD.lst (k:=1) fun d hd=>by
            obtain⟨c,hc,rfl⟩:=List.mem_map.mp hd
            exact f0v fun c' hc'=>by rw[List.mem_singleton.mp hc'];have:=fx c hc;omega
          have g2:GD 2 (.list []):=GD.lst (k:=1) fun d hd=>nomatch hd
          refine⟨_,_,i1,i2,g1.sh (by decide),g2.sh (by decide),?_,_,rfl,?_⟩
          · cases fs with
            | nil=>exact g2.mix
            | cons c r=>simp[noMix,noMixAll]
          · have t12:=t1.trans t2
            cases fs with
            | nil=>
              have al:=nil_iff.mp rfl
              refine iteN (by show(!PySem.Spec.same (.list []) (.list []))=false;rw[PySem.Spec.same_self];rfl) ?_
              refine⟨_,rfl,(by show 1≤sizeLine;omega),fun q nq=>?_⟩
              refine k q _ (t12.trans (a0d nq)) ?_
              rw[a0b,rdw,if_neg z,if_neg (fun q=>q.elim e (fun q=>q al))];rfl
            | cons c r=>
              have al:¬∀c∈x,c∈l:=fun h=>nomatch nil_iff.mpr h
              refine iteY (by simp[PySem.Spec.same,PySem.Spec.sameAll]) ?_
              refine⟨(by show 0≤sizeLine;omega),fun q nq=>?_⟩
              refine k q _ (t12.trans (a0d nq)) ?_
              rw[a0b,rdw,if_neg z,if_pos (.inr al)];rfl
def sp_lbal(N:Nat):Sp:=fun vs H Q _=>∃n:Nat,vs=[.int (n:Int)]∧(1≤n∧n < N∧N≤100)∧∀q (ps:List (List Nat)) H',Same H H'→H' q=some (.lst (ps.map vT))→(ps.length+1=2 * n∧∀x∈ps,Gd 63 x∧32 ∉ x)→Q (.ref q) H'
theorem okr_lbal(T:Txt K mg t):∀(N:Nat) {w:World} {base:Heap},FnOk Pr w K mg base CX0 (N+2) t.p0a t.m0q ["_law_many"] (sp_lbal N)
  | 0,w,base=>by
    refine T.m0u.ok d0x (fun vs H Q E h=>?_) (fun cdv A outer s H vs Q E hr h=>?_)
    · obtain⟨n,rfl,_⟩:=h
      rfl
    · obtain⟨n,rfl,⟨_,h0,_⟩,_⟩:=h
      omega
  | N+1,w,base=>by
    have c0d:∀{w:World} {base:Heap} (T:Txt K mg t),FnOk Pr w K mg base CX0 (N+2) t.p0a t.m0q ["_law_many"] (sp_lbal N):=fun T=>okr_lbal T N
    refine T.m0u.ok d0x (fun vs H Q E h=>?_) (fun cdv A outer s H vs Q E hr h=>?_)
    · obtain⟨n,rfl,_⟩:=h
      rfl
    · obtain⟨n,rfl,⟨n1,nN',hN⟩,k⟩:=h
      have zl:10000 < sizeLine:=by decide
      refine⟨_,(a0c (a0w (a0j b0d (pv 0) a0f (a0o _)) (a0g (a0l (a0y (a0a a0h a0e)))) a0m) (a0g (a0l (a0t c0w (a0t c0w (a0y (a0a a0h a0e)) (a0n (c0d T) (hr.mono (by omega)) rfl T.m0r T.m0u.kp T.m0l .nil a0z (a0a (a0t d0r (pv 0) a0f) a0e))) (a0n (c0d T) (hr.mono (by omega)) rfl T.m0r T.m0u.kp T.m0l .nil a0z (a0a (a0t g0x (pv 0) (a0t d0r (pv 0) a0f)) a0e)))))),?_⟩
      refine⟨_,rfl,rfl,_,rfl,?_⟩
      dsimp only
      by_cases h1:n=1
      · refine iteY (by subst h1;rfl) ?_
        refine⟨(by show 1≤sizeLine;omega),fun q nq=>?_⟩
        rw[i0s]
        exact k q [nN] _ (a0d nq) a0b ⟨by rw[h1];rfl,fun x hx=>by rw[List.mem_singleton.mp hx];decide⟩
      · refine iteN (decide_eq_false fun e=>h1 (by have:=V.int.inj e;omega)) ?_
        refine⟨(by show 1≤sizeLine;omega),fun l0 m0=>?_⟩
        rw[sm_is]
        have t0:=a0d (o:=.lst [V.str (tx (n2 0))]) m0
        have e2:Int.fdiv (n:Int) 2=((n / 2:Nat):Int):=by rw[Int.fdiv_eq_ediv_of_nonneg _ (by decide)];omega
        refine⟨_,rfl,_,_,rfl,rfl,⟨by decide,by decide⟩,n / 2,(by show [V.int (Int.fdiv (n:Int) 2)]=_;rw[e2]),⟨by omega,by omega,by omega⟩,fun q1 p1 H1 s1 k1 ⟨l1,g1⟩=>?_⟩
        refine⟨_,_,_,_,rfl,rfl,s1 _ _ a0b,k1,(by rw[List.length_map];show 1+_≤_;omega),fun q2 m2=>?_⟩
        have t2:=a0d (o:=.lst ([V.str (tx (n2 0))]++p1.map vT)) m2
        refine⟨_,rfl,_,rfl,_,_,rfl,rfl,⟨by decide,by decide⟩,_,_,rfl,rfl,n - n / 2,(by show [V.int ((n:Int) - Int.fdiv (n:Int) 2)]=_;rw[e2,show(n:Int) - ((n / 2:Nat):Int)=((n - n / 2:Nat):Int) by omega]),⟨by omega,by omega,by omega⟩,fun q3 p3 H3 s3 k3 ⟨l3,g3⟩=>?_⟩
        refine⟨_,_,_,_,rfl,rfl,s3 _ _ a0b,k3,(by rw[List.length_append,List.length_map,List.length_map];show 1+_+_≤_;omega),fun q4 m4=>?_⟩
        refine k q4 ([n2 0]++p1++p3) _ (((t0.trans s1).trans (t2.trans s3)).trans (a0d m4)) (by rw[a0b];simp;rfl) ⟨by simp;omega,fun x hx=>?_⟩
        rcases List.mem_append.mp hx with hx | hx
        · rcases List.mem_append.mp hx with hx | hx
          · rw[List.mem_singleton.mp hx];decide
          · exact g1 x hx
        · exact g3 x hx
theorem c0d(T:Txt K mg t):FnOk Pr w K mg base CX0 24 t.p0a t.m0q ["_law_many"] (sp_lbal 22):=okr_lbal T 22
def Two(H:Hp)(v:V)(a b:V→Hp→Prop):Prop:=∃q x y,v=.ref q∧H q=some (.tup [x,y])∧a x H∧b y H
def sp_lread(w:World)(K:PySem.W.Frag)(mg:Str→Option Value)(base:Heap)(t:Adr):Sp:=fun vs H Q _=>∃(R:RX w K mg base t),∃kv l v,vs=[kv,vT l,v]∧KAt R.C R.fs H kv∧
  ((∃ps:List (List Nat),v=vT (jn [32] ps)∧(ps≠[]∧(∀x∈ps,Gd 400 x∧32 ∉ x)∧ps.length≤400)∧(wht l R.rd ps=none→∀u H',Same H H'→Two H' u (fun x _=>x=.non) (fun y H=>∃p,y=.ref p∧H p=some (.tup [.bl true,.bl true,.bl false]))→Q u H')∧(∀s,wht l R.rd ps=some s→∀u H',Same H H'→Two H' u (fun x H=>SV s x H) (fun y _=>y=.non)→Q u H'))∨
    (NoStr K v H∧∀u H',Same H H'→Two H' u (fun x _=>x=.non) (fun y H=>∃p,y=.ref p∧H p=some (.tup [.bl true,.bl true,.bl false]))→Q u H'))
theorem f0h(T:Txt K mg t)(hW:WK w K mg aW):FnOk Pr w K mg base CX0 23 t.t0i t.r0d ["_law_kind_here","_law_letters_here","_law_thing"] (sp_lread w K mg base t):=by
  refine T.q0y.ok sc_law_read (fun vs H Q E h=>?_) (fun cdv A outer s H vs Q E hr h=>?_)
  · obtain⟨R,kv,l,v,rfl,_⟩:=h
    rfl
  · obtain⟨R,kv,l,v,rfl,hk,h⟩:=h
    refine⟨_,(a0c (a0q (i:=3) sc_law_read.nd rfl (Or.inl rfl) b0v) (a0c (a0q (i:=4) sc_law_read.nd rfl (Or.inl rfl) b0v) (a0c (ps_try (i:=5) (psx_one (psx_set (i:=3) sc_law_read.nd rfl (Or.inl rfl) (c0c (h0r T hW) hr.m rfl T.n0v T.n0e.kp T.n0w .nil (a0a (pv 0) (a0a (pv 1) (a0a (pv 2) a0e)))))) rfl rfl sc_law_read.nd rfl rfl rfl T.o0c (fun _=>(a0c (a0q (i:=6) sc_law_read.nd rfl (Or.inl rfl) (a0x (j0m K rfl) (by rfl) T.z_isinstance boot_isinstance (a0a (pv 5) (a0a (b0i (a0a (b0q (v:=.ref t.t0e) rfl T.p0v rfl) (a0a (b0q (v:=.ref t.u0n) rfl T.u0c rfl) (a0a (b0q (v:=.ref t.u0r) rfl T.t0x rfl) (a0a (b0q (v:=.ref t.u0t) rfl T.u0d rfl) a0e))))) a0e)))) (a0c (a0q (i:=6) sc_law_read.nd rfl (Or.inl rfl) (pe_or (pv 6) (pe_one (a0x (j0m K rfl) (by rfl) T.z_isinstance boot_isinstance (a0a (pv 5) (a0a (b0i (a0a (b0q (v:=.ref t.t0h) rfl T.r0u rfl) (a0a (b0q (v:=.ref t.u0m) rfl T.t0n rfl) (a0a (b0q (v:=.ref t.t0t) rfl T.r0z rfl) (a0a (b0q (v:=.ref t.u0p) rfl T.t0v rfl) (a0a (b0q (v:=.ref t.s0y) rfl T.q0o rfl) a0e)))))) a0e)))))) (a0g (a0q (i:=4) sc_law_read.nd rfl (Or.inl rfl) (b0i (a0a (a0x (call_isxK K rfl) (by rfl) T.z_isinstance boot_isinstance (a0a (pv 5) (a0a (b0q (v:=.ref t.u0o) rfl T.t0s rfl) a0e))) (a0a (a0x (call_isxK K rfl) (by rfl) T.z_isinstance boot_isinstance (a0a (pv 5) (a0a (g0l (v:=.ty "ValueError") rfl T.z_ValueError boot_VE rfl) a0e))) (a0a (pv 6) a0e)))))))))) (a0g (a0l (b0i (a0a (pv 3) (a0a (pv 4) a0e)))))))),?_⟩
    have zl:10000 < sizeLine:=by decide
    refine⟨_,rfl,_,rfl,_,rfl,R,kv,l,v,rfl,hk,?_⟩
    rcases h with ⟨ps,rfl,hps,kn,k⟩ | ⟨hn,ke⟩
    · refine .inl ⟨ps,rfl,hps,fun hw H1 s1=>⟨_,rfl,T.eT,fun xa nxa=>?_⟩,fun sy hw u H1 s1 sv=>?_⟩
      rotate_left
      · refine⟨_,rfl,_,rfl,(by show 2≤sizeLine;omega),fun q nq=>?_⟩
        have e:=a0d (o:=.tup [u,.non]) nq
        exact k sy hw _ _ (s1.trans e) ⟨q,u,.non,rfl,a0b,sv.same e.t,rfl⟩
      have kb:=kn hw
      have t1:=a0d (o:=ExcO xa t.u0o) nxa
      have hx:upd H1 xa (ExcO xa t.u0o) xa=some (ExcO xa t.u0o):=a0b
      revert t1 hx
      generalize upd H1 xa (ExcO xa t.u0o)=H2
      intro t1 hx
      refine⟨_,rfl,(by show 4≤sizeLine;omega),fun tp ntp=>?_⟩
      have t2:=a0d (o:=.tup ([t.t0e,t.u0n,t.u0r,t.u0t].map V.ref)) ntp
      refine⟨xa,t.u0o,tp,[t.t0e,t.u0n,t.u0r,t.u0t],false,rfl,t2 _ _ hx,T.t0l,a0b,T.kT1,?_⟩
      refine⟨_,rfl,_,rfl,?_⟩
      (try refine iteF ?_)
      refine⟨_,rfl,(by show 5≤sizeLine;omega),fun tp2 ntp2=>?_⟩
      have t3:=t2.trans (a0d (o:=.tup ([t.t0h,t.u0m,t.t0t,t.u0p,t.s0y].map V.ref)) ntp2)
      refine⟨xa,t.u0o,tp2,[t.t0h,t.u0m,t.t0t,t.u0p,t.s0y],false,rfl,t3 _ _ hx,T.t0l,a0b,T.kT2,?_⟩
      refine⟨_,rfl,xa,t.u0o,_,_,true,rfl,t3 _ _ hx,T.t0l,rfl,T.kTT,?_⟩
      refine⟨_,rfl,xa,t.u0o,_,_,true,rfl,t3 _ _ hx,T.t0l,rfl,T.vT1,?_⟩
      refine⟨_,rfl,(by show 3≤sizeLine;omega),fun q1 nq1=>?_⟩
      have e1:=a0d (o:=.tup [V.bl true,V.bl true,V.bl false]) nq1
      refine⟨_,rfl,_,rfl,(by show 2≤sizeLine;omega),fun q nq=>?_⟩
      have e:=a0d (o:=.tup [V.non,.ref q1]) nq
      exact kb _ _ (((s1.trans t1).trans t3).trans (e1.trans e)) ⟨q,.non,.ref q1,rfl,a0b,rfl,⟨q1,rfl,e _ _ a0b⟩⟩
    · refine .inr ⟨hn,⟨_,rfl,T.eT,fun xa nxa=>?_⟩⟩
      have kb:=ke
      have s1:Same H H:=Same.refl _
      have t1:=a0d (o:=ExcO xa t.u0o) nxa
      have hx:upd H xa (ExcO xa t.u0o) xa=some (ExcO xa t.u0o):=a0b
      revert t1 hx
      generalize upd H xa (ExcO xa t.u0o)=H2
      intro t1 hx
      refine⟨_,rfl,(by show 4≤sizeLine;omega),fun tp ntp=>?_⟩
      have t2:=a0d (o:=.tup ([t.t0e,t.u0n,t.u0r,t.u0t].map V.ref)) ntp
      refine⟨xa,t.u0o,tp,[t.t0e,t.u0n,t.u0r,t.u0t],false,rfl,t2 _ _ hx,T.t0l,a0b,T.kT1,?_⟩
      refine⟨_,rfl,_,rfl,?_⟩
      (try refine iteF ?_)
      refine⟨_,rfl,(by show 5≤sizeLine;omega),fun tp2 ntp2=>?_⟩
      have t3:=t2.trans (a0d (o:=.tup ([t.t0h,t.u0m,t.t0t,t.u0p,t.s0y].map V.ref)) ntp2)
      refine⟨xa,t.u0o,tp2,[t.t0h,t.u0m,t.t0t,t.u0p,t.s0y],false,rfl,t3 _ _ hx,T.t0l,a0b,T.kT2,?_⟩
      refine⟨_,rfl,xa,t.u0o,_,_,true,rfl,t3 _ _ hx,T.t0l,rfl,T.kTT,?_⟩
      refine⟨_,rfl,xa,t.u0o,_,_,true,rfl,t3 _ _ hx,T.t0l,rfl,T.vT1,?_⟩
      refine⟨_,rfl,(by show 3≤sizeLine;omega),fun q1 nq1=>?_⟩
      have e1:=a0d (o:=.tup [V.bl true,V.bl true,V.bl false]) nq1
      refine⟨_,rfl,_,rfl,(by show 2≤sizeLine;omega),fun q nq=>?_⟩
      have e:=a0d (o:=.tup [V.non,.ref q1]) nq
      exact kb _ _ (((s1.trans t1).trans t3).trans (e1.trans e)) ⟨q,.non,.ref q1,rfl,a0b,rfl,⟨q1,rfl,e _ _ a0b⟩⟩
def spl:List Nat→List (List Nat)
  | []=>[[]]
  | c::r=>if c=32 then []::spl r else match spl r with
    | []=>[[c]]
    | p::ps=>(c::p)::ps
theorem j0a:∀l,spl l≠[]
  | []=>by simp[spl]
  | c::r=>by
    simp only[spl]
    split
    · simp
    · split <;>simp
theorem spl_app:∀(p q:List Nat),spl (p++32::q)=spl p++spl q
  | [],q=>by simp[spl]
  | c::r,q=>by
    have ih:=spl_app r q
    rw[List.cons_append]
    by_cases h:c=32
    · simp[spl,h,ih]
    · cases e:spl r with
      | nil=>exact absurd e (j0a r)
      | cons p ps=>simp[spl,h,ih,e]
theorem jn_spl:∀l,jn [32] (spl l)=l
  | []=>rfl
  | c::r=>by
    have ih:=jn_spl r
    by_cases h:c=32
    · have e:spl (c::r)=[]::spl r:=by simp[spl,h]
      rw[e,k0v (j0a r),ih,h];rfl
    · cases e:spl r with
      | nil=>exact absurd e (j0a r)
      | cons p ps=>
        have e2:spl (c::r)=(c::p)::ps:=by simp[spl,h,e]
        rw[e]at ih
        rw[e2]
        cases ps with
        | nil=>rw[← ih];rfl
        | cons q ps=>
          rw[k0v (by simp)]at ih ⊢
          rw[← ih];rfl
theorem spl_ok:∀(l:List Nat),∀p∈spl l,32 ∉ p∧p.length≤l.length∧∀c∈p,c∈l
  | [],p,hp=>by rw[List.mem_singleton.mp hp];simp
  | c::r,p,hp=>by
    have ih:=spl_ok r
    by_cases h:c=32
    · have e:spl (c::r)=[]::spl r:=by simp[spl,h]
      rw[e]at hp
      rcases List.mem_cons.mp hp with rfl | hp
      · simp
      · obtain⟨a,b,d⟩:=ih p hp
        exact⟨a,by rw[List.length_cons];omega,fun x hx=>List.mem_cons_of_mem _ (d x hx)⟩
    · cases e:spl r with
      | nil=>exact absurd e (j0a r)
      | cons q ps=>
        have e2:spl (c::r)=(c::q)::ps:=by simp[spl,h,e]
        rw[e2]at hp
        rcases List.mem_cons.mp hp with rfl | hp
        · obtain⟨a,b,d⟩:=ih q (by rw[e];exact List.mem_cons_self ..)
          refine⟨fun z=>?_,by rw[List.length_cons,List.length_cons];omega,fun x hx=>?_⟩
          · rcases List.mem_cons.mp z with z | z
            · exact h z.symm
            · exact a z
          · rcases List.mem_cons.mp hx with rfl | hx
            · exact List.mem_cons_self ..
            · exact List.mem_cons_of_mem _ (d x hx)
        · obtain⟨a,b,d⟩:=ih p (by rw[e];exact List.mem_cons_of_mem _ hp)
          exact⟨a,by rw[List.length_cons];omega,fun x hx=>List.mem_cons_of_mem _ (d x hx)⟩
theorem spl_jn:∀{ps:List (List Nat)},ps≠[]→spl (jn [32] ps)=ps.flatMap spl
  | [p],_=>by simp[jn]
  | p::q::ps,_=>by
    rw[k0v (by simp),List.flatMap_cons,← spl_jn (ps:=q::ps) (by simp),show p++[32]++jn [32] (q::ps)=p++32::jn [32] (q::ps) by simp]
    exact spl_app _ _
def its(l:List Nat)(rd:List Nat→Option PyData):List (List Nat)→Option (List (List Nat × Ex))
  | []=>some []
  | [x]=>(ar x).bind fun _=>(ext l rd x []).map fun e=>[(x,e.1)]
  | x::y::r=>if x=nW∨x=nT then(ext l rd x (y::r)).bind fun e=>(its l rd r).map fun m=>(x,e.1)::m
    else(ar x).bind fun _=>(its l rd (y::r)).map fun m=>(x,Ex.no)::m
theorem its_eq{l:List Nat}{rd:List Nat→Option PyData}(x:List Nat)(r:List (List Nat)):its l rd (x::r)=(ar x).bind fun _=>(ext l rd x r).bind fun e=>(its l rd e.2).map fun m=>(x,e.1)::m:=by
  cases r with
  | nil=>
    rw[its]
    by_cases hw:x=nW
    · rw[j0i hw];rfl
    · by_cases ht:x=nT
      · rw[ext_tn hw ht];rfl
      · rw[i0f hw ht];cases ar x <;>rfl
  | cons y r=>
    rw[its]
    by_cases hw:x=nW
    · rw[if_pos (.inl hw),g0z hw,hw,show ar nW=some 0 by decide]
      cases rdw l y <;>rfl
    · by_cases ht:x=nT
      · rw[if_pos (.inr ht),j0j hw ht,ht,show ar nT=some 1 by decide]
        cases rd y <;>rfl
      · rw[if_neg (fun h=>h.elim hw ht),i0f hw ht];rfl
def arN(x:List Nat):Nat:=(ar x).getD 0
def hts:List Nat→List (List Nat × Ex)→Option (List Nat)
  | ws,[]=>some ws
  | [],_::_=>none
  | h::ws,i::is=>if 12 < h then none else hts (List.replicate (arN i.1) (h+1)++ws) is
def stk:List (List Nat × Ex)→List Sy
  | []=>[]
  | i::is=>bld i.1 i.2 ((stk is).take (arN i.1))::(stk is).drop (arN i.1)
def d0h(f:List (List Nat × Ex)→Option (Sy × List (List Nat × Ex))):Nat→List (List Nat × Ex)→Option (List Sy × List (List Nat × Ex))
  | 0,r=>some ([],r)
  | k+1,r=>(f r).bind fun q=>(d0h f k q.2).map fun m=>(q.1::m.1,m.2)
def prI:Nat→List (List Nat × Ex)→Option (Sy × List (List Nat × Ex))
  | 0,_=>none
  | _+1,[]=>none
  | n+1,i::is=>(d0h (prI n) (arN i.1) is).map fun m=>(bld i.1 i.2 m.1,m.2)
theorem manyI_len{f:List (List Nat × Ex)→Option (Sy × List (List Nat × Ex))}:∀{k:Nat} {r:List (List Nat × Ex)} {m:List Sy × List (List Nat × Ex)},d0h f k r=some m→m.1.length=k
  | 0,r,m,h=>by cases h;rfl
  | k+1,r,m,h=>by
    simp only[d0h]at h
    cases hf:f r with
    | none=>rw[hf]at h;cases h
    | some q=>
      rw[hf]at h
      simp only[Option.bind_some]at h
      cases hm:d0h f k q.2 with
      | none=>rw[hm]at h;cases h
      | some m'=>
        rw[hm]at h
        cases h
        have:=manyI_len hm
        simp[this]
def sumP(m:List Sy):Nat:=(m.map pnS).sum
theorem pr_it{l:List Nat}{rd:List Nat→Option PyData}:∀(n:Nat) (ps:List (List Nat)) (is:List (List Nat × Ex)),its l rd ps=some is→
    (prs l rd n ps=none∧prI n is=none)∨∃s r r',prs l rd n ps=some (s,r)∧prI n is=some (s,r')∧its l rd r=some r'∧is.length=pnS s+r'.length
  | 0,ps,is,h=>.inl ⟨rfl,rfl⟩
  | n+1,[],is,h=>by cases h;exact .inl ⟨rfl,rfl⟩
  | n+1,x::ps,is,h=>by
    rw[its_eq]at h
    cases ha:ar x with
    | none=>rw[ha]at h;cases h
    | some k=>
      rw[ha]at h
      simp only[Option.bind_some]at h
      cases he:ext l rd x ps with
      | none=>rw[he]at h;cases h
      | some e=>
        rw[he]at h
        simp only[Option.bind_some]at h
        cases hi:its l rd e.2 with
        | none=>rw[hi]at h;cases h
        | some m0=>
          rw[hi]at h
          cases h
          have en:arN x=k:=by rw[arN,ha];rfl
          have key:∀(k:Nat) (ps:List (List Nat)) (is:List (List Nat × Ex)),its l rd ps=some is→(many (prs l rd n) k ps=none∧d0h (prI n) k is=none)∨∃m r r',many (prs l rd n) k ps=some (m,r)∧d0h (prI n) k is=some (m,r')∧its l rd r=some r'∧is.length=sumP m+r'.length:=by
            intro k
            induction k with
            | zero=>exact fun ps is h=>.inr ⟨[],ps,is,rfl,rfl,h,by simp[sumP]⟩
            | succ k ih=>
              intro ps is h
              simp only[many,d0h]
              rcases pr_it n ps is h with ⟨a,b⟩ | ⟨s,r,r',a,b,c,d⟩
              · rw[a,b];exact .inl ⟨rfl,rfl⟩
              · rw[a,b]
                simp only[Option.bind_some]
                rcases ih r r' c with ⟨a2,b2⟩ | ⟨m,r2,r2',a2,b2,c2,d2⟩
                · rw[a2,b2];exact .inl ⟨rfl,rfl⟩
                · rw[a2,b2]
                  exact .inr ⟨s::m,r2,r2',rfl,rfl,c2,by rw[d,d2];simp[sumP];omega⟩
          simp only[prs,prI,ha,he,en,Option.bind_some]
          rcases key k e.2 m0 hi with ⟨a,b⟩ | ⟨m,r,r',a,b,c,d⟩
          · rw[a,b];exact .inl ⟨rfl,rfl⟩
          · rw[a,b]
            refine .inr ⟨bld x e.1 m,r,r',rfl,rfl,c,?_⟩
            rw[pn_pt,(j0n ha he (h0h a)).2,List.length_cons,d]
            show _=1+sumP m+_
            omega
theorem pr_its{l:List Nat}{rd:List Nat→Option PyData}:∀(n:Nat) (ps:List (List Nat)) (s:Sy) (r:List (List Nat)),prs l rd n ps=some (s,r)→∀r',its l rd r=some r'→∃is,its l rd ps=some is
  | 0,ps,s,r,h,_,_=>by cases h
  | n+1,[],s,r,h,_,_=>by cases h
  | n+1,x::ps,s,r,h,r',hr=>by
    simp only[prs]at h
    rw[its_eq]
    cases ha:ar x with
    | none=>rw[ha]at h;cases h
    | some k=>
      rw[ha]at h
      simp only[Option.bind_some]at h ⊢
      cases he:ext l rd x ps with
      | none=>rw[he]at h;cases h
      | some e=>
        rw[he]at h
        simp only[Option.bind_some]at h ⊢
        have key:∀(k:Nat) (ps:List (List Nat)) (m:List Sy × List (List Nat)),many (prs l rd n) k ps=some m→∀r',its l rd m.2=some r'→∃is,its l rd ps=some is:=by
          intro k
          induction k with
          | zero=>intro ps m h r' hr;cases h;exact⟨_,hr⟩
          | succ k ih=>
            intro ps m h r' hr
            simp only[many]at h
            cases hf:prs l rd n ps with
            | none=>rw[hf]at h;cases h
            | some q=>
              rw[hf]at h
              simp only[Option.bind_some]at h
              cases hm:many (prs l rd n) k q.2 with
              | none=>rw[hm]at h;cases h
              | some m'=>
                rw[hm]at h
                cases h
                obtain⟨i2,h2⟩:=ih _ _ hm r' hr
                exact pr_its n ps q.1 q.2 hf i2 h2
        cases hm:many (prs l rd n) k e.2 with
        | none=>rw[hm]at h;cases h
        | some m=>
          rw[hm]at h
          cases h
          obtain⟨i2,h2⟩:=key k _ _ hm r' hr
          exact⟨_,by rw[h2];rfl⟩
theorem hts_pr:∀(n h:Nat) (is:List (List Nat × Ex)),h+n=13→(∀s r,prI n is=some (s,r)→∀ws,hts (h::ws) is=hts ws r)∧(prI n is=none→∀ws,hts (h::ws) is≠some [])
  | 0,h,is,e=>by
    refine⟨fun s r z=>(by cases z),fun _ ws=>?_⟩
    cases is with
    | nil=>simp[hts]
    | cons i is=>rw[hts,if_pos (by omega)];simp
  | n+1,h,[],e=>by
    refine⟨fun s r z=>(by cases z),fun _ ws=>?_⟩
    simp[hts]
  | n+1,h,i::is,e=>by
    have key:∀(k:Nat) (is:List (List Nat × Ex)),(∀m r,d0h (prI n) k is=some (m,r)→∀ws,hts (List.replicate k (h+1)++ws) is=hts ws r)∧(d0h (prI n) k is=none→∀ws,hts (List.replicate k (h+1)++ws) is≠some []):=by
      intro k
      induction k with
      | zero=>exact fun is=>⟨fun m r z ws=>(by cases z;rfl),fun z=>by cases z⟩
      | succ k ih=>
        intro is
        obtain⟨a,b⟩:=hts_pr n (h+1) is (by omega)
        simp only[d0h,List.replicate_succ,List.cons_append]
        cases hf:prI n is with
        | none=>exact⟨fun m r z=>(by cases z),fun _ ws=>b hf _⟩
        | some q=>
          obtain⟨a2,b2⟩:=ih q.2
          simp only[Option.bind_some]
          cases hm:d0h (prI n) k q.2 with
          | none=>exact⟨fun m r z=>(by cases z),fun _ ws=>by rw[a q.1 q.2 hf];exact b2 hm ws⟩
          | some m'=>exact⟨fun m r z ws=>(by cases z;rw[a q.1 q.2 hf];exact a2 _ _ hm ws),fun z=>by cases z⟩
    obtain⟨a,b⟩:=key (arN i.1) is
    simp only[prI]
    have hh:¬12 < h:=by omega
    cases hm:d0h (prI n) (arN i.1) is with
    | none=>exact⟨fun s r z=>(by cases z),fun _ ws=>(by rw[hts,if_neg hh];exact b hm ws)⟩
    | some m=>exact⟨fun s r z ws=>(by cases z;rw[hts,if_neg hh];exact a _ _ hm ws),fun z=>by cases z⟩
theorem stk_pr:∀(n:Nat) (is:List (List Nat × Ex)) (s:Sy) (r:List (List Nat × Ex)),prI n is=some (s,r)→stk is=s::stk r
  | 0,is,s,r,h=>by cases h
  | n+1,[],s,r,h=>by cases h
  | n+1,i::is,s,r,h=>by
    have key:∀(k:Nat) (is:List (List Nat × Ex)) (m:List Sy × List (List Nat × Ex)),d0h (prI n) k is=some m→stk is=m.1++stk m.2:=by
      intro k
      induction k with
      | zero=>intro is m h;cases h;rfl
      | succ k ih=>
        intro is m h
        simp only[d0h]at h
        cases hf:prI n is with
        | none=>rw[hf]at h;cases h
        | some q=>
          rw[hf]at h
          simp only[Option.bind_some]at h
          cases hm:d0h (prI n) k q.2 with
          | none=>rw[hm]at h;cases h
          | some m'=>
            rw[hm]at h
            cases h
            rw[stk_pr n is q.1 q.2 hf,ih _ _ hm];rfl
    simp only[prI]at h
    cases hm:d0h (prI n) (arN i.1) is with
    | none=>rw[hm]at h;cases h
    | some m=>
      rw[hm]at h
      cases h
      have hl:=manyI_len hm
      have e:=key _ _ _ hm
      rw[stk,e,List.take_append_of_le_length (by omega),List.take_of_length_le (by omega),List.drop_append_of_le_length (by omega),List.drop_of_length_le (by omega)]
      rfl
def due(l:List Nat)(rd:List Nat→Option PyData)(ps:List (List Nat)):Option Sy:=(its l rd ps).bind fun is=>if 40 < is.length then none else if hts [1] is=some []then(stk is).head? else none
theorem its_nil{l:List Nat}{rd:List Nat→Option PyData}{r:List (List Nat)}(h:its l rd r=some []):r=[]:=by
  cases r with
  | nil=>rfl
  | cons x r=>
    rw[its_eq]at h
    cases ha:ar x with
    | none=>rw[ha]at h;cases h
    | some k=>
      rw[ha]at h
      simp only[Option.bind_some]at h
      cases he:ext l rd x r with
      | none=>rw[he]at h;cases h
      | some e=>
        rw[he]at h
        simp only[Option.bind_some]at h
        cases hi:its l rd e.2 with
        | none=>rw[hi]at h;cases h
        | some m=>rw[hi]at h;cases h
theorem due_is(l:List Nat)(rd:List Nat→Option PyData)(ps:List (List Nat)):due l rd ps=wht l rd ps:=by
  unfold due wht
  cases hi:its l rd ps with
  | none=>
    simp only[Option.bind_none]
    cases hp:prs l rd 12 ps with
    | none=>rfl
    | some q=>
      obtain⟨s,r⟩:=q
      cases r with
      | cons y r=>rfl
      | nil=>
        obtain⟨is,h⟩:=pr_its 12 ps s [] hp [] rfl
        rw[h]at hi;cases hi
  | some is=>
    simp only[Option.bind_some]
    obtain⟨a,b⟩:=hts_pr 12 1 is rfl
    rcases pr_it 12 ps is hi with ⟨h1,h2⟩ | ⟨s,r,r',h1,h2,h3,h4⟩
    · rw[h1,if_neg (b h2 []),ite_self]
    · rw[h1,a s r' h2 []]
      cases r' with
      | nil=>
        rw[its_nil h3]at *
        have e4:is.length=pnS s:=by simpa using h4
        rw[if_pos (show hts [] []=some []from rfl),stk_pr 12 is s [] h2,e4]
        show _=if pnS s≤40 then some s else none
        by_cases z:pnS s≤40
        · rw[if_neg (by omega),if_pos z];rfl
        · rw[if_pos (by omega),if_neg z]
      | cons i r'=>
        have hr:r≠[]:=fun e=>by rw[e]at h3;cases h3
        rw[if_neg (show ¬hts [] (i::r')=some [] by simp[hts]),ite_self]
        cases r with
        | nil=>exact absurd rfl hr
        | cons y r=>rfl
def OW(r:Option PyData)(us:List V)(H:Hp):Prop:=match r with
  | none=>us=[]
  | some d=>∃u,us=[u]∧WV H u d
def yn(a b:Addr):List (L2.Key × V):=[(Sum.inr (Str.ofString "yes"),.ref a),(Sum.inr (Str.ofString "no"),.ref b)]
theorem yn_mg(a b:Addr):c0n [] (yn a b)=yn a b:=by kernel_rfl
theorem yn_y(a b:Addr):valV (yn a b) (Sum.inr (Str.ofString "yes"))=some (.ref a):=by kernel_rfl
theorem yn_n(a b:Addr):valV (yn a b) (Sum.inr (Str.ofString "no"))=some (.ref b):=by kernel_rfl
theorem yn_o(a b:Addr){z:Str}(h1:z≠Str.ofString "yes")(h2:z≠Str.ofString "no"):valV (yn a b) (Sum.inr z)=none:=by
  unfold yn
  rw[f0l (fun e=>h1 (Sum.inr.inj e).symm),f0l (fun e=>h2 (Sum.inr.inj e).symm)];rfl
def sp_lrdw(T:Txt K mg t):Sp:=fun vs H Q _=>∃(R:RX w K mg base t),∃nam p so x,So T R nam p∧vs=[so,vT x]∧(SortAt H so nam p∧Gd 400 x)∧∀q us H',Same H H'→H' q=some (.lst us)→OW (R.rd x) us H'→Q (.ref q) H'
theorem f0s(T:Txt K mg t):FnOk Pr w K mg base CX0 2 t.m0h t.l0v ["_law_sort_here","_law_text"] (sp_lrdw (w:=w) (base:=base) T):=by
  refine T.l0s.ok sc_law_read_weight (fun vs H Q E h=>?_) (fun cdv A outer s H vs Q E hr h=>?_)
  · obtain⟨R,nam,p,so,x,_,rfl,_⟩:=h
    rfl
  · obtain⟨R,nam,p,so,x,hS,rfl,⟨⟨q,rfl,hq⟩,g⟩,k⟩:=h
    have zl:10000 < sizeLine:=by decide
    have gl:=g.1
    refine⟨_,(a0c (a0w (a0j b0d (b0b b0e (pv 0) a0f (fun _ _=>rfl)) a0h (a0o _)) (a0g (a0l (pe_dget2 (hu_of hr) (pe_disp (b0s a0h (a0y (a0a e0h a0e)) (b0s a0h (a0y (a0a e0h a0e)) pps_nil)) rfl rfl (fun h=>by cases h) (by decide)) (pv 1) (a0y a0e) ⟨rfl,rfl,rfl,rfl⟩))) a0m) (a0c (a0w (PW.pt (j0c (a0j b0d (b0b b0e (pv 0) a0f (fun _ _=>rfl)) a0h (a0o _)) (h0m (a0j b0d (pv 1) a0h (a0o _))))) (a0g (a0l (a0y (a0a b0v a0e)))) a0m) (a0c (a0w (PW.pt (j0c (a0j b0d (b0b b0e (pv 0) a0f (fun _ _=>rfl)) a0h (a0o _)) (h0m (a0j h0o a0h (pv 1) (by with_unfolding_all rfl))))) (a0c (a0q (i:=2) sc_law_read_weight.nd rfl (Or.inl rfl) (a0n (e0k T) hr.m rfl T.q0j T.p0r.kp T.p0e .nil a0z (a0a (b0c g0t (pv 1) b0j (b0g (g0k PySem.F.plainAttrs_str PySem.F.slot_str_index PySem.F.type_str_index mt_indexS (pv 1) (a0a a0h a0e)))) a0e))) (a0c (a0q (i:=3) sc_law_read_weight.nd rfl (Or.inl rfl) (a0n (e0k T) hr.m rfl T.q0j T.p0r.kp T.p0e .nil a0z (a0a (b0c g0t (pv 1) (b0g (a0t b0t (g0k PySem.F.plainAttrs_str PySem.F.slot_str_index PySem.F.type_str_index mt_indexS (pv 1) (a0a a0h a0e)) a0f)) b0j) a0e))) (a0c (a0w (PW.pt (e0f (a0j j0d (pv 2) b0v (a0o _)) (e0f (a0j j0d (pv 3) b0v (a0o _)) (e0f (a0j k0f (pv 3) a0f (a0o _)) (d0a (a0j op_ne (a0n (e0w T) hr.m rfl T.n0h T.n0m.kp T.n0x .nil a0z (a0a (pv 2) (a0a (pv 3) a0e))) a0f (a0o _))))))) (a0g (a0l (a0y a0e))) a0m) (a0g (a0l (a0y (a0a (b0i (a0a (pv 2) (a0a (pv 3) a0e))) a0e))))))) a0m) (a0c (a0q (i:=4) sc_law_read_weight.nd rfl (Or.inl rfl) (a0n (e0k T) hr.m rfl T.q0j T.p0r.kp T.p0e .nil a0z (a0a (pv 1) a0e))) (a0c (a0w (PW.pt (e0f (a0j j0d (pv 4) b0v (a0o _)) (d0a (PW.pt (j0c (a0j b0d (b0b b0e (pv 0) a0f (fun _ _=>rfl)) a0h (a0o _)) (h0m (f0q (pt_chain op_le k0f a0f (pv 4) (b0b b0e (pv 0) a0f (fun _ _=>rfl)))))))))) (a0g (a0l (a0y a0e))) a0m) (a0c (a0w (a0j b0d (b0b b0e (pv 0) a0f (fun _ _=>rfl)) a0h (a0o _)) (a0g (a0l (a0y (a0a (b0i (a0a (pv 4) (a0a a0f a0e))) a0e)))) a0m) (a0g (a0l (a0y (a0a (pv 4) a0e)))))))))),?_⟩
    refine⟨_,rfl,_,_,_,_,rfl,rfl,SqT.of hq,rfl,rfl,_,rfl,?_⟩
    cases hS with
    | fr=>
      have k:∀q us H',Same H H'→H' q=some (.lst us)→OW (rdF x) us H'→Q (.ref q) H':=k
      rw[show decide (V.str ("fractions":Str)=V.str ("truths":Str))=false by decide +kernel]
      refine iteF ?_
      refine⟨_,rfl,_,_,_,_,rfl,rfl,SqT.of hq,rfl,rfl,_,rfl,?_⟩
      rw[show decide (V.str ("fractions":Str)=V.str ("costs":Str))=false by decide +kernel]
      (try refine iteF ?_)
      (try refine iteF ?_)
      refine⟨_,rfl,_,_,_,_,rfl,rfl,SqT.of hq,rfl,rfl,_,rfl,?_⟩
      rw[show decide (V.str ("fractions":Str)=V.str ("fractions":Str))=true by decide +kernel]
      (try refine iteT ?_)
      refine⟨_,rfl,_,_,rfl,rfl,_,rfl,?_⟩
      dsimp only
      cases hc:l0a x with
      | none=>
        have e0:Builtin.Str.occurrences (tx x) (Str.ofString "/") 0 (tx x).length 1=[]:=List.head?_eq_none_iff.mp hc
        rw[rdF,hc]at k
        dsimp only at k
        refine iteN (by rw[e0];rfl) ?_
        refine⟨_,rfl,x,rfl,g,fun H1 s1=>?_⟩
        refine⟨_,rfl,rfl,_,rfl,?_⟩
        dsimp only
        by_cases hw:wr x=true
        · simp only[if_pos hw]at k ⊢
          (try refine iteF ?_)
          refine⟨_,rfl,_,_,_,_,rfl,rfl,SqT.of (s1 _ _ hq),rfl,rfl,_,rfl,?_⟩
          rw[show decide (V.str ("fractions":Str)=V.str ("residues":Str))=false by decide +kernel]
          (try refine iteF ?_)
          (try refine iteF ?_)
          refine⟨_,rfl,_,_,_,_,rfl,rfl,SqT.of (s1 _ _ hq),rfl,rfl,_,rfl,?_⟩
          rw[show decide (V.str ("fractions":Str)=V.str ("fractions":Str))=true by decide +kernel]
          (try refine iteT ?_)
          refine⟨_,rfl,(by show 2≤sizeLine;omega),fun p1 n1=>⟨(by show 1≤sizeLine;omega),fun q1 m1=>?_⟩⟩
          have t1:=a0d (o:=.tup [V.int (nm x),.int 1]) n1
          have t2:=a0d (o:=.lst [V.ref p1]) m1
          exact k q1 _ _ (s1.trans (t1.trans t2)) a0b ⟨_,rfl,p1,rfl,t2 _ _ a0b⟩
        · simp only[if_neg hw]at k ⊢
          (try refine iteT ?_)
          (try refine iteT ?_)
          exact⟨(by show 0≤sizeLine;omega),fun q1 m1=>k q1 _ _ (s1.trans (a0d m1)) a0b rfl⟩
      | some i=>
        obtain⟨rest,e0⟩:=List.head?_eq_some_iff.mp hc
        rw[rdF,hc]at k
        dsimp only at k
        have hle:=cut_le hc
        refine iteY (by rw[e0];rfl) ?_
        have e1:Txt.slice (tx x) none (some (i:Int))=tx (x.take i):=by rw[sl_toG (by omega)];rfl
        have e2:Txt.slice (tx x) (some ((i:Int)+1)) none=tx (x.drop (i+1)):=by rw[j0w (by omega)];rfl
        refine⟨_,rfl,_,rfl,rfl,_,_,i,rest,rfl,rfl,e0,_,rfl,?_⟩
        refine⟨_,rfl,(by rw[a0u];omega),x.take i,(by rw[e1];rfl),g.take i,fun H1 s1=>?_⟩
        show b0m 2 (if wr (x.take i)=true then V.int (nm (x.take i))else .non) [some (.ref q),some (vT x),none,none,none] H1 _
        refine⟨_,rfl,_,rfl,rfl,_,_,i,rest,rfl,rfl,e0,_,_,rfl,rfl,_,rfl,?_⟩
        refine⟨_,rfl,(by rw[a0u];omega),x.drop (i+1),(by rw[e2];rfl),g.drop (i+1),fun H2 s2=>?_⟩
        show b0m 3 (if wr (x.drop (i+1))=true then V.int (nm (x.drop (i+1)))else .non) [some (.ref q),some (vT x),some (if wr (x.take i)=true then V.int (nm (x.take i))else .non),none,none] H2 _
        have s12:=s1.trans s2
        revert k
        generalize x.take i=u
        generalize x.drop (i+1)=v
        intro k
        have no:¬(wr u=true∧wr v=true∧2≤nm v∧dv (nm u) (nm v)=1)→∀q1,H2 q1=none→Q (.ref q1) (upd H2 q1 (.lst [])):=fun z q1 m1=>k q1 _ _ (s12.trans (a0d m1)) a0b (by rw[if_neg z];rfl)
        by_cases hu:wr u=true
        rotate_left
        · simp only[if_neg hu]
          refine⟨_,rfl,rfl,_,rfl,?_⟩
          (try refine iteT ?_)
          (try refine iteT ?_)
          exact⟨(by show 0≤sizeLine;omega),fun q1 m1=>no (fun z=>hu z.1) q1 m1⟩
        simp only[if_pos hu]
        refine⟨_,rfl,rfl,_,rfl,?_⟩
        (try refine iteF ?_)
        by_cases hv:wr v=true
        rotate_left
        · simp only[if_neg hv]
          refine⟨_,rfl,rfl,_,rfl,?_⟩
          (try refine iteT ?_)
          (try refine iteT ?_)
          exact⟨(by show 0≤sizeLine;omega),fun q1 m1=>no (fun z=>hv z.2.1) q1 m1⟩
        simp only[if_pos hv]
        refine⟨_,rfl,rfl,_,rfl,?_⟩
        (try refine iteF ?_)
        refine⟨_,rfl,_,_,rfl,rfl,_,rfl,?_⟩
        dsimp only
        by_cases h2:nm v < 2
        · refine iteY (decide_eq_true h2) ?_
          (try refine iteT ?_)
          exact⟨(by show 0≤sizeLine;omega),fun q1 m1=>no (fun z=>by have:=z.2.2.1;omega) q1 m1⟩
        refine iteN (decide_eq_false h2) ?_
        refine⟨_,rfl,_,rfl,_,_,rfl,?_⟩
        refine⟨rfl,_,rfl,?_⟩
        dsimp only
        by_cases hd:dv (nm u) (nm v)=1
        · refine iteN (by rw[hd];rfl) ?_
          (try refine iteF ?_)
          refine⟨_,rfl,_,rfl,(by show 2≤sizeLine;omega),fun p1 n1=>⟨(by show 1≤sizeLine;omega),fun q1 m1=>?_⟩⟩
          have t1:=a0d (o:=.tup [V.int (nm u),.int (nm v)]) n1
          have t2:=a0d (o:=.lst [V.ref p1]) m1
          exact k q1 _ _ (s12.trans (t1.trans t2)) a0b (by rw[if_pos ⟨hu,hv,by omega,hd⟩];exact⟨_,rfl,p1,rfl,t2 _ _ a0b⟩)
        · refine iteY (by rw[decide_eq_false fun e=>hd (V.int.inj e)];rfl) ?_
          (try refine iteT ?_)
          exact⟨(by show 0≤sizeLine;omega),fun q1 m1=>no (fun z=>hd z.2.2.2) q1 m1⟩
    | re p hp hq' hi=>
      have k:∀q us H',Same H H'→H' q=some (.lst us)→OW (rdR p x) us H'→Q (.ref q) H':=k
      rw[rdR]at k
      rw[show decide (V.str ("residues":Str)=V.str ("truths":Str))=false by decide +kernel]
      refine iteF ?_
      refine⟨_,rfl,_,_,_,_,rfl,rfl,SqT.of hq,rfl,rfl,_,rfl,?_⟩
      rw[show decide (V.str ("residues":Str)=V.str ("costs":Str))=false by decide +kernel]
      (try refine iteF ?_)
      (try refine iteF ?_)
      refine⟨_,rfl,_,_,_,_,rfl,rfl,SqT.of hq,rfl,rfl,_,rfl,?_⟩
      rw[show decide (V.str ("residues":Str)=V.str ("fractions":Str))=false by decide +kernel]
      (try refine iteF ?_)
      (try refine iteF ?_)
      refine⟨_,rfl,x,rfl,g,fun H1 s1=>?_⟩
      refine⟨_,rfl,rfl,_,rfl,?_⟩
      dsimp only
      by_cases hw:wr x=true
      · simp only[if_pos hw]at ⊢
        (try refine iteF ?_)
        refine⟨_,rfl,_,_,_,_,rfl,rfl,SqT.of (s1 _ _ hq),rfl,rfl,_,rfl,?_⟩
        rw[show decide (V.str ("residues":Str)=V.str ("residues":Str))=true by decide +kernel]
        (try refine iteT ?_)
        refine⟨_,rfl,_,_,rfl,rfl,_,rfl,?_⟩
        dsimp only
        by_cases h0:0≤nm x
        · refine iteY (decide_eq_true h0) ?_
          refine⟨_,rfl,_,_,_,_,rfl,rfl,SqT.of (s1 _ _ hq),rfl,_,_,rfl,rfl,_,rfl,?_⟩
          (try dsimp only)
          by_cases h1:nm x < p
          · refine iteN (by rw[decide_eq_true h1];rfl) ?_
            (try refine iteF ?_)
            refine⟨_,rfl,_,_,_,_,rfl,rfl,SqT.of (s1 _ _ hq),rfl,rfl,_,rfl,?_⟩
            rw[show decide (V.str ("residues":Str)=V.str ("fractions":Str))=false by decide +kernel]
            (try refine iteF ?_)
            exact⟨_,rfl,(by show 1≤sizeLine;omega),fun q1 m1=>k q1 _ _ (s1.trans (a0d m1)) a0b (by rw[if_pos ⟨hw,h0,h1⟩];exact⟨_,rfl,rfl⟩)⟩
          · refine iteY (by rw[decide_eq_false h1];rfl) ?_
            (try refine iteT ?_)
            exact⟨(by show 0≤sizeLine;omega),fun q1 m1=>k q1 _ _ (s1.trans (a0d m1)) a0b (by rw[if_neg (fun z=>h1 z.2.2)];rfl)⟩
        · refine iteN (decide_eq_false h0) ?_
          refine⟨_,rfl,?_⟩
          (try refine iteT ?_)
          (try refine iteT ?_)
          exact⟨(by show 0≤sizeLine;omega),fun q1 m1=>k q1 _ _ (s1.trans (a0d m1)) a0b (by rw[if_neg (fun z=>h0 z.2.1)];rfl)⟩
      · have k':=fun q us H' (a:Same H H') (b:H' q=some (.lst us)) (c:us=[])=>k q us H' a b (by rw[if_neg (fun z=>hw z.1)];exact c)
        simp only[if_neg hw]at ⊢
        (try refine iteT ?_)
        (try refine iteT ?_)
        exact⟨(by show 0≤sizeLine;omega),fun q1 m1=>k' q1 _ _ (s1.trans (a0d m1)) a0b rfl⟩
    | co=>
      have k:∀q us H',Same H H'→H' q=some (.lst us)→OW (rdC x) us H'→Q (.ref q) H':=k
      rw[rdC]at k
      rw[show decide (V.str ("costs":Str)=V.str ("truths":Str))=false by decide +kernel]
      refine iteF ?_
      refine⟨_,rfl,_,_,_,_,rfl,rfl,SqT.of hq,rfl,rfl,_,rfl,?_⟩
      rw[show decide (V.str ("costs":Str)=V.str ("costs":Str))=true by decide +kernel]
      (try refine iteT ?_)
      refine⟨_,rfl,rfl,_,rfl,?_⟩
      dsimp only
      refine iteS (fun h=>?_) (fun h=>?_)
      · simp only[if_pos h]at k
        (try refine iteT ?_)
        exact⟨(by show 1≤sizeLine;omega),fun q1 m1=>k q1 _ _ (a0d m1) a0b ⟨_,rfl,rfl⟩⟩
      · simp only[if_neg h]at k
        (try refine iteF ?_)
        refine⟨_,rfl,_,_,_,_,rfl,rfl,SqT.of hq,rfl,rfl,_,rfl,?_⟩
        rw[show decide (V.str ("costs":Str)=V.str ("fractions":Str))=false by decide +kernel]
        (try refine iteF ?_)
        (try refine iteF ?_)
        refine⟨_,rfl,x,rfl,g,fun H1 s1=>?_⟩
        refine⟨_,rfl,rfl,_,rfl,?_⟩
        dsimp only
        by_cases hw:wr x=true
        · simp only[if_pos hw]at k ⊢
          (try refine iteF ?_)
          refine⟨_,rfl,_,_,_,_,rfl,rfl,SqT.of (s1 _ _ hq),rfl,rfl,_,rfl,?_⟩
          rw[show decide (V.str ("costs":Str)=V.str ("residues":Str))=false by decide +kernel]
          (try refine iteF ?_)
          (try refine iteF ?_)
          refine⟨_,rfl,_,_,_,_,rfl,rfl,SqT.of (s1 _ _ hq),rfl,rfl,_,rfl,?_⟩
          rw[show decide (V.str ("costs":Str)=V.str ("fractions":Str))=false by decide +kernel]
          (try refine iteF ?_)
          exact⟨_,rfl,(by show 1≤sizeLine;omega),fun q1 m1=>k q1 _ _ (s1.trans (a0d m1)) a0b ⟨_,rfl,rfl⟩⟩
        · simp only[if_neg hw]at k ⊢
          (try refine iteT ?_)
          (try refine iteT ?_)
          exact⟨(by show 0≤sizeLine;omega),fun q1 m1=>k q1 _ _ (s1.trans (a0d m1)) a0b rfl⟩
    | tr=>
      have k:∀q us H',Same H H'→H' q=some (.lst us)→OW (rdT x) us H'→Q (.ref q) H':=k
      rw[rdT]at k
      rw[show decide (V.str ("truths":Str)=V.str ("truths":Str))=true by decide +kernel]
      refine iteT ?_
      intro d nd
      refine⟨(by show 1≤sizeLine;omega),fun l1 n1=>⟨(by show 1≤sizeLine;omega),fun l2 n2=>?_⟩⟩
      have s0:=a0d (o:=.dK []) nd
      have s1:=a0d (o:=.lst [V.bl true]) n1
      have s2:=a0d (o:=.lst [V.bl false]) n2
      have e1:l1≠d:=fun e=>by rw[e,a0b]at n1;cases n1
      have e2:l2≠d:=fun e=>by rw[e,s1 _ _ a0b]at n2;cases n2
      refine⟨(s1.trans s2) _ _ a0b,yn l1 l2,rfl,(by show 2≤15;decide),?_⟩
      have h1:=s2 _ _ (a0b (H:=upd H d (.dK [])) (a:=l1) (o:=.lst [V.bl true]))
      have h2:=a0b (H:=upd (upd H d (.dK [])) l1 (.lst [V.bl true])) (a:=l2) (o:=.lst [V.bl false])
      have s02:=s0.trans (s1.trans s2)
      revert h1 h2 s02
      generalize upd (upd (upd H d (.dK [])) l1 (.lst [V.bl true])) l2 (.lst [V.bl false])=H2
      intro h1 h2 s02
      rw[yn_mg]
      have s3:Same H (upd H2 d (.dK (yn l1 l2))):=fun b o e=>by
        rw[a0v (a0s e nd)]
        exact s02 _ _ e
      refine⟨d,rfl,.inl ⟨_,.inl a0b⟩,_,rfl,(by show 0≤sizeLine;omega),fun l3 n3=>?_⟩
      have s4:=a0d (o:=.lst ([]:List V)) n3
      have gd:=DGet.k (k:=Sum.inr (tx x)) (s4 _ _ (a0b (H:=H2) (a:=d) (o:=.dK (yn l1 l2))))
      refine⟨_,gd,?_⟩
      by_cases hy:tx x=Str.ofString "yes"
      · rw[if_pos hy]at k
        rw[hy,yn_y]
        exact k l1 _ _ (s3.trans s4) (s4 _ _ (by rw[a0v e1];exact h1)) ⟨_,rfl,rfl⟩
      · rw[if_neg hy]at k
        by_cases hn:tx x=Str.ofString "no"
        · rw[if_pos hn]at k
          rw[hn,yn_n]
          exact k l2 _ _ (s3.trans s4) (s4 _ _ (by rw[a0v e2];exact h2)) ⟨_,rfl,rfl⟩
        · rw[if_neg hn]at k
          rw[yn_o _ _ hy hn]
          exact k l3 _ _ (s3.trans s4) a0b rfl
def ItV(i:List Nat × Ex)(v:V)(H:Hp):Prop:=∃p es,v=.ref p∧H p=some (.tup (vT i.1::es))∧EVx i.2 es H
theorem ItV.same{H H':Hp}(e:SameT H H'){i:List Nat × Ex}{v:V}(h:ItV i v H):ItV i v H':=by
  obtain⟨p,es,rfl,h1,h2⟩:=h
  exact⟨p,es,rfl,e _ _ h1,h2.same e⟩
def ItsV(is:List (List Nat × Ex))(us:List V)(H:Hp):Prop:=Ents (fun i u H=>∃r,is[i]? = some r∧ItV r u H) us is.length H
def forms6:List V:=[V.str (Str.ofString "nil"),V.str (Str.ofString "back"),V.str (Str.ofString "star"),V.str (Str.ofString "sum"),V.str (Str.ofString "then"),V.str (Str.ofString "both")]
theorem in6(x:List Nat)(hw:x≠nW)(ht:x≠nT):inV (vT x) forms6=(ar x).isSome:=by
  have e:∀(y:List Nat),eqV (vT y) (vT x)=decide (y=x):=fun y=>by
    show decide (tx y=tx x)=_
    exact decide_eq_decide.mpr ⟨b0x,fun h=>by rw[h]⟩
  have f:forms6=[vT nN,vT (n1 false),vT (n1 true),vT (n2 0),vT (n2 1),vT (n2 2)]:=by
    unfold forms6
    rw[i0s,bk_is,st_is,sm_is,th_is,bo_is];rfl
  rw[inV,f]
  simp only[List.any_cons,List.any_nil,e]
  cases h:ar x with
  | some k=>
    rcases d0d h with ⟨rfl,_⟩ | ⟨rfl,_⟩ | ⟨rfl,_⟩ | ⟨rfl,_⟩ | ⟨rfl,_⟩ | ⟨rfl,_⟩ | ⟨rfl,_⟩ | ⟨rfl,_⟩ <;>first | exact absurd rfl hw | exact absurd rfl ht | (rw[Option.isSome_some];decide)
  | none=>
    have g:∀y k,ar y=some k→decide (y=x)=false:=fun y k hy=>decide_eq_false fun e=>by rw[e,h]at hy;cases hy
    rw[g nN 0 (by decide),g (n1 false) 1 (by decide),g (n1 true) 1 (by decide),g (n2 0) 2 (by decide),g (n2 1) 2 (by decide),g (n2 2) 2 (by decide)];rfl
def sp_litems(T:Txt K mg t):Sp:=fun vs H Q _=>∃(R:RX w K mg base t),∃nam p so l a,∃ps:List (List Nat),So T R nam p∧vs=[so,vT l,.ref a]∧(SortAt H so nam p∧H a=some (.lst (ps.map vT))∧(∀x∈ps,Gd 400 x)∧ps.length≤400)∧
  (its l R.rd ps=none→∀H',Same H H'→Q .non H')∧(∀is,its l R.rd ps=some is→∀q us H',Same H H'→H' q=some (.lst us)→ItsV is us H'→Q (.ref q) H')
theorem h0c{H H':Hp}{q:Addr}{o:HO}(s:Same H H')(n:H q=none):Same H (upd H' q o):=fun b u e=>by
  rw[a0v (a0s e n)]
  exact s _ _ e
theorem ok_law_items(T:Txt K mg t):FnOk Pr w K mg base CX0 3 t.s0o t.p0q ["_law_sort_here","_law_letters_here","_law_texts_here"] (sp_litems (w:=w) (base:=base) T):=by
  refine T.q0f.ok sc_law_items (fun vs H Q E h=>?_) (fun cdv A outer s H vs Q E hr h=>?_)
  · obtain⟨R,nam,p,so,l,a,ps,_,rfl,_⟩:=h
    rfl
  · obtain⟨R,nam,p,so,l,a,ps,hS,rfl,⟨hso,ha,hg,hl⟩,kn,k⟩:=h
    have zl:10000 < sizeLine:=by decide
    refine⟨_,(a0c (a0q (i:=3) sc_law_items.nd rfl (Or.inl rfl) (a0y a0e)) (a0c (a0q (i:=4) sc_law_items.nd rfl (Or.inl rfl) a0f) (a0c (h0f PassesOwn.never (a0j k0f (pv 4) (a0x b0u (by rfl) T.z_len PySem.boot_len (a0a (pv 2) a0e)) (a0o _)) (a0c (a0q (i:=5) sc_law_items.nd rfl (Or.inl rfl) (b0b b0h (pv 2) (pv 4) (fun _ _=>rfl))) (a0c (a0q (i:=6) sc_law_items.nd rfl (Or.inl rfl) (a0y a0e)) (a0c (a0w (PW.pt (e0f (a0j b0d (pv 5) a0h (a0o _)) (d0a (a0j b0d (pv 5) a0h (a0o _))))) (a0c (ps_aug (i:=4) sc_law_items.nd rfl (Or.inl rfl) a0f ip_add) (a0c (a0w (a0j b0d (pv 4) (a0x b0u (by rfl) T.z_len PySem.boot_len (a0a (pv 2) a0e)) (a0o _)) (a0g (a0l b0v)) a0m) (a0c (a0w (a0j b0d (pv 5) a0h (a0o _)) (a0g (a0q (i:=6) sc_law_items.nd rfl (Or.inl rfl) (a0n (i0p T) hr.m rfl T.n0d T.n0b.kp T.m0v .nil a0z (a0a (pv 1) (a0a (b0b b0h (pv 2) (pv 4) (fun _ _=>rfl)) a0e))))) (a0g (a0q (i:=6) sc_law_items.nd rfl (Or.inl rfl) (a0n (f0s T) hr.m rfl T.l0t T.l0s.kp T.l0u .nil a0z (a0a (pv 0) (a0a (b0b b0h (pv 2) (pv 4) (fun _ _=>rfl)) a0e)))))) (a0g (a0w (a0j (op_eqD hr.units) (pv 6) (a0y a0e) (a0o _)) (a0g (a0l b0v)) a0m))))) (a0g (a0w (a0j op_notIn_seq (pv 5) (b0i (a0a a0h (a0a a0h (a0a a0h (a0a a0h (a0a a0h (a0a a0h a0e))))))) (by with_unfolding_all rfl)) (a0g (a0l b0v)) a0m))) (a0c (d0q (g0k PySem.F.plainAttrs_list PySem.F.slot_list_append PySem.F.type_list_append h0w (pv 3) (a0a (a0t h0q (b0i (a0a (pv 5) a0e)) (b0y f0z (by rfl) T.z_tuple boot_tuple (a0a (pv 6) a0e))) a0e))) (a0g (ps_aug (i:=4) sc_law_items.nd rfl (Or.inl rfl) a0f ip_add))))))) (a0g (a0l (pv 3)))))),?_⟩
    refine⟨(by show 0≤sizeLine;omega),fun q nq=>?_⟩
    have h0:=a0b (H:=H) (a:=q) (o:=.lst [])
    have s0:=a0d (o:=.lst ([]:List V)) nq
    refine⟨fun m σ G=>∃(n:Nat) (us:List V) (done:List (List Nat × Ex)) (v5 v6:Option V),m=ps.length - n∧n≤ps.length∧σ=[some so,some (vT l),some (.ref a),some (.ref q),some (.int (n:Int)),v5,v6]∧Same H G∧G q=some (.lst us)∧ItsV done us G∧us.length≤n∧its l R.rd ps=(its l R.rd (ps.drop n)).map fun r=>done++r,⟨_,0,[],[],none,none,rfl,Nat.zero_le _,rfl,s0,h0,⟨rfl,fun i hi=>absurd hi (Nat.not_lt_zero _)⟩,Nat.le_refl _,by rw[List.drop_zero];cases its l R.rd ps <;>rfl⟩,?_⟩
    rintro m σ G ⟨n,us,done,v5,v6,rfl,hn,rfl,sG,hq,hu,ul,hi⟩
    have qa:q≠a:=fun e=>by rw[e,ha]at nq;cases nq
    have haG:=sG _ _ ha
    have lnG:∀G',Same G G'→LenV K (.ref a) G' ps.length:=fun G' s'=>.inl ⟨_,SqL.of (s' _ _ haG),by simp⟩
    refine⟨_,rfl,_,rfl,_,_,rfl,lnG G (Same.refl _),_,_,rfl,rfl,_,rfl,?_⟩
    dsimp only
    by_cases hlt:n < ps.length
    rotate_left
    · refine iteN (decide_eq_false (by omega)) ?_
      refine⟨_,rfl,?_⟩
      exact k done (by rw[hi,List.drop_of_length_le (by omega)];simp[its]) q us G sG hq hu
    refine iteY (decide_eq_true (by omega)) ?_
    obtain⟨x,ex⟩:∃x,ps[n]? = some x:=⟨_,List.getElem?_eq_getElem hlt⟩
    have ed:ps.drop n=x::ps.drop (n+1):=by
      rw[List.drop_eq_getElem_cons hlt]
      rw[List.getElem?_eq_getElem hlt]at ex
      rw[Option.some.inj ex]
    have gx:=hg x (List.mem_of_getElem? ex)
    have exv:(ps.map vT)[n]? = some (vT x):=by rw[List.getElem?_map,ex];rfl
    refine⟨fun σ' G'=>∃(n':Nat) (us:List V) (done:List (List Nat × Ex)) (v5 v6:Option V),n < n'∧n'≤ps.length∧σ'=[some so,some (vT l),some (.ref a),some (.ref q),some (.int (n':Int)),v5,v6]∧Same H G'∧G' q=some (.lst us)∧ItsV done us G'∧us.length≤n'∧its l R.rd ps=(its l R.rd (ps.drop n')).map fun r=>done++r,fun σ' G' ⟨n',us',done',w5,w6,c1,c2,c3,c4⟩=>⟨ps.length - n',by omega,n',us',done',w5,w6,rfl,c2,c3,c4⟩,?_⟩
    refine⟨_,rfl,_,rfl,_,_,_,_,rfl,rfl,SqL.of haG,c0e exv,?_⟩
    refine⟨(by show 0≤sizeLine;omega),fun q6 n6=>?_⟩
    have t6:=a0d (o:=.lst ([]:List V)) n6
    have k6:=a0b (H:=G) (a:=q6) (o:=.lst [])
    revert t6 k6
    generalize upd G q6 (.lst [])=G6
    intro t6 k6
    show b0m 6 (.ref q6) [some so,some (vT l),some (.ref a),some (.ref q),some (.int (n:Int)),some (vT x),v6] G6 _
    rw[ed,its_eq]at hi
    have none_of:(∀k',ar x=some k'→ext l R.rd x (ps.drop (n+1))=none)→its l R.rd ps=none:=fun h=>by
      rw[hi]
      cases e:ar x with
      | none=>rfl
      | some k'=>simp only[Option.bind_some];rw[h k' e];rfl
    refine(fun(key:∀(n':Nat) (e:Ex) (q7:Addr) (es:List V) (G7:Hp),n≤n'→n' < ps.length→ext l R.rd x (ps.drop (n+1))=some (e,ps.drop (n'+1))→(ar x).isSome=true→Same G G7→G7 q7=some (.lst es)→EVx e es G7→(?F:L2.St→Hp→Prop) [some so,some (vT l),some (.ref a),some (.ref q),some (.int (n':Int)),some (vT x),some (.ref q7)] G7)=>?main) ?rest
    case main=>
      refine⟨_,rfl,rfl,_,rfl,?_⟩
      dsimp only
      by_cases hw:x=nW
      · refine iteY (decide_eq_true (by rw[hw,nW_is];rfl)) ?_
        (try refine iteT ?_)
        refine⟨_,rfl,_,_,rfl,rfl,?_⟩
        refine⟨_,rfl,_,rfl,_,_,rfl,lnG G6 t6,rfl,_,rfl,?_⟩
        dsimp only
        by_cases hend:n+1=ps.length
        · refine iteY (decide_eq_true (by congr 1;omega)) ?_
          refine kn (none_of fun k' _=>?_) _ (sG.trans t6)
          rw[List.drop_of_length_le (by omega)]
          exact j0i hw
        refine iteN (decide_eq_false fun e=>hend (by have:=V.int.inj e;omega)) ?_
        obtain⟨y,ey⟩:∃y,ps[n+1]? = some y:=⟨_,List.getElem?_eq_getElem (by omega)⟩
        have ed2:ps.drop (n+1)=y::ps.drop (n+1+1):=by
          rw[List.drop_eq_getElem_cons (by omega)]
          rw[List.getElem?_eq_getElem (by omega)]at ey
          rw[Option.some.inj ey]
        have gy:=hg y (List.mem_of_getElem? ey)
        have eyv:(ps.map vT)[n+1]? = some (vT y):=by rw[List.getElem?_map,ey];rfl
        refine⟨_,rfl,rfl,_,rfl,?_⟩
        dsimp only
        refine iteY (decide_eq_true (by rw[hw,nW_is];rfl)) ?_
        refine⟨_,rfl,_,rfl,_,rfl,_,_,_,_,rfl,rfl,SqL.of (t6 _ _ haG),c0e (j:=n+1) eyv,l,y,rfl,gy,fun q7 G7 s7 k7=>?_⟩
        show b0m 6 (.ref q7) [some so,some (vT l),some (.ref a),some (.ref q),some (.int ((n+1:Nat):Int)),some (vT x),some (.ref q6)] G7 _
        refine⟨_,rfl,(by show 0≤sizeLine;omega),fun q8 n8=>?_⟩
        have t8:=a0d (o:=.lst ([]:List V)) n8
        have k8:=a0b (H:=G7) (a:=q8) (o:=.lst [])
        have k78:=t8 _ _ k7
        have s68:=t6.trans (s7.trans t8)
        revert k8 k78 s68
        generalize upd G7 q8 (.lst [])=G8
        intro k8 k78 s68
        have i2:Is K G8 (.ref q8) (.list []):=.lst (SqL.of k8) .nil
        have g2:GD 2 (.list []):=GD.lst (k:=1) fun d hd=>nomatch hd
        cases hr:rdw l y with
        | none=>
          rw[hr]at k78
          have i1:Is K G8 (.ref q7) (.list []):=.lst (SqL.of k78) .nil
          refine⟨_,_,i1,i2,g2.sh (by decide),g2.sh (by decide),g2.mix,_,rfl,?_⟩
          refine iteY (PySem.Spec.same_self _) ?_
          refine kn (none_of fun k' _=>?_) _ (sG.trans s68)
          rw[ed2,g0z hw,hr];rfl
        | some z=>
          rw[hr]at k78
          have gz:∀c∈z,c < 1000:=fun c hc=>by
            have zz:z=[]∨z=y:=by
              unfold rdw at hr
              split at hr
              · exact .inl (Option.some.inj hr).symm
              · split at hr
                · cases hr
                · exact .inr (Option.some.inj hr).symm
            rcases zz with rfl | rfl
            · exact nomatch hc
            · have:=gy.2 c hc;omega
          have i1:Is K G8 (.ref q7) (.list [.str (tx z)]):=.lst (SqL.of k78) (.cons (.str _) .nil)
          have g1:GD 2 (.list [.str (tx z)]):=GD.lst (k:=1) fun d hd=>by rw[List.mem_singleton.mp hd];exact f0v gz
          refine⟨_,_,i1,i2,g1.sh (by decide),g2.sh (by decide),(by simp[noMix,noMixAll]),_,rfl,?_⟩
          refine iteN (by simp[PySem.Spec.same,PySem.Spec.sameAll]) ?_
          exact key (n+1) (.w z) q7 [vT z] G8 (by omega) (by omega) (by rw[ed2,g0z hw,hr];rfl) (by rw[hw];decide) s68 k78 rfl
      · refine iteN (decide_eq_false (fun e=>hw (b0x ((V.str.inj e).trans nW_is)))) ?_
        refine⟨_,rfl,rfl,_,rfl,?_⟩
        dsimp only
        by_cases ht:x=nT
        · refine iteY (decide_eq_true (by rw[ht,nT_is];rfl)) ?_
          (try refine iteT ?_)
          refine⟨_,rfl,_,_,rfl,rfl,?_⟩
          refine⟨_,rfl,_,rfl,_,_,rfl,lnG G6 t6,rfl,_,rfl,?_⟩
          dsimp only
          by_cases hend:n+1=ps.length
          · refine iteY (decide_eq_true (by congr 1;omega)) ?_
            refine kn (none_of fun k' _=>?_) _ (sG.trans t6)
            rw[List.drop_of_length_le (by omega)]
            exact ext_tn hw ht
          refine iteN (decide_eq_false fun e=>hend (by have:=V.int.inj e;omega)) ?_
          obtain⟨y,ey⟩:∃y,ps[n+1]? = some y:=⟨_,List.getElem?_eq_getElem (by omega)⟩
          have ed2:ps.drop (n+1)=y::ps.drop (n+1+1):=by
            rw[List.drop_eq_getElem_cons (by omega)]
            rw[List.getElem?_eq_getElem (by omega)]at ey
            rw[Option.some.inj ey]
          have gy:=hg y (List.mem_of_getElem? ey)
          have eyv:(ps.map vT)[n+1]? = some (vT y):=by rw[List.getElem?_map,ey];rfl
          refine⟨_,rfl,rfl,_,rfl,?_⟩
          dsimp only
          refine iteN (decide_eq_false (fun e=>hw (b0x ((V.str.inj e).trans nW_is)))) ?_
          refine⟨_,rfl,_,rfl,_,rfl,_,_,_,_,rfl,rfl,SqL.of (t6 _ _ haG),c0e (j:=n+1) eyv,R,nam,p,so,y,hS,rfl,⟨hso.same (sG.trans t6).t,gy⟩,fun q7 es G7 s7 k7 ow=>?_⟩
          show b0m 6 (.ref q7) [some so,some (vT l),some (.ref a),some (.ref q),some (.int ((n+1:Nat):Int)),some (vT x),some (.ref q6)] G7 _
          refine⟨_,rfl,(by show 0≤sizeLine;omega),fun q8 n8=>?_⟩
          have t8:=a0d (o:=.lst ([]:List V)) n8
          have k8:=a0b (H:=G7) (a:=q8) (o:=.lst [])
          have k78:=t8 _ _ k7
          have s68:=t6.trans (s7.trans t8)
          revert t8 k8 k78 s68
          generalize upd G7 q8 (.lst [])=G8
          intro t8 k8 k78 s68
          have i2:Is K G8 (.ref q8) (.list []):=.lst (SqL.of k8) .nil
          have g2:GD 2 (.list []):=GD.lst (k:=1) fun d hd=>nomatch hd
          cases hr:R.rd y with
          | none=>
            rw[hr]at ow
            obtain rfl:es=[]:=ow
            have i1:Is K G8 (.ref q7) (.list []):=.lst (SqL.of k78) .nil
            refine⟨_,_,i1,i2,g2.sh (by decide),g2.sh (by decide),g2.mix,_,rfl,?_⟩
            refine iteY (PySem.Spec.same_self _) ?_
            refine kn (none_of fun k' _=>?_) _ (sG.trans s68)
            rw[ed2,j0j hw ht,hr];rfl
          | some d=>
            rw[hr]at ow
            obtain⟨u,rfl,wv⟩:=ow
            have wv8:=wv.st t8.t
            have i1:Is K G8 (.ref q7) (.list [d]):=.lst (SqL.of k78) (.cons (WV.is wv.wd wv8) .nil)
            have g1:GD 3 (.list [d]):=GD.lst (k:=2) fun d' hd=>by rw[List.mem_singleton.mp hd];exact wd_gd wv.wd
            refine⟨_,_,i1,i2,g1.sh (by decide),g2.sh (by decide),(by simp[noMix,noMixAll]),_,rfl,?_⟩
            refine iteN (by simp[PySem.Spec.same,PySem.Spec.sameAll]) ?_
            exact key (n+1) (.d d) q7 [u] G8 (by omega) (by omega) (by rw[ed2,j0j hw ht,hr];rfl) (by rw[ht];decide) s68 k78 ⟨u,rfl,wv8⟩
        · refine iteN (decide_eq_false (fun e=>ht (b0x ((V.str.inj e).trans nT_is)))) ?_
          (try refine iteF ?_)
          refine⟨_,rfl,(by show 6≤sizeLine;omega),fun p8 n8=>?_⟩
          have t8:=a0d (o:=.tup forms6) n8
          refine⟨p8,forms6,rfl,.inr (SqT.of a0b),rfl,rfl,_,rfl,?_⟩
          dsimp only
          have i6:=in6 x hw ht
          cases ha':ar x with
          | none=>
            rw[ha']at i6
            refine iteY (by rw[i6];rfl) ?_
            exact kn (none_of fun k' e=>by rw[ha']at e;cases e) _ (sG.trans (t6.trans t8))
          | some k'=>
            rw[ha']at i6
            refine iteN (by rw[i6];rfl) ?_
            exact key n .no q6 [] _ (Nat.le_refl _) hlt (i0f hw ht) (by rw[ha'];rfl) (t6.trans t8) (t8 _ _ k6) rfl
    case rest=>
      intro n' e q7 es G7 h1 h2 he ha7 s7 k7 ev
      obtain⟨k',ea⟩:=Option.isSome_iff_exists.mp ha7
      rw[ea,he]at hi
      simp only[Option.bind_some]at hi
      have sH7:=sG.trans s7
      have hq7:=s7 _ _ hq
      refine⟨_,rfl,.inl ⟨rfl,_,SqL.of hq7⟩,_,rfl,(by show 1≤sizeLine;omega),fun p8 n8=>?_⟩
      have t8:=a0d (o:=.tup [vT x]) n8
      refine⟨_,rfl,q7,es,rfl,.inl ⟨SqL.of (t8 _ _ k7),fun p9 n9=>?_⟩⟩
      have t9:=a0d (o:=.tup es) n9
      refine⟨_,_,_,_,rfl,rfl,t9 _ _ a0b,a0b,(by have:=ev.len;show 1+es.length≤_;omega),fun p10 H10 s10 k10=>?_⟩
      have s710:=(t8.trans t9).trans s10
      refine⟨q,us,_,rfl,rfl,s710 _ _ hq7,by omega,?_⟩
      refine⟨_,rfl,_,_,rfl,rfl,?_⟩
      have st:SameT H10 (upd H10 q (.lst (us++[.ref p10]))):=SameX.tl SameX.upd (s710 _ _ hq7)
      refine⟨n'+1,us++[.ref p10],done++[(x,e)],_,_,by omega,by omega,rfl,h0c (sH7.trans s710) nq,a0b,?_,by rw[List.length_append];show _+1≤_;omega,?_⟩
      · exact ents_snoc hu (fun r u h=>(h.same ((s7.trans s710).t)).same st) ⟨p10,es,rfl,st _ _ k10,(ev.same s710.t).same st⟩
      · rw[hi]
        cases its l R.rd (ps.drop (n'+1))with
        | none=>rfl
        | some m=>simp
def szs:List (L2.Key × V):=[(Sum.inr (Str.ofString "nil"),.int 0),(Sum.inr (Str.ofString "word"),.int 0),(Sum.inr (Str.ofString "times"),.int 1),(Sum.inr (Str.ofString "back"),.int 1),(Sum.inr (Str.ofString "star"),.int 1),(Sum.inr (Str.ofString "sum"),.int 2),(Sum.inr (Str.ofString "then"),.int 2),(Sum.inr (Str.ofString "both"),.int 2)]
theorem szs_at{x:List Nat}{k:Nat}(h:ar x=some k):valV (c0n [] szs) (Sum.inr (tx x))=some (.int (k:Nat)):=by
  rcases d0d h with ⟨rfl,rfl⟩ | ⟨rfl,rfl⟩ | ⟨rfl,rfl⟩ | ⟨rfl,rfl⟩ | ⟨rfl,rfl⟩ | ⟨rfl,rfl⟩ | ⟨rfl,rfl⟩ | ⟨rfl,rfl⟩ <;>decide +kernel
def ItOk(l:List Nat)(rd:List Nat→Option PyData)(i:List Nat × Ex):Prop:=∃r e',ext l rd i.1 r=some (i.2,e')∧ar i.1=some (arN i.1)∧arN i.1≤2
theorem its_ok{l:List Nat}{rd:List Nat→Option PyData}:∀(n:Nat) (ps:List (List Nat)) (is:List (List Nat × Ex)),ps.length≤n→its l rd ps=some is→∀i∈is,ItOk l rd i
  | n,[],is,_,h=>by cases h;exact fun _ hi=>nomatch hi
  | n+1,x::ps,is,hn,h=>by
    rw[its_eq]at h
    cases ha:ar x with
    | none=>rw[ha]at h;cases h
    | some k=>
      rw[ha]at h
      simp only[Option.bind_some]at h
      cases he:ext l rd x ps with
      | none=>rw[he]at h;cases h
      | some e=>
        rw[he]at h
        simp only[Option.bind_some]at h
        cases hi:its l rd e.2 with
        | none=>rw[hi]at h;cases h
        | some m=>
          rw[hi]at h
          cases h
          have el:e.2.length≤ps.length:=by
            by_cases hw:x=nW
            · cases ps with
              | nil=>rw[j0i hw]at he;cases he
              | cons y r=>
                rw[g0z hw]at he
                cases hz:rdw l y with
                | none=>rw[hz]at he;cases he
                | some z=>rw[hz]at he;cases he;simp
            · by_cases ht:x=nT
              · cases ps with
                | nil=>rw[ext_tn hw ht]at he;cases he
                | cons y r=>
                  rw[j0j hw ht]at he
                  cases hz:rd y with
                  | none=>rw[hz]at he;cases he
                  | some z=>rw[hz]at he;cases he;simp
              · rw[i0f hw ht]at he;cases he;exact Nat.le_refl _
          intro i hi'
          rcases List.mem_cons.mp hi' with rfl | hi'
          · refine⟨ps,e.2,he,?_,?_⟩
            · rw[arN,ha];rfl
            · have:k≤2:=by rcases d0d ha with ⟨_,rfl⟩ | ⟨_,rfl⟩ | ⟨_,rfl⟩ | ⟨_,rfl⟩ | ⟨_,rfl⟩ | ⟨_,rfl⟩ | ⟨_,rfl⟩ | ⟨_,rfl⟩ <;>decide
              rw[arN,ha];exact this
          · exact its_ok n e.2 m (by rw[List.length_cons]at hn;omega) hi i hi'
def Eno:List (List Nat × Ex)→Prop
  | []=>True
  | i::is=>arN i.1≤(stk is).length∧Eno is
theorem eno_pr:∀(n:Nat) (is:List (List Nat × Ex)) (s:Sy) (r:List (List Nat × Ex)),prI n is=some (s,r)→Eno r→Eno is
  | 0,is,s,r,h,_=>by cases h
  | n+1,[],s,r,h,_=>by cases h
  | n+1,i::is,s,r,h,hr=>by
    have key:∀(k:Nat) (is:List (List Nat × Ex)) (m:List Sy × List (List Nat × Ex)),d0h (prI n) k is=some m→Eno m.2→Eno is∧k≤(stk is).length:=by
      intro k
      induction k with
      | zero=>intro is m h hr;cases h;exact⟨hr,Nat.zero_le _⟩
      | succ k ih=>
        intro is m h hr
        simp only[d0h]at h
        cases hf:prI n is with
        | none=>rw[hf]at h;cases h
        | some q=>
          rw[hf]at h
          simp only[Option.bind_some]at h
          cases hm:d0h (prI n) k q.2 with
          | none=>rw[hm]at h;cases h
          | some m'=>
            rw[hm]at h
            cases h
            obtain⟨a,b⟩:=ih _ _ hm hr
            exact⟨eno_pr n is q.1 q.2 hf a,by rw[stk_pr n is q.1 q.2 hf,List.length_cons];omega⟩
    simp only[prI]at h
    cases hm:d0h (prI n) (arN i.1) is with
    | none=>rw[hm]at h;cases h
    | some m=>
      rw[hm]at h
      cases h
      obtain⟨a,b⟩:=key _ _ _ hm hr
      exact⟨b,a⟩
theorem hts_go{is:List (List Nat × Ex)}(h:hts [1] is=some []):∃s,stk is=[s]∧Eno is:=by
  obtain⟨a,b⟩:=hts_pr 12 1 is rfl
  cases hp:prI 12 is with
  | none=>exact absurd h (b hp [])
  | some q=>
    rw[a q.1 q.2 hp []]at h
    have e:q.2=[]:=by
      cases hq:q.2 with
      | nil=>rfl
      | cons i r=>rw[hq]at h;cases h
    refine⟨q.1,by rw[stk_pr 12 is q.1 q.2 hp,e];rfl,eno_pr 12 is q.1 q.2 hp (by rw[e];trivial)⟩
theorem mixE(ds:List PyData):noMix (.list ds) (.list [])=true:=by cases ds <;>simp[noMix,noMixAll]
theorem sameE(ds:List PyData):PySem.Spec.same (.list ds) (.list [])=ds.isEmpty:=by cases ds <;>simp[PySem.Spec.same,PySem.Spec.sameAll]
def vN(n:Nat):V:=.int (n:Int)
theorem k0w{H:Hp}:∀ws:List Nat,IsAll K H (ws.map vN) (ws.map fun(n:Nat)=>PyData.int (n:Int))
  | []=>.nil
  | n::ws=>.cons (.int _) (k0w ws)
theorem ints_gd(ws:List Nat):GD 2 (.list (ws.map fun(n:Nat)=>PyData.int (n:Int))):=GD.lst (k:=1) fun d hd=>by
  obtain⟨n,_,rfl⟩:=List.mem_map.mp hd
  exact⟨by simp[PyData.canLay0],by simp[PyData.depth],by simp[noMix]⟩
def SVs(m:List Sy)(vs:List V)(H:Hp):Prop:=vs.length=m.length∧∀(j:Nat) u,vs[j]? = some u→∃b,m[j]? = some b∧SV b u H
theorem eno_drop:∀(j:Nat) {is:List (List Nat × Ex)},Eno is→Eno (is.drop j)
  | 0,_,h=>h
  | _+1,[],_=>trivial
  | j+1,_::_,h=>eno_drop j h.2
theorem at0(x:List Nat)(es:List V):atI (vT x::es) 0=some (vT x):=c0e (show(vT x::es)[0]? = some (vT x)from rfl)
def sp_ldue(T:Txt K mg t):Sp:=fun vs H Q _=>∃(R:RX w K mg base t),∃nam p so l a,∃ps:List (List Nat),So T R nam p∧vs=[so,vT l,.ref a]∧(SortAt H so nam p∧H a=some (.lst (ps.map vT))∧(∀x∈ps,Gd 400 x)∧ps.length≤400)∧
  (wht l R.rd ps=none→∀H',Same H H'→Q .non H')∧(∀s,wht l R.rd ps=some s→∀v H',Same H H'→SV s v H'→Q v H')
theorem ok_law_due(T:Txt K mg t):FnOk Pr w K mg base CX0 4 t.u0f t.s0s ["_law_sort_here","_law_letters_here","_law_texts_here"] (sp_ldue (w:=w) (base:=base) T):=by
  refine T.s0i.ok sc_law_due (fun vs H Q E h=>?_) (fun cdv A outer s H vs Q E hr h=>?_)
  · obtain⟨R,nam,p,so,l,a,ps,_,rfl,_⟩:=h
    rfl
  · obtain⟨R,nam,p,so,l,a,ps,hS,rfl,hH,kn,k⟩:=h
    rw[← due_is]at kn
    have k:∀s,due l R.rd ps=some s→∀v H',Same H H'→SV s v H'→Q v H':=fun s e=>k s (by rw[← due_is];exact e)
    have zl:10000 < sizeLine:=by decide
    refine⟨_,(a0c (a0q (i:=3) sc_law_due.nd rfl (Or.inl rfl) (a0n (ok_law_items T) hr.m rfl T.p0p T.q0f.kp T.p0i .nil a0z (a0a (pv 0) (a0a (pv 1) (a0a (pv 2) a0e))))) (a0c (a0w (PW.pt (e0f (a0j j0d (pv 3) b0v (a0o _)) (d0a (a0j h0p (a0x b0u (by rfl) T.z_len PySem.boot_len (a0a (pv 3) a0e)) a0f (a0o _))))) (a0g (a0l b0v)) a0m) (a0c (a0q (i:=4) sc_law_due.nd rfl (Or.inl rfl) (pe_disp (b0s a0h a0f (b0s a0h a0f (b0s a0h a0f (b0s a0h a0f (b0s a0h a0f (b0s a0h a0f (b0s a0h a0f (b0s a0h a0f pps_nil)))))))) rfl rfl (fun h=>by cases h) (by decide))) (a0c (a0q (i:=5) sc_law_due.nd rfl (Or.inl rfl) (a0y (a0a a0f a0e))) (a0c (e0g PassesOwn.never rfl (pi_list (pv 3)) (b0p (i:=6) sc_law_due.nd rfl (Or.inl rfl)) (a0c (a0w (PW.pt (e0f (a0j (op_eqD hr.units) (pv 5) (a0y a0e) (a0o _)) (d0a (a0j h0p (b0b b0h (pv 5) (pe_un un_neg a0f) (fun _ _=>rfl)) a0f (a0o _))))) (a0g (a0l b0v)) a0m) (a0c (a0q (i:=7) sc_law_due.nd rfl (Or.inl rfl) (pe_bm0 PySem.F.plainAttrs_list PySem.F.slot_list_pop PySem.F.type_list_pop mt_pop (pv 5))) (a0g (d0q (g0k PySem.F.plainAttrs_list PySem.F.slot_list_extend PySem.F.type_list_extend mt_extend (pv 5) (a0a (a0t op_rep (a0y (a0a (a0t b0t (pv 7) a0f) a0e)) (pe_dget (hu_of hr) (pv 4) (b0b b0e (pv 6) a0f (fun _ _=>rfl)) (fun _ _=>rfl))) a0e))))))) (a0c (a0w (a0j (op_neD hr.units) (pv 5) (a0y a0e) (a0o _)) (a0g (a0l b0v)) a0m) (a0c (a0q (i:=8) sc_law_due.nd rfl (Or.inr rfl) (a0y a0e)) (a0c (e0g PassesOwn.never rfl (pi_revL rfl T.z_reversed (a0a (pv 3) a0e)) (b0p (i:=6) sc_law_due.nd rfl (Or.inl rfl)) (a0c (a0q (i:=9) sc_law_due.nd rfl (Or.inl rfl) (pe_dget (hu_of hr) (pv 4) (b0b b0e (pv 6) a0f (fun _ _=>rfl)) (fun _ _=>rfl))) (a0c (a0q (i:=10) sc_law_due.nd rfl (Or.inl rfl) (b0y f0z (by rfl) T.z_tuple boot_tuple (a0a (k0e (xs:=["_law_k"]) rfl (show d0v ["_law_sort_here","_law_letters_here","_law_texts_here","_law_items_here","_law_sizes","_law_waiting","_law_item","_law_high","_law_stack","_law_size","_law_inner"] (a0k f0n) _ from⟨rfl,by decide +kernel,by decide +kernel,by decide +kernel,by decide +kernel,by decide +kernel⟩) (d0i rfl T.z_range (a0a (pv 9) a0e)) (fun _ _ _ _ _=>(b0p (i:=11) (by show List.Nodup (["_law_sort_here","_law_letters_here","_law_texts_here","_law_items_here","_law_sizes","_law_waiting","_law_item","_law_high","_law_stack","_law_size","_law_inner","_law_k"]:List Str);decide +kernel) rfl (Or.inl rfl))) (fun _ _ _ _ _=>(show PE _ _ (tBM0 K "list" rPop _)from(pe_bm0 PySem.F.plainAttrs_list PySem.F.slot_list_pop PySem.F.type_list_pop mt_pop (pv 8))))) a0e))) (a0g (d0q (g0k PySem.F.plainAttrs_list PySem.F.slot_list_append PySem.F.type_list_append h0w (pv 8) (a0a (a0t h0q (pv 6) (pv 10)) a0e))))))) (a0g (a0l (b0b b0h (pv 8) a0f (fun _ _=>rfl)))))))))))),?_⟩
    refine⟨_,rfl,_,rfl,_,rfl,R,nam,p,so,l,a,ps,hS,rfl,hH,fun hi H1 s1=>?_,fun is hi qi us H1 s1 k1 hu=>?_⟩
    · have no:due l R.rd ps=none:=by rw[due,hi];rfl
      show b0m 3 .non [some so,some (vT l),some (.ref a),none,none,none,none,none,none,none,none] H1 _
      refine⟨_,rfl,rfl,_,rfl,?_⟩
      (try refine iteT ?_)
      (try refine iteT ?_)
      exact kn no _ s1
    show b0m 3 (.ref qi) [some so,some (vT l),some (.ref a),none,none,none,none,none,none,none,none] H1 _
    refine⟨_,rfl,rfl,_,rfl,?_⟩
    (try refine iteF ?_)
    have hul:=hu.1
    have ln:LenV K (.ref qi) H1 is.length:=.inl ⟨_,SqL.of k1,hul.symm⟩
    refine⟨_,rfl,_,_,rfl,ln,_,_,rfl,rfl,_,rfl,?_⟩
    dsimp only
    by_cases h40:40 < is.length
    · refine iteY (decide_eq_true (by omega)) ?_
      (try refine iteT ?_)
      exact kn (by rw[due,hi];exact if_pos h40) _ s1
    refine iteN (decide_eq_false (by omega)) ?_
    (try refine iteF ?_)
    have hok:=its_ok _ _ _ (Nat.le_refl _) hi
    have kn:hts [1] is≠some []→∀H',Same H H'→Q .non H':=fun h=>kn (by rw[due,hi];show(if 40 < is.length then none else if hts [1] is=some []then _ else none)=none;rw[if_neg h40,if_neg h])
    have k:∀s,hts [1] is=some []→stk is=[s]→∀v H',Same H H'→SV s v H'→Q v H':=fun s h e=>k s (by rw[due,hi];show(if 40 < is.length then none else if hts [1] is=some []then _ else none)=some s;rw[if_neg h40,if_pos h,e];rfl)
    intro d nd
    have sd:=a0d (o:=.dK []) nd
    refine⟨a0b,szs,rfl,(by show 8≤15;decide),?_⟩
    rw[upd_upd]
    have s2:=a0d (o:=.dK (c0n [] szs)) nd
    have k2:=a0b (H:=H1) (a:=d) (o:=.dK (c0n [] szs))
    revert s2 k2
    generalize upd H1 d (.dK (c0n [] szs))=H2
    intro s2 k2
    have s02:=s1.trans s2
    have ki2:=s2 _ _ k1
    have hu2:ItsV is us H2:=hu.mono fun j u _ ⟨r,e1,e2⟩=>⟨r,e1,e2.same s2.t⟩
    show b0m 4 (.ref d) [some so,some (vT l),some (.ref a),some (.ref qi),none,none,none,none,none,none,none] H2 _
    refine⟨(by show 1≤sizeLine;omega),fun qw nw=>?_⟩
    show b0m 5 (.ref qw) [some so,some (vT l),some (.ref a),some (.ref qi),some (.ref d),none,none,none,none,none,none] _ _
    have sw:=a0d (o:=.lst [V.int 1]) nw
    have kw:=a0b (H:=H2) (a:=qw) (o:=.lst [V.int 1])
    have g0:GD 2 (.list []):=GD.lst (k:=1) fun d hd=>nomatch hd
    refine⟨_,rfl,_,rfl,⟨_,SqL.of (sw _ _ ki2)⟩,k0y (a:=qi) (xs:=us) (fun i σ G=>∃(ws:List Nat) (v6 v7:Option V),σ=[some so,some (vT l),some (.ref a),some (.ref qi),some (.ref d),some (.ref qw),v6,v7,none,none,none]∧Same H2 G∧G qw=some (.lst (ws.reverse.map vN))∧ws.length≤1+2 * i∧hts [1] is=hts ws (is.drop i)) ⟨[1],none,none,rfl,sw,kw,Nat.le_refl _,by rw[List.drop_zero]⟩ (fun i σ G _ ⟨ws,v6,v7,_,sG,_⟩=>SqL.of (sG _ _ ki2)) ?_ ?_⟩
    · rintro i x σ G hx ⟨ws,v6,v7,rfl,sG,kG,wl,hh⟩
      have hil:i < us.length:=(List.getElem?_eq_some_iff.mp hx).1
      obtain⟨u,eu,r,er,p6,es,rfl,hp6,ev⟩:=hu2.2 i (by omega)
      rw[hx]at eu
      cases eu
      have edr:is.drop i=r::is.drop (i+1):=by
        rw[List.drop_eq_getElem_cons (by omega)]
        rw[List.getElem?_eq_getElem (by omega)]at er
        rw[Option.some.inj er]
      obtain⟨_,_,_,ar6,ar2⟩:=hok r (List.mem_of_getElem? er)
      show b0m 6 (.ref p6) [some so,some (vT l),some (.ref a),some (.ref qi),some (.ref d),some (.ref qw),v6,v7,none,none,none] G _
      refine⟨_,rfl,(by show 0≤sizeLine;omega),fun q8 n8=>?_⟩
      have t8:=a0d (o:=.lst ([]:List V)) n8
      have k8:=a0b (H:=G) (a:=q8) (o:=.lst [])
      revert t8 k8
      generalize upd G q8 (.lst [])=G8
      intro t8 k8
      have kG8:=t8 _ _ kG
      have sG8:=sG.trans t8
      have i1:Is K G8 (.ref qw) (.list (ws.reverse.map fun(n:Nat)=>PyData.int (n:Int))):=.lst (SqL.of kG8) (k0w _)
      have i2:Is K G8 (.ref q8) (.list []):=.lst (SqL.of k8) .nil
      refine⟨_,_,i1,i2,(ints_gd _).sh (by decide),g0.sh (by decide),mixE _,_,rfl,?_⟩
      rw[sameE]
      cases ws with
      | nil=>
        refine iteY rfl ?_
        (try refine iteT ?_)
        exact kn (by rw[hh,edr,hts];simp) _ (s02.trans sG8)
      | cons h ws=>
      rw[List.reverse_cons,List.map_append]at kG8
      refine iteN (by simp) ?_
      refine⟨_,rfl,_,rfl,_,_,_,_,rfl,rfl,SqL.of kG8,atI_last _ _,_,_,rfl,rfl,_,rfl,?_⟩
      dsimp only
      rw[edr]at hh
      by_cases h12:12 < h
      · refine iteY (decide_eq_true (by omega)) ?_
        (try refine iteT ?_)
        exact kn (by rw[hh,hts,if_pos h12];simp) _ (s02.trans sG8)
      refine iteN (decide_eq_false (by omega)) ?_
      (try refine iteF ?_)
      rw[hts,if_neg h12]at hh
      refine⟨_,rfl,.inl ⟨rfl,_,SqL.of kG8⟩,qw,_,vN h,rfl,rfl,kG8,by simp,?_⟩
      have e9:((ws.reverse.map vN)++[vN h]).dropLast=ws.reverse.map vN:=by simp
      rw[show List.map vN [h]=[vN h]from rfl,e9]
      have s9:Same H2 (upd G8 qw (.lst (ws.reverse.map vN))):=h0c sG8 nw
      have k9:=a0b (H:=G8) (a:=qw) (o:=.lst (ws.reverse.map vN))
      revert s9 k9
      generalize upd G8 qw (.lst (ws.reverse.map vN))=G9
      intro s9 k9
      show b0m 7 (vN h) [some so,some (vT l),some (.ref a),some (.ref qi),some (.ref d),some (.ref qw),some (.ref p6),v7,none,none,none] G9 _
      refine⟨_,rfl,.inl ⟨rfl,_,SqL.of k9⟩,_,rfl,_,_,rfl,rfl,(by show 1≤sizeLine;omega),fun q10 n10=>?_⟩
      have t10:=a0d (o:=.lst [V.int ((h:Int)+1)]) n10
      have s10:=s9.trans t10
      refine⟨_,rfl,_,rfl,_,_,_,_,rfl,rfl,SqT.of (s10 _ _ hp6),at0 r.1 es,_,_,rfl,(by have:=DGet.k (k:=Sum.inr (tx r.1)) (s10 _ _ k2);rw[szs_at ar6]at this;exact this),?_⟩
      refine⟨q10,_,_,rfl,rfl,a0b,by omega,by omega,(by show 1 * _≤_;omega),fun q11 n11=>?_⟩
      have e11:(List.replicate ((arN r.1:Nat):Int).toNat [V.int ((h:Int)+1)]).flatten=(List.replicate (arN r.1) (h+1)).map vN:=by
        rw[Int.toNat_natCast,List.map_replicate]
        generalize arN r.1=m
        induction m with
        | zero=>rfl
        | succ m ih=>rw[List.replicate_succ,List.flatten_cons,ih];rfl
      rw[e11]
      have t11:=a0d (o:=.lst ((List.replicate (arN r.1) (h+1)).map vN)) n11
      refine⟨qw,q11,_,_,rfl,rfl,t11 _ _ (t10 _ _ k9),a0b,(by simp at wl ⊢;omega),?_⟩
      refine⟨List.replicate (arN r.1) (h+1)++ws,_,_,rfl,h0c (s10.trans t11) nw,?_,(by simp at wl ⊢;omega),hh⟩
      rw[a0b,List.reverse_append,List.map_append,List.reverse_replicate]
    · rintro σ G ⟨ws,v6,v7,rfl,sG,kG,wl,hh⟩
      rw[List.drop_of_length_le (by omega)]at hh
      have hh:hts [1] is=some ws:=by rw[hh];cases ws <;>rfl
      refine⟨_,rfl,(by show 0≤sizeLine;omega),fun q8 n8=>?_⟩
      have t8:=a0d (o:=.lst ([]:List V)) n8
      have k8:=a0b (H:=G) (a:=q8) (o:=.lst [])
      revert t8 k8
      generalize upd G q8 (.lst [])=G8
      intro t8 k8
      have sG8:=sG.trans t8
      have i1:Is K G8 (.ref qw) (.list (ws.reverse.map fun(n:Nat)=>PyData.int (n:Int))):=.lst (SqL.of (t8 _ _ kG)) (k0w _)
      have i2:Is K G8 (.ref q8) (.list []):=.lst (SqL.of k8) .nil
      refine⟨_,_,i1,i2,(ints_gd _).sh (by decide),g0.sh (by decide),mixE _,_,rfl,?_⟩
      rw[sameE]
      cases ws with
      | cons h ws=>
        refine iteY (by simp) ?_
        exact kn (by rw[hh];simp) _ (s02.trans sG8)
      | nil=>
      refine iteN rfl ?_
      obtain⟨s1',es1,eno⟩:=hts_go hh
      have k:=k s1' hh es1
      refine⟨(by show 0≤sizeLine;omega),fun qs ns=>?_⟩
      have ts:=a0d (o:=.lst ([]:List V)) ns
      have ks:=a0b (H:=G8) (a:=qs) (o:=.lst [])
      show b0m 8 (.ref qs) [some so,some (vT l),some (.ref a),some (.ref qi),some (.ref d),some (.ref qw),v6,v7,none,none,none] _ _
      refine⟨_,rfl,qi,us,rfl,SqL.of (ts _ _ (sG8 _ _ ki2)),for_it (n:=us.length) (fun i σ F=>∃(vs:List V) (v6 v9 v10:Option V),σ=[some so,some (vT l),some (.ref a),some (.ref qi),some (.ref d),some (.ref qw),v6,v7,some (.ref qs),v9,v10]∧Same G8 F∧F qs=some (.lst vs.reverse)∧SVs (stk (is.drop (us.length - i))) vs F∧vs.length≤i) ⟨[],v6,none,none,rfl,ts,ks,⟨by rw[List.drop_of_length_le (by omega)];rfl,fun j u e=>by simp at e⟩,Nat.le_refl _⟩ ?_ ?_⟩
      · rintro i σ F hi' ⟨vs,v6,v9,v10,rfl,sF,kF,sv,vl⟩
        have hj:us.length - 1 - i < us.length:=by omega
        have qF:SqL K F qi us:=SqL.of (sF _ _ (sG8 _ _ ki2))
        refine⟨⟨hi',us,_,qF,List.getElem?_eq_getElem hj⟩,fun x F0 hy=>?_⟩
        obtain⟨rfl,hy⟩:=hy
        have hx:=hy us qF
        obtain⟨u,eu,r,er,p6,es,rfl,hp6,ev⟩:=hu2.2 (us.length - 1 - i) (by omega)
        rw[hx]at eu
        cases eu
        have edr:is.drop (us.length - (i+1))=r::is.drop (us.length - i):=by
          rw[show us.length - (i+1)=us.length - 1 - i by omega,List.drop_eq_getElem_cons (by omega),show us.length - 1 - i+1=us.length - i by omega]
          rw[List.getElem?_eq_getElem (by omega)]at er
          rw[Option.some.inj er]
        obtain⟨rr,ee,he6,ar6,ar2⟩:=hok r (List.mem_of_getElem? er)
        have en:=eno_drop (us.length - (i+1)) eno
        rw[edr]at en
        have en:=en.1
        rw[← sv.1]at en
        have sF2:=sG8.trans sF
        show b0m 6 (.ref p6) [some so,some (vT l),some (.ref a),some (.ref qi),some (.ref d),some (.ref qw),v6,v7,some (.ref qs),v9,v10] F0 _
        refine⟨_,rfl,_,rfl,_,_,_,_,rfl,rfl,SqT.of (sF2 _ _ hp6),at0 r.1 es,_,_,rfl,(by have:=DGet.k (k:=Sum.inr (tx r.1)) (sF2 _ _ k2);rw[szs_at ar6]at this;exact this),?_⟩
        show b0m 9 (.int ((arN r.1:Nat):Int)) [some so,some (vT l),some (.ref a),some (.ref qi),some (.ref d),some (.ref qw),some (.ref p6),v7,some (.ref qs),v9,v10] F0 _
        refine⟨_,rfl,_,rfl,(by omega),(by omega),l0b (n:=((arN r.1:Nat):Int).toNat) (fun j ys F'=>ys.length=j∧ys=vs.take j∧(∀b,b≠qs→F' b=F0 b)∧F' qs=some (.lst (vs.drop j).reverse)) (by omega) ⟨rfl,rfl,fun _ _=>rfl,by rw[List.drop_zero];exact kF⟩ (fun j ys F' h=>h.1) ?_ ?_ ?_⟩
        · rintro j ys F' hj' ⟨yl,rfl,ob,kF'⟩
          refine⟨hj',fun x F2 hy=>?_⟩
          obtain⟨rfl,rfl⟩:=hy
          have jl:j < vs.length:=by omega
          have ej:vs.drop j=vs[j]::vs.drop (j+1):=List.drop_eq_getElem_cons jl
          rw[ej,List.reverse_cons]at kF'
          refine⟨⟨[some _],rfl,rfl⟩,_,rfl,.inl ⟨rfl,_,SqL.of kF'⟩,qs,_,vs[j],rfl,rfl,kF',(by simp),?_⟩
          refine⟨by rw[List.length_append,yl];rfl,by rw[List.take_succ,List.getElem?_eq_getElem jl];rfl,fun b hb=>by rw[a0v hb];exact ob b hb,by rw[a0b];simp⟩
        · rintro ys F' ⟨yl,rfl,ob,kF'⟩
          exact Nat.le_refl _
        · rintro ys F' p ⟨yl,rfl,ob,kF'⟩ np
          rw[Int.toNat_natCast]at yl kF' ⊢
          have sF':Same G8 F':=fun b o e=>by rw[ob b (a0s e ns)];exact sF _ _ e
          have tF':SameT F0 F':=fun b vs h=>by rw[ob b (fun e=>by rw[e,kF]at h;cases h)];exact h
          have t1:=a0d (o:=.lst (vs.take (arN r.1))) np
          refine⟨p,_,rfl,.inl ⟨SqL.of a0b,fun p2 n2=>?_⟩⟩
          have t2:=a0d (o:=.tup (vs.take (arN r.1))) n2
          have k2':=a0b (H:=upd F' p (.lst (vs.take (arN r.1)))) (a:=p2) (o:=.tup (vs.take (arN r.1)))
          have t12:=t1.trans t2
          revert t12 k2'
          generalize upd (upd F' p (.lst (vs.take (arN r.1)))) p2 (.tup (vs.take (arN r.1)))=F2
          intro k2' t12
          show b0m 10 (.ref p2) [some so,some (vT l),some (.ref a),some (.ref qi),some (.ref d),some (.ref qw),some (.ref p6),v7,some (.ref qs),some (.int ((arN r.1:Nat):Int)),v10] F2 _
          have kq2:=t12 _ _ kF'
          have hp62:=t12 _ _ (tF' _ _ (sF2 _ _ hp6))
          refine⟨_,rfl,.inl ⟨rfl,_,SqL.of kq2⟩,_,rfl,_,rfl,_,_,_,_,rfl,rfl,hp62,k2',(by have:=ev.len;simp;omega),fun p3 F3 s3 k3=>?_⟩
          have kq3:=s3 _ _ kq2
          refine⟨qs,_,_,rfl,rfl,kq3,(by simp;omega),?_⟩
          have st:SameT F3 (upd F3 qs (.lst ((vs.drop (arN r.1)).reverse++[.ref p3]))):=SameX.tl SameX.upd kq3
          have tA:SameT F0 (upd F3 qs (.lst ((vs.drop (arN r.1)).reverse++[.ref p3]))):=fun b o h=>st _ _ (s3 _ _ (t12 _ _ (tF' _ _ h)))
          obtain⟨sv1,sv2⟩:=sv
          refine⟨.ref p3::vs.drop (arN r.1),_,_,_,rfl,h0c ((sF'.trans t12).trans s3) ns,by rw[a0b,List.reverse_cons],?_,by simp;omega⟩
          rw[edr,stk]
          have ml:((stk (is.drop (us.length - i))).take (arN r.1)).length=arN r.1:=by rw[List.length_take];omega
          obtain⟨b1,b2⟩:=j0n ar6 he6 ml
          refine⟨by simp;omega,fun j u hj=>?_⟩
          cases j with
          | zero=>
            cases hj
            refine⟨_,rfl,SV.mk (es:=es) (us:=vs.take (arN r.1)) (ev_bld ar6 he6 ml ((ev.same sF2.t).same tA)) (by rw[b2,ml];exact yl) ?_ (by rw[b1];exact st _ _ k3)⟩
            intro j u hj
            rw[b2]
            have hj2:j < arN r.1:=by have:=(List.getElem?_eq_some_iff.mp hj).1;rw[yl]at this;exact this
            rw[List.getElem?_take_of_lt hj2]at hj ⊢
            obtain⟨b,e1,e2⟩:=sv2 j u hj
            exact⟨b,e1,e2.same tA⟩
          | succ j=>
            rw[List.getElem?_cons_succ]at hj ⊢
            rw[List.getElem?_drop]at hj ⊢
            obtain⟨b,e1,e2⟩:=sv2 _ u hj
            exact⟨b,e1,e2.same tA⟩
      · rintro σ F ⟨vs,v6,v9,v10,rfl,sF,kF,sv,vl⟩
        refine⟨rfl,?_⟩
        rw[Nat.sub_self,List.drop_zero,es1]at sv
        obtain⟨sv1,sv2⟩:=sv
        match vs,sv1 with
        | [v],_=>
          obtain⟨b,e1,e2⟩:=sv2 0 v rfl
          cases e1
          exact⟨_,rfl,_,_,_,_,rfl,rfl,SqL.of kF,rfl,k v F (s02.trans (sG8.trans sF)) e2⟩
def PcN(j:Nat)(ps:List (List Nat)):Prop:=ps.length≤62+j∧∀x∈ps,Gd (63+j) x∧x.count 32≤j
theorem PcN.sub{i j:Nat}{ps:List (List Nat)}(h:PcN i ps)(e:i≤j):∀x∈ps,Gd (63+j) x∧x.count 32≤j:=fun x hx=>⟨(h.2 x hx).1.mono (by omega),by have:=(h.2 x hx).2;omega⟩
theorem f0w(xs:List V)(k:Nat):cutV xs (some (k:Int)) none=xs.drop k:=by
  unfold cutV
  rw[HT.h0d,HT.g0j]
  by_cases h:k≤xs.length
  · rw[Nat.min_eq_left h]
    exact List.take_of_length_le (by rw[List.length_drop];exact Nat.le_refl _)
  · rw[Nat.min_eq_right (by omega),Nat.sub_self,List.take_zero,List.drop_of_length_le (by omega)]
theorem Dr.neT{H:Hp}{a b:Addr}{ps:List (List Nat)}(d:Dr H a)(h:H b=some (.lst (ps.map vT))):b≠a:=fun e=>by
  rw[e]at h
  obtain⟨x,h1 | ⟨y,h1⟩⟩:=d
  · rw[h]at h1
    cases ps with
    | nil=>cases h1
    | cons p ps=>cases h1
  · rw[h]at h1
    cases ps with
    | nil=>cases h1
    | cons p ps=>cases h1
theorem strs_all{H:Hp}:∀ps:List (List Nat),IsAll K H (ps.map vT) (ps.map fun x=>PyData.str (tx x))
  | []=>.nil
  | n::ws=>.cons (.str _) (strs_all ws)
theorem strs_gd{j:Nat}{ps:List (List Nat)}(h:PcN j ps):GD 2 (.list (ps.map fun x=>PyData.str (tx x))):=GD.lst (k:=1) fun d hd=>by
  obtain⟨x,hx,rfl⟩:=List.mem_map.mp hd
  exact f0v fun c hc=>by have:=(h.2 x hx).1.2 c hc;omega
def menu:List (List Nat):=[nN,nW,[45],nT,n2 0,n2 1,n1 true,[49,47,50],[48],[121,101,115],[110,111,110,101],[],[50,47,52],[48,48,55],[45,48],[78,105,108]]
theorem menu_is:[V.str (Str.ofString "nil"),V.str (Str.ofString "word"),V.str (Str.ofString "-"),V.str (Str.ofString "times"),V.str (Str.ofString "sum"),V.str (Str.ofString "then"),V.str (Str.ofString "star"),V.str (Str.ofString "1/2"),V.str (Str.ofString "0"),V.str (Str.ofString "yes"),V.str (Str.ofString "none"),V.str (Str.ofString ""),V.str (Str.ofString "2/4"),V.str (Str.ofString "007"),V.str (Str.ofString "-0")]++[V.str (Str.ofString "Nil")]=menu.map vT:=by
  have e:∀{a b:Str},a=b→V.str a=V.str b:=fun h=>by rw[h]
  show [_,_,_,_,_,_,_,_,_,_,_,_,_,_,_,_]=[_,_,_,_,_,_,_,_,_,_,_,_,_,_,_,_]
  rw[i0s,nW_is,mi_is,nT_is,sm_is,th_is,st_is,show Str.ofString "1/2"=tx [49,47,50] by decide +kernel,o_is,show Str.ofString "yes"=tx [121,101,115] by decide +kernel,show Str.ofString "none"=tx [110,111,110,101] by decide +kernel,e0m,show Str.ofString "2/4"=tx [50,47,52] by decide +kernel,show Str.ofString "007"=tx [48,48,55] by decide +kernel,show Str.ofString "-0"=tx [45,48] by decide +kernel,show Str.ofString "Nil"=tx [78,105,108] by decide +kernel]
  rfl
theorem menu_ok:∀x∈menu,Gd 63 x∧x.count 32≤0:=by decide
def sgs:List Nat:=[97,98,99,120,121,122,48,49,57,45,47,32,78]
theorem sgs_is:Str.ofString "abcxyz019-/ N"=tx sgs:=by decide +kernel
theorem cut_mid(ps:List (List Nat))(n:Nat):∃ys:List (List Nat),cutV (ps.map vT) (some (n:Int)) (some ((n+2:Nat):Int))=ys.map vT∧(∀x∈ys,x∈ps)∧ys.length≤2:=by
  unfold cutV
  rw[HT.g0j,HT.g0j,← List.map_drop,← List.map_take]
  refine⟨_,rfl,fun x hx=>List.mem_of_mem_drop (List.mem_of_mem_take hx),?_⟩
  rw[List.length_take]
  omega
theorem vt_of{xs:List (List Nat)}:∀{ys:List V},(∀u∈ys,u∈xs.map vT)→∃zs:List (List Nat),ys=zs.map vT∧∀x∈zs,x∈xs
  | [],_=>⟨[],rfl,fun _ h=>nomatch h⟩
  | u::ys,h=>by
    obtain⟨zs,e,hz⟩:=vt_of (ys:=ys) fun v hv=>h v (List.mem_cons_of_mem _ hv)
    obtain⟨x,hx,rfl⟩:=List.mem_map.mp (h u (List.mem_cons_self ..))
    exact⟨x::zs,by rw[e];rfl,fun y hy=>by
      rcases List.mem_cons.mp hy with rfl | hy
      · exact hx
      · exact hz y hy⟩
theorem cnt_cut(o:List Nat)(c m e:Nat):(o.take m++[c]++o.drop (m+e)).count 32≤o.count 32+1:=by
  have h1:o.count 32=(o.take m).count 32+(o.drop m).count 32:=by rw[← List.count_append,List.take_append_drop]
  have h2:(o.drop (m+e)).count 32≤(o.drop m).count 32:=by
    rw[← List.drop_drop]
    exact List.Sublist.count_le 32 (List.drop_sublist e (o.drop m))
  have h3:[c].count 32≤1:=(List.count_le_length:List.count 32 [c]≤[c].length)
  rw[List.count_append,List.count_append]
  omega
def sp_lspoil:Sp:=fun vs H Q _=>∃a b,∃ps:List (List Nat),∃j:Nat,vs=[.ref a,.ref b]∧(Dr H a∧H b=some (.lst (ps.map vT))∧PcN j ps∧j≤10)∧∀q ps' H',SameX a H H'→Dr H' a→H' q=some (.lst (ps'.map vT))→PcN (j+1) ps'→Q (.ref q) H'
theorem i0q(T:Txt K mg t):FnOk Pr w K mg base CX0 2 t.q0e t.n0p ["_law_state_here","_law_texts_here"] sp_lspoil:=by
  refine T.n0q.ok sc_law_spoiled (fun vs H Q E h=>?_) (fun cdv A outer s H vs Q E hr h=>?_)
  · obtain⟨a,b,ps,j,rfl,_⟩:=h
    rfl
  · obtain⟨a,b,ps,j,rfl,⟨hD,hb,hP,hj⟩,k⟩:=h
    have zl:10000 < sizeLine:=by decide
    have hba:=hD.neT hb
    have hl:=hP.1
    refine⟨_,(a0c (a0w (a0j (op_eqD hr.units) (pv 1) (a0y a0e) (a0o _)) (a0g (a0l (a0y (a0a a0h a0e)))) a0m) (a0c (a0q (i:=2) sc_law_spoiled.nd rfl (Or.inl rfl) (a0n (a0p T) hr.m rfl T.r0j T.r0t.kp T.r0w .nil a0z (a0a (pv 0) (a0a (a0x b0u (by rfl) T.z_len PySem.boot_len (a0a (pv 1) a0e)) a0e)))) (a0c (a0q (i:=3) sc_law_spoiled.nd rfl (Or.inl rfl) (a0n (a0p T) hr.m rfl T.r0j T.r0t.kp T.r0w .nil a0z (a0a (pv 0) (a0a a0f a0e)))) (a0c (a0q (i:=4) sc_law_spoiled.nd rfl (Or.inl rfl) (a0y (a0a a0h (a0a a0h (a0a a0h (a0a a0h (a0a a0h (a0a a0h (a0a a0h (a0a a0h (a0a a0h (a0a a0h (a0a a0h (a0a a0h (a0a a0h (a0a a0h (a0a a0h a0e))))))))))))))))) (a0c (d0q (g0k PySem.F.plainAttrs_list PySem.F.slot_list_append PySem.F.type_list_append h0w (pv 4) (a0a a0h a0e))) (a0c (a0w (a0j b0d (pv 3) a0f (a0o _)) (a0g (a0l (a0t c0w (b0c c0k (pv 1) b0j (b0g (pv 2))) (b0c c0k (pv 1) (b0g (a0t b0t (pv 2) a0f)) b0j)))) a0m) (a0c (a0w (a0j b0d (pv 3) a0f (a0o _)) (a0g (a0l (a0t c0w (b0c c0k (pv 1) b0j (b0g (a0t b0t (pv 2) a0f))) (b0c c0k (pv 1) (b0g (pv 2)) b0j)))) a0m) (a0c (a0w (a0j b0d (pv 3) a0f (a0o _)) (a0c (a0q (i:=5) sc_law_spoiled.nd rfl (Or.inl rfl) (b0c c0k (pv 1) (b0g (pv 2)) (b0g (a0t b0t (pv 2) a0f)))) (a0g (a0l (a0t c0w (a0t c0w (b0c c0k (pv 1) b0j (b0g (pv 2))) (pe_rvL (pv 5) (pe_un un_neg a0f))) (b0c c0k (pv 1) (b0g (a0t b0t (pv 2) a0f)) b0j))))) a0m) (a0c (a0w (a0j b0d (pv 3) a0f (a0o _)) (a0g (a0l (a0t c0w (a0t c0w (b0c c0k (pv 1) b0j (b0g (pv 2))) (a0y (a0a (b0b b0h (pv 4) (a0n (a0p T) hr.m rfl T.r0j T.r0t.kp T.r0w .nil a0z (a0a (pv 0) (a0a a0f a0e))) (fun _ _=>rfl)) a0e))) (b0c c0k (pv 1) (b0g (a0t b0t (pv 2) a0f)) b0j)))) a0m) (a0c (a0q (i:=6) sc_law_spoiled.nd rfl (Or.inl rfl) (a0n (a0p T) hr.m rfl T.r0j T.r0t.kp T.r0w .nil a0z (a0a (pv 0) (a0a (a0t b0t (a0x b0u (by rfl) T.z_len PySem.boot_len (a0a (b0b b0h (pv 1) (pv 2) (fun _ _=>rfl)) a0e)) a0f) a0e)))) (a0c (a0q (i:=7) sc_law_spoiled.nd rfl (Or.inl rfl) (b0b j0g a0h (a0n (a0p T) hr.m rfl T.r0j T.r0t.kp T.r0w .nil a0z (a0a (pv 0) (a0a a0f a0e))) (fun _ _=>rfl))) (a0c (a0q (i:=8) sc_law_spoiled.nd rfl (Or.inl rfl) (b0b b0h (pv 1) (pv 2) (fun _ _=>rfl))) (a0c (a0q (i:=9) sc_law_spoiled.nd rfl (Or.inl rfl) (a0t c0t (a0t c0t (b0c g0t (pv 8) b0j (b0g (pv 6))) (pv 7)) (b0c g0t (pv 8) (b0g (a0t b0t (pv 6) (a0n (a0p T) hr.m rfl T.r0j T.r0t.kp T.r0w .nil a0z (a0a (pv 0) (a0a a0f a0e))))) b0j))) (a0g (a0l (a0t c0w (a0t c0w (b0c c0k (pv 1) b0j (b0g (pv 2))) (a0y (a0a (pv 9) a0e))) (b0c c0k (pv 1) (b0g (a0t b0t (pv 2) a0f)) b0j))))))))))))))))),?_⟩
    refine⟨_,rfl,(by show 0≤sizeLine;omega),fun q8 n8=>?_⟩
    have t8:=a0d (o:=.lst ([]:List V)) n8
    have k8:=a0b (H:=H) (a:=q8) (o:=.lst [])
    revert t8 k8
    generalize upd H q8 (.lst [])=G
    intro t8 k8
    have hbG:=t8 _ _ hb
    have dG:=hD.same t8
    have i1:Is K G (.ref b) (.list (ps.map fun x=>PyData.str (tx x))):=.lst (SqL.of hbG) (strs_all _)
    have i2:Is K G (.ref q8) (.list []):=.lst (SqL.of k8) .nil
    have g0:GD 2 (.list []):=GD.lst (k:=1) fun d hd=>nomatch hd
    refine⟨_,_,i1,i2,(strs_gd hP).sh (by decide),g0.sh (by decide),mixE _,_,rfl,?_⟩
    rw[sameE]
    have sG:SameX a H G:=.of t8
    cases ps with
    | nil=>
      refine iteY rfl ?_
      refine⟨(by show 1≤sizeLine;omega),fun q nq=>?_⟩
      rw[i0s]
      have e:=a0d (o:=.lst [V.str (tx nN)]) nq
      exact k q [nN] _ (sG.trans (.of e)) (dG.same e) a0b ⟨by show 1≤_;omega,fun x hx=>by rw[List.mem_singleton.mp hx];exact⟨(show Gd 63 nN by decide).mono (by omega),Nat.le_trans (show nN.count 32≤0 by decide) (Nat.zero_le _)⟩⟩
    | cons p0 ps0=>
    refine iteN (by simp) ?_
    revert hbG hP hl
    generalize hps:p0::ps0=ps
    intro hP hl hbG
    have pl:0 < ps.length:=by rw[← hps];simp
    have ln:LenV K (.ref b) G ps.length:=.inl ⟨_,SqL.of hbG,by simp⟩
    refine⟨_,rfl,_,rfl,_,_,rfl,ln,a,_,rfl,⟨dG,by omega,by omega⟩,fun r1 H1 s1 d1 a1 b1=>?_⟩
    obtain⟨n,rfl⟩:∃n:Nat,r1=(n:Int):=⟨r1.toNat,by omega⟩
    have hn:n < ps.length:=by omega
    show b0m 2 (.int (n:Int)) [some (.ref a),some (.ref b),none,none,none,none,none,none,none,none] H1 _
    refine⟨_,rfl,a,5,rfl,⟨d1,by decide,by decide⟩,fun way H2 s2 d2 a2 b2=>?_⟩
    show b0m 3 (.int way) [some (.ref a),some (.ref b),some (.int (n:Int)),none,none,none,none,none,none,none] H2 _
    have s02:=sG.trans (s1.trans s2)
    have hb2:=s02 _ _ hba hb
    rw[hps]at hb2
    refine⟨(by show 15≤sizeLine;omega),fun qm nm'=>?_⟩
    show b0m 4 (.ref qm) [some (.ref a),some (.ref b),some (.int (n:Int)),some (.int way),none,none,none,none,none,none] _ _
    refine⟨_,rfl,.inl ⟨rfl,_,SqL.of a0b⟩,qm,_,_,rfl,rfl,a0b,(by show 15 < sizeLine;omega),?_⟩
    rw[upd_upd,menu_is]
    have tm:=a0d (o:=.lst (menu.map vT)) nm'
    have km:=a0b (H:=H2) (a:=qm) (o:=.lst (menu.map vT))
    revert tm km
    generalize upd H2 qm (.lst (menu.map vT))=H3
    intro tm km
    have s03:=s02.trans (.of tm)
    have d3:=d2.same tm
    have hb3:=tm _ _ hb2
    have hma:=d3.neT km
    have ok1:=hP.sub (Nat.le_succ j)
    have ec1:((n:Int)+1)=((n+1:Nat):Int):=by omega
    have ec2:((n:Int)+2)=((n+2:Nat):Int):=by omega
    have tk:∀x∈ps.take n,x∈ps:=fun x hx=>List.mem_of_mem_take hx
    have dp:∀m,∀x∈ps.drop m,x∈ps:=fun m x hx=>List.mem_of_mem_drop hx
    refine⟨_,rfl,rfl,_,rfl,?_⟩
    dsimp only
    refine iteI (fun _=>?_) (fun _=>?_)
    · refine⟨_,rfl,_,rfl,_,rfl,b,_,rfl,SqL.of hb3,fun p1 n1=>?_⟩
      rw[d0t,← List.map_take]
      have u1:=a0d (o:=.lst ((ps.take n).map vT)) n1
      refine⟨_,rfl,_,rfl,_,_,rfl,rfl,_,rfl,b,_,rfl,SqL.of (u1 _ _ hb3),fun p2 n2=>?_⟩
      rw[ec1,f0w,← List.map_drop]
      have u2:=a0d (o:=.lst ((ps.drop (n+1)).map vT)) n2
      refine⟨_,_,_,_,rfl,rfl,u2 _ _ a0b,a0b,(by simp;omega),fun p3 n3=>?_⟩
      rw[← List.map_append]
      have u3:=a0d (o:=.lst ((ps.take n++ps.drop (n+1)).map vT)) n3
      have u:=u1.trans (u2.trans u3)
      refine k p3 _ _ (s03.trans (.of u)) (d3.same u) a0b ⟨by simp;omega,fun x hx=>ok1 x ?_⟩
      exact(List.mem_append.mp hx).elim (tk x) (dp _ x)
    refine⟨_,rfl,rfl,_,rfl,?_⟩
    dsimp only
    refine iteI (fun _=>?_) (fun _=>?_)
    · refine⟨_,rfl,_,rfl,_,_,rfl,rfl,_,rfl,b,_,rfl,SqL.of hb3,fun p1 n1=>?_⟩
      rw[ec1,d0t,← List.map_take]
      have u1:=a0d (o:=.lst ((ps.take (n+1)).map vT)) n1
      refine⟨_,rfl,_,rfl,_,rfl,b,_,rfl,SqL.of (u1 _ _ hb3),fun p2 n2=>?_⟩
      rw[f0w,← List.map_drop]
      have u2:=a0d (o:=.lst ((ps.drop n).map vT)) n2
      refine⟨_,_,_,_,rfl,rfl,u2 _ _ a0b,a0b,(by simp;omega),fun p3 n3=>?_⟩
      rw[← List.map_append]
      have u3:=a0d (o:=.lst ((ps.take (n+1)++ps.drop n).map vT)) n3
      have u:=u1.trans (u2.trans u3)
      refine k p3 _ _ (s03.trans (.of u)) (d3.same u) a0b ⟨by simp;omega,fun x hx=>ok1 x ?_⟩
      exact(List.mem_append.mp hx).elim (fun h=>List.mem_of_mem_take h) (dp _ x)
    refine⟨_,rfl,rfl,_,rfl,?_⟩
    dsimp only
    refine iteI (fun _=>?_) (fun _=>?_)
    · refine⟨_,rfl,_,rfl,_,rfl,_,rfl,_,_,rfl,rfl,_,rfl,b,_,rfl,SqL.of hb3,fun q5 n5=>?_⟩
      obtain⟨ys,ey,hy,yl⟩:=cut_mid ps n
      rw[ec2,ey]
      have u5:=a0d (o:=.lst (ys.map vT)) n5
      have k5:=a0b (H:=H3) (a:=q5) (o:=.lst (ys.map vT))
      revert u5 k5
      generalize upd H3 q5 (.lst (ys.map vT))=H5
      intro u5 k5
      show b0m 5 (.ref q5) [some (.ref a),some (.ref b),some (.int (n:Int)),some (.int way),some (.ref qm),none,none,none,none,none] H5 _
      refine⟨_,rfl,_,rfl,_,rfl,b,_,rfl,SqL.of (u5 _ _ hb3),fun p1 n1=>?_⟩
      rw[d0t,← List.map_take]
      have u1:=a0d (o:=.lst ((ps.take n).map vT)) n1
      refine⟨_,rfl,_,rfl,q5,_,rfl,rfl,SqL.of (u1 _ _ k5),fun p2 zs n2 hz zl'=>?_⟩
      obtain⟨zs,rfl,hz2⟩:=vt_of hz
      have u2:=a0d (o:=.lst (zs.map vT)) n2
      simp only[List.length_map]at zl'
      refine⟨_,_,_,_,rfl,rfl,u2 _ _ a0b,a0b,(by simp;omega),fun p3 n3=>?_⟩
      rw[← List.map_append]
      have u3:=a0d (o:=.lst ((ps.take n++zs).map vT)) n3
      have u123:=u1.trans (u2.trans u3)
      refine⟨_,rfl,_,rfl,_,_,rfl,rfl,_,rfl,b,_,rfl,SqL.of (u123 _ _ (u5 _ _ hb3)),fun p4 n4=>?_⟩
      rw[ec2,f0w,← List.map_drop]
      have u4:=a0d (o:=.lst ((ps.drop (n+2)).map vT)) n4
      refine⟨_,_,_,_,rfl,rfl,u4 _ _ a0b,a0b,(by simp;omega),fun p6 n6=>?_⟩
      rw[← List.map_append]
      have u6:=a0d (o:=.lst ((ps.take n++zs++ps.drop (n+2)).map vT)) n6
      have u:=u5.trans (u123.trans (u4.trans u6))
      refine k p6 _ _ (s03.trans (.of u)) (d3.same u) a0b ⟨by simp;omega,fun x hx=>ok1 x ?_⟩
      rcases List.mem_append.mp hx with hx | hx
      · exact(List.mem_append.mp hx).elim (tk x) (fun h=>hy x (hz2 x h))
      · exact dp _ x hx
    refine⟨_,rfl,rfl,_,rfl,?_⟩
    dsimp only
    refine iteI (fun _=>?_) (fun _=>?_)
    · refine⟨_,rfl,_,rfl,_,rfl,b,_,rfl,SqL.of hb3,fun p1 n1=>?_⟩
      rw[d0t,← List.map_take]
      have u1:=a0d (o:=.lst ((ps.take n).map vT)) n1
      have k1:=a0b (H:=H3) (a:=p1) (o:=.lst ((ps.take n).map vT))
      have p1a:=d3.ne n1
      refine⟨_,rfl,_,rfl,a,16,rfl,⟨d3.same u1,by decide,by decide⟩,fun r4 H4 s4 d4 a4 b4=>?_⟩
      obtain⟨m,rfl⟩:∃m:Nat,r4=(m:Int):=⟨r4.toNat,by omega⟩
      have hm:m < menu.length:=by show m < 16;omega
      have em:(menu.map vT)[m]? = some (vT menu[m]):=by rw[List.getElem?_map,List.getElem?_eq_getElem hm];rfl
      have sx:=s03.trans ((SameX.of u1).trans s4)
      have hb4:=s4 _ _ hba (u1 _ _ hb3)
      refine⟨_,_,_,_,rfl,rfl,SqL.of (s4 _ _ hma (u1 _ _ km)),c0e em,(by show 1≤sizeLine;omega),fun p2 n2=>?_⟩
      have u2:=a0d (o:=.lst [vT menu[m]]) n2
      refine⟨_,_,_,_,rfl,rfl,u2 _ _ (s4 _ _ p1a k1),a0b,(by simp;omega),fun p3 n3=>?_⟩
      have u3:=a0d (o:=.lst (((ps.take n).map vT)++[vT menu[m]])) n3
      refine⟨_,rfl,_,rfl,_,_,rfl,rfl,_,rfl,b,_,rfl,SqL.of ((u2.trans u3) _ _ hb4),fun p4 n4=>?_⟩
      rw[ec1,f0w,← List.map_drop]
      have u4:=a0d (o:=.lst ((ps.drop (n+1)).map vT)) n4
      refine⟨_,_,_,_,rfl,rfl,u4 _ _ a0b,a0b,(by simp;omega),fun p6 n6=>?_⟩
      have e6:(List.map vT (List.take n ps)++[vT menu[m]])++List.map vT (List.drop (n+1) ps)=(ps.take n++[menu[m]]++ps.drop (n+1)).map vT:=by simp
      rw[e6]
      have u6:=a0d (o:=.lst ((ps.take n++[menu[m]]++ps.drop (n+1)).map vT)) n6
      have u:=u2.trans (u3.trans (u4.trans u6))
      refine k p6 _ _ (sx.trans (.of u)) (d4.same u) a0b ⟨by simp;omega,fun x hx=>?_⟩
      rcases List.mem_append.mp hx with hx | hx
      · rcases List.mem_append.mp hx with hx | hx
        · exact ok1 x (tk x hx)
        · rw[List.mem_singleton.mp hx]
          have:=menu_ok _ (List.getElem_mem hm)
          exact⟨this.1.mono (by omega),by have:=this.2;omega⟩
      · exact ok1 x (dp _ x hx)
    obtain⟨o,eo⟩:∃o,ps[n]? = some o:=⟨_,List.getElem?_eq_getElem hn⟩
    have eov:(ps.map vT)[n]? = some (vT o):=by rw[List.getElem?_map,eo];rfl
    obtain⟨go,co⟩:=hP.2 o (List.mem_of_getElem? eo)
    have gol:=go.1
    have lo:LenV K (vT o) H3 o.length:=⟨by rw[a0u];omega,(a0u o).symm⟩
    refine⟨_,rfl,_,rfl,_,rfl,_,_,_,_,rfl,rfl,SqL.of hb3,c0e eov,_,_,rfl,lo,_,_,rfl,rfl,a,_,rfl,⟨d3,by omega,by omega⟩,fun r4 H4 s4 d4 a4 b4=>?_⟩
    obtain⟨sp,rfl⟩:∃sp:Nat,r4=(sp:Int):=⟨r4.toNat,by omega⟩
    have hb4:=s4 _ _ hba hb3
    show b0m 6 (.int (sp:Int)) [some (.ref a),some (.ref b),some (.int (n:Int)),some (.int way),some (.ref qm),none,none,none,none,none] H4 _
    refine⟨_,rfl,a,13,rfl,⟨d4,by decide,by decide⟩,fun r5 H5 s5 d5 a5 b5=>?_⟩
    have hb5:=s5 _ _ hba hb4
    obtain⟨m,rfl⟩:∃m:Nat,r5=(m:Int):=⟨r5.toNat,by omega⟩
    have hm:m < sgs.length:=by show m < 13;omega
    rw[sgs_is]
    have em:atI (tx sgs).cps.toList (m:Int)=some sgs[m]:=by
      rw[show(tx sgs).cps.toList=sgs by simp[tx]]
      exact c0e (List.getElem?_eq_getElem hm)
    have gc:sgs[m] < 128:=(by decide:∀c∈sgs,c < 128) _ (List.getElem_mem hm)
    refine⟨_,_,_,rfl,rfl,(by rw[a0u];show 13≤_;omega),em,?_⟩
    generalize sgs[m]=c at gc
    show b0m 7 (vT [c]) [some (.ref a),some (.ref b),some (.int (n:Int)),some (.int way),some (.ref qm),none,some (.int (sp:Int)),none,none,none] H5 _
    refine⟨_,rfl,_,rfl,_,_,_,_,rfl,rfl,SqL.of hb5,c0e eov,?_⟩
    show b0m 8 (vT o) [some (.ref a),some (.ref b),some (.int (n:Int)),some (.int way),some (.ref qm),none,some (.int (sp:Int)),some (vT [c]),none,none] H5 _
    refine⟨_,rfl,_,rfl,_,rfl,_,rfl,(by rw[a0u];omega),?_⟩
    rw[sl_toG (by omega),Int.toNat_natCast]
    refine⟨_,rfl,_,_,rfl,rfl,(by rw[a0u,a0u,List.length_take];show _+1≤_;omega),?_⟩
    rw[i0z]
    refine⟨_,rfl,_,rfl,_,rfl,a,2,rfl,⟨d5,by decide,by decide⟩,fun r6 H6 s6 d6 a6 b6=>?_⟩
    obtain⟨e,rfl⟩:∃e:Nat,r6=(e:Int):=⟨r6.toNat,by omega⟩
    have hb6:=s6 _ _ hba hb5
    refine⟨_,_,rfl,rfl,_,rfl,_,rfl,(by rw[a0u];omega),?_⟩
    rw[show(sp:Int)+(e:Int)=((sp+e:Nat):Int) by omega,j0w (by omega),Int.toNat_natCast]
    refine⟨_,_,rfl,rfl,(by rw[a0u,a0u,List.length_append,List.length_take,List.length_drop];show _+1+_≤_;omega),?_⟩
    rw[i0z]
    have gN:Gd (63+(j+1)) (o.take sp++[c]++o.drop (sp+e)):=⟨by simp;omega,fun d hd=>by
      rcases List.mem_append.mp hd with hd | hd
      · rcases List.mem_append.mp hd with hd | hd
        · exact go.2 d (List.mem_of_mem_take hd)
        · rw[List.mem_singleton.mp hd];exact gc
      · exact go.2 d (List.mem_of_mem_drop hd)⟩
    have cN:=cnt_cut o c sp e
    revert gN cN
    generalize o.take sp++[c]++o.drop (sp+e)=x9
    intro gN cN
    show b0m 9 (vT x9) [some (.ref a),some (.ref b),some (.int (n:Int)),some (.int way),some (.ref qm),none,some (.int (sp:Int)),some (vT [c]),some (vT o),none] H6 _
    have sx:=s03.trans (s4.trans (s5.trans s6))
    refine⟨_,rfl,_,rfl,_,rfl,b,_,rfl,SqL.of hb6,fun p1 n1=>?_⟩
    rw[d0t,← List.map_take]
    have u1:=a0d (o:=.lst ((ps.take n).map vT)) n1
    refine⟨_,rfl,(by show 1≤sizeLine;omega),fun p2 n2=>?_⟩
    have u2:=a0d (o:=.lst [vT x9]) n2
    refine⟨_,_,_,_,rfl,rfl,u2 _ _ a0b,a0b,(by simp;omega),fun p3 n3=>?_⟩
    have u3:=a0d (o:=.lst (((ps.take n).map vT)++[vT x9])) n3
    have u123:=u1.trans (u2.trans u3)
    refine⟨_,rfl,_,rfl,_,_,rfl,rfl,_,rfl,b,_,rfl,SqL.of (u123 _ _ hb6),fun p4 n4=>?_⟩
    rw[ec1,f0w,← List.map_drop]
    have u4:=a0d (o:=.lst ((ps.drop (n+1)).map vT)) n4
    refine⟨_,_,_,_,rfl,rfl,u4 _ _ a0b,a0b,(by simp;omega),fun p6 n6=>?_⟩
    have e6:(List.map vT (List.take n ps)++[vT x9])++List.map vT (List.drop (n+1) ps)=(ps.take n++[x9]++ps.drop (n+1)).map vT:=by simp
    rw[e6]
    have u6:=a0d (o:=.lst ((ps.take n++[x9]++ps.drop (n+1)).map vT)) n6
    have u:=u123.trans (u4.trans u6)
    refine k p6 _ _ (sx.trans (.of u)) (d6.same u) a0b ⟨by simp;omega,fun x hx=>?_⟩
    rcases List.mem_append.mp hx with hx | hx
    · rcases List.mem_append.mp hx with hx | hx
      · exact ok1 x (tk x hx)
      · rw[List.mem_singleton.mp hx]
        exact⟨gN,by omega⟩
    · exact ok1 x (dp _ x hx)
theorem pc_cnt{x:List Nat}(h:32 ∉ x):x.count 32≤0:=by rw[List.count_eq_zero_of_not_mem h];exact Nat.le_refl _
def sp_ldrawn(T:Txt K mg t):Sp:=fun vs H Q _=>∃(R:RX w K mg base t),∃nam p a so l,So T R nam p∧vs=[.ref a,so,vT l]∧(Dr H a∧SortAt H so nam p∧Lt l)∧∀q ps H',SameX a H H'→Dr H' a→H' q=some (.lst (ps.map vT))→PcN 3 ps→Q (.ref q) H'
theorem bal_ok{ps:List (List Nat)}(h:∀x∈ps,Gd 63 x∧32 ∉ x)(hl:ps.length≤62):PcN 3 ps:=⟨by omega,fun x hx=>⟨(h x hx).1.mono (by decide),Nat.le_trans (pc_cnt (h x hx).2) (by decide)⟩⟩
theorem h0e{α:Type}(xs:List α):∀(m:Nat),∀x∈(List.replicate m xs).flatten,x∈xs
  | 0,x,h=>nomatch h
  | m+1,x,h=>by
    rw[List.replicate_succ,List.flatten_cons]at h
    exact(List.mem_append.mp h).elim id (h0e xs m x)
theorem rep_map(xs:List (List Nat))(m:Nat):(List.replicate m (xs.map vT)).flatten=((List.replicate m xs).flatten).map vT:=by
  induction m with
  | zero=>rfl
  | succ m ih=>rw[List.replicate_succ,List.flatten_cons,ih,List.replicate_succ,List.flatten_cons,List.map_append]
theorem ok_law_drawn(T:Txt K mg t):FnOk Pr w K mg base CX0 26 t.s0r t.q0t ["_law_state_here","_law_sort_here","_law_letters_here"] (sp_ldrawn (w:=w) (base:=base) T):=by
  refine T.q0c.ok sc_law_drawn (fun vs H Q E h=>?_) (fun cdv A outer s H vs Q E hr h=>?_)
  · obtain⟨R,nam,p,a,so,l,_,rfl,_⟩:=h
    rfl
  · obtain⟨R,nam,p,a,so,l,hS,rfl,⟨hD,hso,L⟩,k⟩:=h
    have zl:10000 < sizeLine:=by decide
    refine⟨_,(a0c (a0q (i:=3) sc_law_drawn.nd rfl (Or.inl rfl) (a0n (a0p T) hr.m rfl T.r0j T.r0t.kp T.r0w .nil a0z (a0a (pv 0) (a0a a0f a0e)))) (a0c (a0w (a0j b0d (pv 3) a0f (a0o _)) (a0g (a0l (a0t c0w (a0t op_rep (a0y (a0a a0h a0e)) (a0n (a0p T) hr.m rfl T.r0j T.r0t.kp T.r0w .nil a0z (a0a (pv 0) (a0a a0f a0e)))) (a0n (c0d T) hr.m rfl T.m0r T.m0u.kp T.m0l .nil a0z (a0a (a0t b0t a0f (a0n (a0p T) hr.m rfl T.r0j T.r0t.kp T.r0w .nil a0z (a0a (pv 0) (a0a a0f a0e)))) a0e))))) a0m) (a0c (a0w (a0j b0d (pv 3) a0f (a0o _)) (a0g (a0l (a0t c0w (a0t op_rep (a0y (a0a a0h a0e)) (a0t b0t a0f (a0n (a0p T) hr.m rfl T.r0j T.r0t.kp T.r0w .nil a0z (a0a (pv 0) (a0a a0f a0e))))) (a0y (a0a a0h a0e))))) a0m) (a0c (a0w (a0j b0d (pv 3) a0f (a0o _)) (a0c (a0q (i:=4) sc_law_drawn.nd rfl (Or.inl rfl) (a0t c0w (a0t op_rep (a0y (a0a a0h (a0a a0h a0e))) (a0t b0t a0f (a0n (a0p T) hr.m rfl T.r0j T.r0t.kp T.r0w .nil a0z (a0a (pv 0) (a0a a0f a0e))))) (a0y (a0a a0h (a0a a0h a0e))))) (a0g (a0l (pv 4)))) a0m) (a0c (a0q (i:=5) sc_law_drawn.nd rfl (Or.inl rfl) (a0n (d0b T) hr.m rfl T.q0g T.p0x.kp T.q0i .nil a0z (a0a (pv 1) (a0a (a0n (c0s T) hr.m rfl T.p0c T.o0r.kp T.o0z .nil a0z (a0a (pv 0) (a0a (pv 1) (a0a (pv 2) (a0a (a0n (a0p T) hr.m rfl T.r0j T.r0t.kp T.r0w .nil a0z (a0a (pv 0) (a0a a0f a0e))) a0e))))) a0e)))) (a0c (e0g PassesOwn.never rfl (d0i rfl T.z_range (a0a (a0n (a0p T) hr.m rfl T.r0j T.r0t.kp T.r0w .nil a0z (a0a (pv 0) (a0a a0f a0e))) a0e)) (b0p (i:=6) sc_law_drawn.nd rfl (Or.inl rfl)) (a0g (a0q (i:=5) sc_law_drawn.nd rfl (Or.inl rfl) (a0n (i0q T) hr.m rfl T.n0i T.n0q.kp T.m0x .nil a0z (a0a (pv 0) (a0a (pv 5) a0e)))))) (a0g (a0l (pv 5))))))))),?_⟩
    refine⟨_,rfl,a,5,rfl,⟨hD,by decide,by decide⟩,fun way H1 s1 d1 a1 b1=>?_⟩
    show b0m 3 (.int way) [some (.ref a),some so,some (vT l),none,none,none,none] H1 _
    refine⟨_,rfl,rfl,_,rfl,?_⟩
    dsimp only
    refine iteI (fun _=>?_) (fun _=>?_)
    · refine⟨(by show 1≤sizeLine;omega),fun q2 n2=>?_⟩
      rw[bk_is]
      have t2:=a0d (o:=.lst [V.str (tx (n1 false))]) n2
      have k2:=a0b (H:=H1) (a:=q2) (o:=.lst [V.str (tx (n1 false))])
      have q2a:=d1.ne n2
      refine⟨_,rfl,a,3,rfl,⟨d1.same t2,by decide,by decide⟩,fun r3 H3 s3 d3 a3 b3=>?_⟩
      obtain⟨m,rfl⟩:∃m:Nat,r3=(m:Int):=⟨r3.toNat,by omega⟩
      refine⟨q2,_,_,rfl,rfl,s3 _ _ q2a k2,by omega,by omega,(by show 1 * _≤_;omega),fun q4 n4=>?_⟩
      rw[Int.toNat_natCast,show [V.str (tx (n1 false))]=[n1 false].map vT from rfl,rep_map]
      have t4:=a0d (o:=.lst (((List.replicate m [n1 false]).flatten).map vT)) n4
      have k4:=a0b (H:=H3) (a:=q4) (o:=.lst (((List.replicate m [n1 false]).flatten).map vT))
      have q4a:=d3.ne n4
      refine⟨_,rfl,a,2,rfl,⟨d3.same t4,by decide,by decide⟩,fun r5 H5 s5 d5 a5 b5=>?_⟩
      obtain⟨m5,rfl⟩:∃m:Nat,r5=(m:Int):=⟨r5.toNat,by omega⟩
      refine⟨_,_,rfl,rfl,20+m5,(by show [V.int (20+(m5:Int))]=_;rw[show(20:Int)+(m5:Int)=((20+m5:Nat):Int) by omega]),⟨by omega,by omega,by decide⟩,fun q6 p6 H6 s6 k6 ⟨l6,g6⟩=>?_⟩
      have hl4:((List.replicate m [n1 false]).flatten).length=m:=by rw[k0u];simp
      refine⟨_,_,_,_,rfl,rfl,s6 _ _ (s5 _ _ q4a k4),k6,(by rw[List.length_map,List.length_map,hl4];omega),fun q7 n7=>?_⟩
      rw[← List.map_append]
      have t7:=a0d (o:=.lst (((List.replicate m [n1 false]).flatten++p6).map vT)) n7
      have sx:=((s1.trans (.of t2)).trans (s3.trans (.of t4))).trans (s5.trans (.of (s6.trans t7)))
      refine k q7 _ _ sx (d5.same (s6.trans t7)) a0b (bal_ok (fun x hx=>?_) (by rw[List.length_append,hl4];omega))
      rcases List.mem_append.mp hx with hx | hx
      · rw[List.mem_singleton.mp (h0e _ _ x hx)];decide
      · exact g6 x hx
    refine⟨_,rfl,rfl,_,rfl,?_⟩
    dsimp only
    refine iteI (fun _=>?_) (fun _=>?_)
    · refine⟨(by show 1≤sizeLine;omega),fun q2 n2=>?_⟩
      rw[st_is]
      have t2:=a0d (o:=.lst [V.str (tx (n1 true))]) n2
      have k2:=a0b (H:=H1) (a:=q2) (o:=.lst [V.str (tx (n1 true))])
      have q2a:=d1.ne n2
      refine⟨_,rfl,a,3,rfl,⟨d1.same t2,by decide,by decide⟩,fun r3 H3 s3 d3 a3 b3=>?_⟩
      obtain⟨m,rfl⟩:∃m:Nat,r3=(m:Int):=⟨r3.toNat,by omega⟩
      refine⟨_,_,rfl,rfl,?_⟩
      dsimp only
      rw[show(10:Int)+(m:Int)=((10+m:Nat):Int) by omega]
      refine⟨q2,_,_,rfl,rfl,s3 _ _ q2a k2,by omega,by omega,(by show 1 * _≤_;omega),fun q4 n4=>?_⟩
      rw[Int.toNat_natCast,show [V.str (tx (n1 true))]=[n1 true].map vT from rfl,rep_map]
      have t4:=a0d (o:=.lst (((List.replicate (10+m) [n1 true]).flatten).map vT)) n4
      refine⟨(by show 1≤sizeLine;omega),fun q5 n5=>?_⟩
      rw[i0s]
      have t5:=a0d (o:=.lst [V.str (tx nN)]) n5
      have hl4:((List.replicate (10+m) [n1 true]).flatten).length=10+m:=by rw[k0u];simp
      refine⟨_,_,_,_,rfl,rfl,t5 _ _ a0b,a0b,(by rw[List.length_map,hl4];show _+1≤_;omega),fun q7 n7=>?_⟩
      rw[show [V.str (tx nN)]=[nN].map vT from rfl,← List.map_append]
      have t7:=a0d (o:=.lst (((List.replicate (10+m) [n1 true]).flatten++[nN]).map vT)) n7
      have tt:=t4.trans (t5.trans t7)
      refine k q7 _ _ ((s1.trans (.of t2)).trans (s3.trans (.of tt))) (d3.same tt) a0b (bal_ok (fun x hx=>?_) (by rw[List.length_append,hl4];show _+1≤_;omega))
      rcases List.mem_append.mp hx with hx | hx
      · rw[List.mem_singleton.mp (h0e _ _ x hx)];decide
      · rw[List.mem_singleton.mp hx];decide
    refine⟨_,rfl,rfl,_,rfl,?_⟩
    dsimp only
    refine iteI (fun _=>?_) (fun _=>?_)
    · refine⟨(by show 2≤sizeLine;omega),fun q2 n2=>?_⟩
      rw[th_is,i0s]
      have t2:=a0d (o:=.lst [V.str (tx (K84.n2 1)),V.str (tx nN)]) n2
      have k2:=a0b (H:=H1) (a:=q2) (o:=.lst [V.str (tx (K84.n2 1)),V.str (tx nN)])
      have q2a:=d1.ne n2
      refine⟨_,rfl,a,3,rfl,⟨d1.same t2,by decide,by decide⟩,fun r3 H3 s3 d3 a3 b3=>?_⟩
      obtain⟨m,rfl⟩:∃m:Nat,r3=(m:Int):=⟨r3.toNat,by omega⟩
      refine⟨_,_,rfl,rfl,?_⟩
      dsimp only
      rw[show(10:Int)+(m:Int)=((10+m:Nat):Int) by omega]
      refine⟨q2,_,_,rfl,rfl,s3 _ _ q2a k2,by omega,by omega,(by show 2 * _≤_;omega),fun q4 n4=>?_⟩
      rw[Int.toNat_natCast,show [V.str (tx (K84.n2 1)),V.str (tx nN)]=[K84.n2 1,nN].map vT from rfl,rep_map]
      have t4:=a0d (o:=.lst (((List.replicate (10+m) [K84.n2 1,nN]).flatten).map vT)) n4
      refine⟨(by show 2≤sizeLine;omega),fun q5 n5=>?_⟩
      rw[nW_is,mi_is]
      have t5:=a0d (o:=.lst [V.str (tx nW),V.str (tx [45])]) n5
      have hl4:((List.replicate (10+m) [K84.n2 1,nN]).flatten).length=(10+m) * 2:=by rw[k0u];rfl
      refine⟨_,_,_,_,rfl,rfl,t5 _ _ a0b,a0b,(by rw[List.length_map,hl4];show _+2≤_;omega),fun q7 n7=>?_⟩
      rw[show [V.str (tx nW),V.str (tx [45])]=[nW,[45]].map vT from rfl,← List.map_append]
      have t7:=a0d (o:=.lst (((List.replicate (10+m) [K84.n2 1,nN]).flatten++[nW,[45]]).map vT)) n7
      have tt:=t4.trans (t5.trans t7)
      refine⟨_,rfl,?_⟩
      refine k q7 _ _ ((s1.trans (.of t2)).trans (s3.trans (.of tt))) (d3.same tt) a0b (bal_ok (fun x hx=>?_) (by rw[List.length_append,hl4];show _+2≤_;omega))
      rcases List.mem_append.mp hx with hx | hx
      · exact(by decide:∀x∈[K84.n2 1,nN],Gd 63 x∧32 ∉ x) x (h0e _ _ x hx)
      · exact(by decide:∀x∈[nW,[45]],Gd 63 x∧32 ∉ x) x hx
    have hso1:=hso.same (s1.tt hD)
    refine⟨_,rfl,_,rfl,_,rfl,_,rfl,_,rfl,a,5,rfl,⟨d1,by decide,by decide⟩,fun r2 H2 s2 d2 a2 b2=>?_⟩
    obtain⟨m,rfl⟩:∃m:Nat,r2=(m:Int):=⟨r2.toNat,by omega⟩
    have hso2:=hso1.same (s2.tt d1)
    refine⟨R,nam,p,a,so,l,m,hS,rfl,⟨d2,hso2,L,by omega,by omega⟩,fun x v H3 s3 d3 sv ok ht pn=>?_⟩
    have pm:pB m≤31:=by
      rcases(by omega:m=0∨m=1∨m=2∨m=3∨m=4)with rfl | rfl | rfl | rfl | rfl <;>decide
    refine⟨R,nam,p,so,v,l,x,hS,rfl,⟨hso2.same (s3.tt d2),sv,L,ok,by omega,by omega⟩,fun q4 H4 s4 k4=>?_⟩
    show b0m 5 (.ref q4) [some (.ref a),some so,some (vT l),some (.int way),none,none,none] H4 _
    have d4:=d3.same s4
    have sx:=((s1.trans s2).trans s3).trans (.of s4)
    have p0:PcN 0 (pcS x):=⟨by have:=(g0w x).1;omega,fun y hy=>by have:=pc_ok L ok y hy;exact⟨this.1,pc_cnt this.2.2⟩⟩
    refine⟨_,rfl,a,4,rfl,⟨d4,by decide,by decide⟩,fun r5 H5 s5 d5 a5 b5=>?_⟩
    obtain⟨m5,rfl⟩:∃m:Nat,r5=(m:Int):=⟨r5.toNat,by omega⟩
    refine⟨_,rfl,(by omega),(by omega),e0p (lo:=0) (n:=((m5:Nat):Int).toNat) (fun i σ G=>∃q ps v6,σ=[some (.ref a),some so,some (vT l),some (.int way),none,some (.ref q),v6]∧SameX a H G∧Dr G a∧G q=some (.lst (ps.map vT))∧PcN i ps) ⟨q4,pcS x,none,rfl,sx.trans s5,d5,s5 _ _ (d4.neT k4) k4,p0⟩ ?_ ?_⟩
    · rintro i σ G hi ⟨q,ps,v6,rfl,sG,dG,kG,pG⟩
      refine⟨_,rfl,_,rfl,a,q,ps,i,rfl,⟨dG,kG,pG,by omega⟩,fun q2 ps2 G2 s2 d2 k2 p2=>?_⟩
      exact⟨q2,ps2,_,rfl,sG.trans s2,d2,k2,p2⟩
    · rintro σ G ⟨q,ps,v6,rfl,sG,dG,kG,pG⟩
      have pG3:PcN 3 ps:=⟨by have:=pG.1;omega,pG.sub (by omega)⟩
      exact⟨_,rfl,k q ps G sG dG kG pG3⟩
def dSy:Sy→PyData
  | .nil=>.tuple [.str (tx nN)]
  | .word x=>.tuple [.str (tx nW),.str (tx x)]
  | .times d a=>.tuple [.str (tx nT),d,dSy a]
  | .one f a=>.tuple [.str (tx (n1 f)),dSy a]
  | .two f a b=>.tuple [.str (tx (n2 f)),dSy a,dSy b]
theorem SV.is{H:Hp}:∀{s:Sy} {v:V},SV s v H→Is K H v (dSy s)
  | .nil,_,⟨p,rfl,h⟩=>.tup (SqT.of h) (.cons (.str _) .nil)
  | .word _,_,⟨p,rfl,h⟩=>.tup (SqT.of h) (.cons (.str _) (.cons (.str _) .nil))
  | .times _ _,_,⟨p,u,y,rfl,h,h1,h2⟩=>.tup (SqT.of h) (.cons (.str _) (.cons (h1.is h1.wd) (.cons (SV.is h2) .nil)))
  | .one _ _,_,⟨p,y,rfl,h,h2⟩=>.tup (SqT.of h) (.cons (.str _) (.cons (SV.is h2) .nil))
  | .two _ _ _,_,⟨p,y,z,rfl,h,h1,h2⟩=>.tup (SqT.of h) (.cons (.str _) (.cons (SV.is h1) (.cons (SV.is h2) .nil)))
theorem gd_n1(f:Bool):GD 1 (.str (tx (n1 f))):=f0v (by cases f <;>decide)
theorem gd_n2(f:Nat):GD 1 (.str (tx (n2 f))):=f0v (by rcases e0r f with e | e | e <;>rw[e] <;>decide)
def WdS:Sy→Prop
  | .nil=>True
  | .word x=>∀c∈x,c < 1000
  | .times _ a=>WdS a
  | .one _ a=>WdS a
  | .two _ a b=>WdS a∧WdS b
theorem sv_gd{H:Hp}:∀{s:Sy} {v:V},SV s v H→WdS s→GD (htS s+2) (dSy s)
  | .nil,_,_,_=>GD.up (k:=3) (GD.tup (k:=1) fun d hd=>by rw[List.mem_singleton.mp hd];exact f0v (by decide)) (by omega)
  | .word x,_,_,o=>GD.up (k:=3) (GD.tup (k:=1) fun d hd=>by
    rcases List.mem_cons.mp hd with rfl | hd
    · exact f0v (by decide)
    · rw[List.mem_singleton.mp hd];exact f0v o) (by omega)
  | .times d a,_,⟨p,u,y,rfl,h,h1,h2⟩,o=>GD.tup (k:=htS a+2) fun d' hd=>by
    rcases List.mem_cons.mp hd with rfl | hd
    · exact(f0v (by decide)).up (by omega)
    · rcases List.mem_cons.mp hd with rfl | hd
      · exact(wd_gd h1.wd).up (by omega)
      · rw[List.mem_singleton.mp hd];exact sv_gd h2 o
  | .one f a,_,⟨p,y,rfl,h,h2⟩,o=>GD.tup (k:=htS a+2) fun d' hd=>by
    rcases List.mem_cons.mp hd with rfl | hd
    · exact(gd_n1 f).up (by omega)
    · rw[List.mem_singleton.mp hd];exact sv_gd h2 o
  | .two f a b,_,⟨p,y,z,rfl,h,h1,h2⟩,o=>GD.up (GD.tup (k:=max (htS a) (htS b)+2) fun d' hd=>by
    rcases List.mem_cons.mp hd with rfl | hd
    · exact(gd_n2 f).up (by omega)
    · rcases List.mem_cons.mp hd with rfl | hd
      · exact(sv_gd h1 o.1).up (by omega)
      · rw[List.mem_singleton.mp hd];exact(sv_gd h2 o.2).up (by omega)) (by show _≤max _ _+1+2;omega)
theorem wd_pt{s:Sy}(hw:∀x,s=.word x→∀c∈x,c < 1000)(h:∀a∈ptS s,WdS a):WdS s:=by
  cases s with
  | nil=>trivial
  | word x=>exact hw x rfl
  | times d a=>exact h a (List.mem_singleton.mpr rfl)
  | one f a=>exact h a (List.mem_singleton.mpr rfl)
  | two f a b=>exact⟨h a (List.mem_cons_self ..),h b (List.mem_cons_of_mem _ (List.mem_singleton.mpr rfl))⟩
theorem rdw_in{l x z:List Nat}(h:rdw l x=some z):∀c∈z,c∈x:=by
  unfold rdw at h
  split at h
  · cases h;exact fun _ hc=>nomatch hc
  · split at h
    · cases h
    · cases h;exact fun _ hc=>hc
theorem prs_wd{l:List Nat}{rd:List Nat→Option PyData}:∀(n:Nat) (r:List (List Nat)) (q:Sy × List (List Nat)),(∀x∈r,∀c∈x,c < 1000)→prs l rd n r=some q→WdS q.1
  | 0,r,q,_,h=>by cases h
  | n+1,[],q,_,h=>by cases h
  | n+1,x::r,q,g,h=>by
    simp only[prs]at h
    cases ha:ar x with
    | none=>rw[ha]at h;cases h
    | some k=>
      rw[ha]at h
      simp only[Option.bind_some]at h
      cases he:ext l rd x r with
      | none=>rw[he]at h;cases h
      | some e=>
        rw[he]at h
        simp only[Option.bind_some]at h
        cases hm:many (prs l rd n) k e.2 with
        | none=>rw[hm]at h;cases h
        | some m=>
          rw[hm]at h
          cases h
          have g2:∀y∈e.2,∀c∈y,c < 1000:=fun y hy=>g y (List.mem_cons_of_mem _ (ext_sub he y hy))
          have al:∀(k:Nat) (r:List (List Nat)) (m:List Sy × List (List Nat)),(∀y∈r,∀c∈y,c < 1000)→many (prs l rd n) k r=some m→∀a∈m.1,WdS a:=by
            intro k
            induction k with
            | zero=>intro r m _ h;cases h;exact fun _ h=>nomatch h
            | succ k ih=>
              intro r m g h
              simp only[many]at h
              cases hr:prs l rd n r with
              | none=>rw[hr]at h;cases h
              | some q=>
                rw[hr]at h
                simp only[Option.bind_some]at h
                cases hm:many (prs l rd n) k q.2 with
                | none=>rw[hm]at h;cases h
                | some m'=>
                  rw[hm]at h
                  cases h
                  intro a ha
                  rcases List.mem_cons.mp ha with rfl | ha
                  · exact prs_wd n r q g hr
                  · exact ih _ _ (fun y hy=>g y (prs_sub n r q hr y hy)) hm a ha
          obtain⟨b1,b2⟩:=j0n ha he (h0h hm)
          refine wd_pt (fun z hz=>?_) fun a ha'=>al k _ _ g2 hm a (by rw[← b2];exact ha')
          dsimp only at hz
          rw[hz]at b1
          have hx:x=nW:=b1.symm
          cases r with
          | nil=>rw[j0i hx]at he;cases he
          | cons y r=>
            rw[g0z hx]at he
            cases hw:rdw l y with
            | none=>rw[hw]at he;cases he
            | some z'=>
              rw[hw]at he
              cases he
              have ez:bld x (.w z') m.1=.word z':=by cases m.1 <;>rfl
              (try dsimp only at hz)
              rw[ez]at hz
              cases hz
              exact fun c hc=>g y (List.mem_cons_of_mem _ (List.mem_cons_self ..)) c (rdw_in hw c hc)
theorem wht_ok{l:List Nat}{rd:List Nat→Option PyData}{ps:List (List Nat)}{s:Sy}(g:∀x∈ps,Gd 400 x)(h:wht l rd ps=some s):WdS s∧htS s≤12:=by
  unfold wht at h
  cases hp:prs l rd 12 ps with
  | none=>rw[hp]at h;cases h
  | some q=>
    rw[hp]at h
    obtain⟨s',r⟩:=q
    cases r with
    | cons y r=>cases h
    | nil=>
      by_cases z:pnS s'≤40
      · have h:some s'=some s:=by rw[← h];exact(if_pos z).symm
        cases h
        exact⟨prs_wd 12 ps _ (fun x hx c hc=>by have:=(g x hx).2 c hc;omega) hp,prs_ht 12 ps _ hp⟩
      · have h:none=some s:=by rw[← h];exact(if_neg z).symm
        cases h
theorem spl_cnt:∀l:List Nat,(spl l).length=l.count 32+1
  | []=>rfl
  | c::r=>by
    have ih:=spl_cnt r
    by_cases h:c=32
    · have e:spl (c::r)=[]::spl r:=by simp[spl,h]
      rw[e,List.length_cons,ih,h,List.count_cons_self]
    · cases e:spl r with
      | nil=>exact absurd e (j0a r)
      | cons q ps=>
        have e2:spl (c::r)=(c::q)::ps:=by simp[spl,h,e]
        rw[e]at ih
        rw[e2,List.count_cons_of_ne (by simpa using h),← ih];rfl
theorem flat_len:∀{ps:List (List Nat)},(∀x∈ps,x.count 32≤3)→(ps.flatMap spl).length≤4 * ps.length
  | [],_=>Nat.le_refl _
  | p::ps,h=>by
    have h1:=h p (List.mem_cons_self ..)
    have ih:=flat_len (ps:=ps) fun x hx=>h x (List.mem_cons_of_mem _ hx)
    rw[List.flatMap_cons,List.length_append,spl_cnt,List.length_cons]
    omega
theorem text_ok{ps:List (List Nat)}(h:PcN 3 ps):(spl (jn [32] ps)≠[]∧(∀x∈spl (jn [32] ps),Gd 400 x∧32 ∉ x)∧(spl (jn [32] ps)).length≤400):=by
  refine⟨j0a _,?_,?_⟩
  · intro x hx
    refine⟨?_,(spl_ok _ x hx).1⟩
    by_cases e:ps=[]
    · subst e
      rw[show x=[]from List.mem_singleton.mp hx];decide
    · rw[spl_jn e]at hx
      obtain⟨y,hy,hx⟩:=List.mem_flatMap.mp hx
      have g:=(h.2 y hy).1
      obtain⟨_,a,b⟩:=spl_ok y x hx
      exact⟨by have:=g.1;omega,fun c hc=>g.2 c (b c hc)⟩
  · by_cases e:ps=[]
    · subst e;decide
    · rw[spl_jn e]
      have:=flat_len (ps:=ps) fun x hx=>(h.2 x hx).2
      have:=h.1
      omega
def ThOk(l:List Nat)(rd:List Nat→Option PyData)(K:PySem.W.Frag)(v:V)(H:Hp):Prop:=(∃ps:List (List Nat),v=vT (jn [32] ps)∧(ps≠[]∧(∀x∈ps,Gd 400 x∧32 ∉ x)∧ps.length≤400)∧wht l rd ps=none)∨NoStr K v H
theorem wht_w(l:List Nat)(rd:List Nat→Option PyData)(r:List (List Nat)):wht l rd (nW::[]::r)=none:=by
  have e:rdw l []=none:=by
    unfold rdw
    rw[if_neg (by decide),if_pos (.inl rfl)]
  unfold wht
  rw[show prs l rd 12 (nW::[]::r)=none by
    simp only[prs,show ar nW=some 0 by decide,Option.bind_some,g0z (rfl:nW=nW),e];rfl]
def dRf:PyData:=.tuple [.none,.tuple [.bool true,.bool true,.bool false]]
theorem dRf_gd:GD 3 dRf:=⟨by simp[dRf,PyData.canLay0,PyData.canLayAll0],by simp[dRf,PyData.depth,PyData.depthAll],by simp[dRf,noMix,noMixAll]⟩
theorem j0s{H:Hp}{u:V}(h:Two H u (fun x _=>x=.non) (fun y H=>∃p,y=.ref p∧H p=some (.tup [.bl true,.bl true,.bl false]))):Is K H u dRf:=by
  obtain⟨q,x,y,rfl,hq,rfl,p,rfl,hp⟩:=h
  exact .tup (SqT.of hq) (.cons .non (.cons (.tup (SqT.of hp) (.cons (.bl _) (.cons (.bl _) (.cons (.bl _) .nil)))) .nil))
theorem jn_of{z:Str}(l:List Nat)(e:z=tx l):V.str z=vT (jn [32] (spl l)):=by rw[jn_spl,e];rfl
def sp_law(K:PySem.W.Frag):Sp:=fun vs H Q _=>∃(a:Addr) (ns:List Int),vs=[.ref a]∧SqL K H a (ns.map V.int)∧ns.length≤63∧∀H',Q (.bl true) H'
theorem ok_law(T:Txt K mg t)(hW:WK w K mg aW):FnOk Pr w K mg base CX0 50 t.law t.u0v ["_law_script"] (sp_law K):=by
  refine T.u0u.ok sc_law (fun vs H Q E h=>?_) (fun cdv A outer s H vs Q E hr h=>?_)
  · obtain⟨a,ns,rfl,_⟩:=h
    rfl
  · obtain⟨a0,ns,rfl,hS0,hlen,k⟩:=h
    have zl:10000 < sizeLine:=by decide
    refine⟨_,(a0c (a0q (i:=1) sc_law.nd rfl (Or.inl rfl) (a0n (ok_law_state T) hr.m rfl T.p0u T.q0p.kp T.q0k .nil a0z (a0a (pv 0) a0e))) (a0c (a0q (i:=2) sc_law.nd rfl (Or.inl rfl) (a0n (ok_law_sort T) hr.m rfl T.r0l T.r0r.kp T.r0y .nil a0z (a0a (pv 1) a0e))) (a0c (a0q (i:=3) sc_law.nd rfl (Or.inl rfl) (a0n (ok_law_kind T) hr.m rfl T.r0h T.r0m.kp T.r0n .nil a0z (a0a (pv 2) a0e))) (a0c (a0q (i:=4) sc_law.nd rfl (Or.inl rfl) (a0n (i0r T) hr.m rfl T.n0a T.n0t.kp T.n0o .nil a0z (a0a (pv 1) (a0a a0f a0e)))) (a0c (a0q (i:=5) sc_law.nd rfl (Or.inl rfl) (b0i (a0a b0v (a0a (b0i (a0a e0h (a0a e0h (a0a e0h a0e)))) a0e)))) (a0c (e0g PassesOwn.never rfl (pi_list (a0y (a0a b0v (a0a a0f (a0a (b0i (a0a a0h a0e)) (a0a (a0y (a0a a0h a0e)) (a0a a0h (a0a a0h (a0a a0h (a0a a0h (a0a a0h (a0a a0h (a0a a0h (a0a a0h a0e)))))))))))))) (b0p (i:=6) sc_law.nd rfl (Or.inl rfl)) (a0g (a0w (a0j (op_neD hr.units) (a0n (f0h T hW) hr.m rfl T.r0c T.q0y.kp T.r0q .nil a0z (a0a (pv 3) (a0a (pv 4) (a0a (pv 6) a0e)))) (pv 5) (a0o _)) (a0g (a0l e0h)) a0m))) (a0c (e0g PassesOwn.never rfl (d0i rfl T.z_range (a0a (a0t b0t a0f (a0n (a0p T) hr.m rfl T.r0j T.r0t.kp T.r0w .nil a0z (a0a (pv 1) (a0a a0f a0e)))) a0e)) (b0p (i:=7) sc_law.nd rfl (Or.inl rfl)) (a0c (a0q (i:=8) sc_law.nd rfl (Or.inl rfl) (g0k PySem.F.plainAttrs_str PySem.F.slot_str_join PySem.F.type_str_join mt_join a0h (a0a (a0n (ok_law_drawn T) hr.m rfl T.q0d T.q0c.kp T.q0m .nil a0z (a0a (pv 1) (a0a (pv 2) (a0a (pv 4) a0e)))) a0e))) (a0c (a0q (i:=9) sc_law.nd rfl (Or.inl rfl) (a0n (ok_law_due T) hr.m rfl T.s0j T.s0i.kp T.t0c .nil a0z (a0a (pv 2) (a0a (pv 4) (a0a (g0k PySem.F.plainAttrs_str PySem.F.slot_str_split PySem.F.type_str_split mt_split (pv 8) (a0a a0h a0e)) a0e))))) (a0g (a0w (a0j j0d (pv 9) b0v (a0o _)) (a0g (a0w (a0j (op_neD hr.units) (a0n (f0h T hW) hr.m rfl T.r0c T.q0y.kp T.r0q .nil a0z (a0a (pv 3) (a0a (pv 4) (a0a (pv 8) a0e)))) (pv 5) (a0o _)) (a0g (a0l e0h)) a0m)) (a0g (a0w (a0j (op_neD hr.units) (a0n (f0h T hW) hr.m rfl T.r0c T.q0y.kp T.r0q .nil a0z (a0a (pv 3) (a0a (pv 4) (a0a (pv 8) a0e)))) (b0i (a0a (pv 9) (a0a b0v a0e))) (a0o _)) (a0g (a0l e0h)) a0m))))))) (a0g (a0l e0h))))))))),?_⟩
    refine⟨_,rfl,a0,ns,rfl,hS0,hlen,fun a H1 na s1 d1=>?_⟩
    refine⟨_,rfl,a,rfl,d1,fun R nam p so H2 hS hso s2 d2=>?_⟩
    refine⟨_,rfl,R,nam,p,so,hS,rfl,hso,fun kv H3 s3 hk=>?_⟩
    have d3:=d2.same s3
    have hso3:=hso.same s3.t
    refine⟨_,rfl,a,rfl,d3,fun l H4 s4 d4 L=>?_⟩
    show b0m 4 (vT l) [some (.ref a0),some (.ref a),some so,some kv,none,none,none,none,none,none] H4 _
    have hk4:KAt R.C R.fs H4 kv:=by
      obtain⟨kp,dx,rfl,hk⟩:=hk
      refine⟨kp,dx,rfl,s4 _ _ (fun e=>?_) hk⟩
      obtain⟨xs,z⟩:=d3.lst
      rw[← e,hk]at z
      cases z
    have hso4:=hso3.same (s4.tt d3)
    refine⟨(by show 3≤sizeLine;omega),fun p5 n5=>⟨(by show 2≤sizeLine;omega),fun p6 n6=>?_⟩⟩
    have t5:=a0d (o:=.tup [V.bl true,.bl true,.bl false]) n5
    have t6:=a0d (o:=.tup [V.non,.ref p5]) n6
    have k5:=t6 _ _ (a0b (H:=H4) (a:=p5) (o:=.tup [V.bl true,.bl true,.bl false]))
    have k6:=a0b (H:=upd H4 p5 (.tup [V.bl true,.bl true,.bl false])) (a:=p6) (o:=.tup [V.non,.ref p5])
    have t56:=t5.trans t6
    revert k5 k6 t56
    generalize upd (upd H4 p5 (.tup [V.bl true,.bl true,.bl false])) p6 (.tup [V.non,.ref p5])=H6
    intro k5 k6 t56
    show b0m 5 (.ref p6) [some (.ref a0),some (.ref a),some so,some kv,some (vT l),none,none,none,none,none] H6 _
    have hk6:=hk4.same t56
    have isR:∀{H'},SameT H6 H'→Is K H' (.ref p6) dRf:=fun s'=>j0s ⟨p6,_,_,rfl,s' _ _ k6,rfl,p5,rfl,s' _ _ k5⟩
    refine⟨(by show 1≤sizeLine;omega),fun pt np=>⟨(by show 1≤sizeLine;omega),fun pl nl=>⟨(by show 12≤sizeLine;omega),fun q nq=>?_⟩⟩⟩
    have u1:=a0d (o:=.tup [V.str (Str.ofString "nil")]) np
    have u2:=a0d (o:=.lst [V.str (Str.ofString "nil")]) nl
    have u3:=a0d (o:=.lst [V.non,.int 7,.ref pt,.ref pl,.str (Str.ofString ""),.str (Str.ofString " "),.str (Str.ofString "nil "),.str (Str.ofString " nil"),.str (Str.ofString "word"),.str (Str.ofString "word "),.str (Str.ofString "word  "),.str (Str.ofString "sum nil  nil")]) nq
    have kt:=(u2.trans u3) _ _ (a0b (H:=H6) (a:=pt) (o:=.tup [V.str (Str.ofString "nil")]))
    have kl:=u3 _ _ (a0b (H:=upd H6 pt (.tup [V.str (Str.ofString "nil")])) (a:=pl) (o:=.lst [V.str (Str.ofString "nil")]))
    have kq:=a0b (H:=upd (upd H6 pt (.tup [V.str (Str.ofString "nil")])) pl (.lst [V.str (Str.ofString "nil")])) (a:=q) (o:=.lst [V.non,.int 7,.ref pt,.ref pl,.str (Str.ofString ""),.str (Str.ofString " "),.str (Str.ofString "nil "),.str (Str.ofString " nil"),.str (Str.ofString "word"),.str (Str.ofString "word "),.str (Str.ofString "word  "),.str (Str.ofString "sum nil  nil")])
    have u:=u1.trans (u2.trans u3)
    have all:∀x∈[V.non,.int 7,.ref pt,.ref pl,.str (Str.ofString ""),.str (Str.ofString " "),.str (Str.ofString "nil "),.str (Str.ofString " nil"),.str (Str.ofString "word"),.str (Str.ofString "word "),.str (Str.ofString "word  "),.str (Str.ofString "sum nil  nil")],∀H',H' pt=some (.tup [V.str (Str.ofString "nil")])→H' pl=some (.lst [V.str (Str.ofString "nil")])→ThOk l R.rd K x H':=by
      intro x hx H' h1 h2
      simp only[List.mem_cons,List.not_mem_nil,or_false]at hx
      rcases hx with rfl | rfl | rfl | rfl | rfl | rfl | rfl | rfl | rfl | rfl | rfl | rfl
      · exact .inr ⟨_,.non,T.k_ns⟩
      · exact .inr ⟨_,.int _,T.k_is⟩
      · exact .inr ⟨_,.tup h1,T.k_ts⟩
      · exact .inr ⟨_,.lst h2,T.k_ls⟩
      · exact .inl ⟨spl [],jn_of [] e0m,by decide,rfl⟩
      · exact .inl ⟨spl [32],jn_of [32] p1_is,by decide,rfl⟩
      · exact .inl ⟨spl [110,105,108,32],jn_of _ (by decide +kernel),by decide,rfl⟩
      · exact .inl ⟨spl [32,110,105,108],jn_of _ (by decide +kernel),by decide,rfl⟩
      · exact .inl ⟨spl [119,111,114,100],jn_of _ (by decide +kernel),by decide,rfl⟩
      · exact .inl ⟨spl [119,111,114,100,32],jn_of _ (by decide +kernel),by decide,wht_w l R.rd []⟩
      · exact .inl ⟨spl [119,111,114,100,32,32],jn_of _ (by decide +kernel),by decide,wht_w l R.rd [[]]⟩
      · exact .inl ⟨spl [115,117,109,32,110,105,108,32,32,110,105,108],jn_of _ (by decide +kernel),by decide,rfl⟩
    have xsl:([V.non,.int 7,.ref pt,.ref pl,.str (Str.ofString ""),.str (Str.ofString " "),.str (Str.ofString "nil "),.str (Str.ofString " nil"),.str (Str.ofString "word"),.str (Str.ofString "word "),.str (Str.ofString "word  "),.str (Str.ofString "sum nil  nil")]:List V).length=12:=rfl
    revert kt kl kq u all xsl
    generalize [V.non,.int 7,.ref pt,.ref pl,.str (Str.ofString ""),.str (Str.ofString " "),.str (Str.ofString "nil "),.str (Str.ofString " nil"),.str (Str.ofString "word"),.str (Str.ofString "word "),.str (Str.ofString "word  "),.str (Str.ofString "sum nil  nil")]=xs
    generalize upd (upd (upd H6 pt (.tup [V.str (Str.ofString "nil")])) pl (.lst [V.str (Str.ofString "nil")])) q (.lst xs)=H7
    intro kt kl kq u all xsl
    refine⟨q,rfl,⟨_,SqL.of kq⟩,k0y (a:=q) (xs:=xs) (fun i σ G=>∃v6:Option V,σ=[some (.ref a0),some (.ref a),some so,some kv,some (vT l),some (.ref p6),v6,none,none,none]∧Same H7 G) ⟨none,rfl,Same.refl _⟩ (fun i σ G _ ⟨v6,_,sG⟩=>SqL.of (sG _ _ kq)) ?_ ?_⟩
    · rintro i x σ G hx ⟨v6,rfl,sG⟩
      have th:=all x (List.mem_of_getElem? hx) G (sG _ _ kt) (sG _ _ kl)
      have hkG:=hk6.same (u.trans sG)
      refine⟨_,rfl,_,rfl,_,rfl,R,kv,l,x,rfl,hkG,?_⟩
      rcases th with ⟨ps,rfl,hps,hn⟩ | hn
      · refine .inl ⟨ps,rfl,hps,fun _ v G' s' tw=>?_,fun s hs=>by rw[hn]at hs;cases hs⟩
        refine⟨_,rfl,_,_,j0s tw,isR (u.trans (sG.trans s')).t,dRf_gd.sh (by decide),dRf_gd.sh (by decide),dRf_gd.mix,_,rfl,?_⟩
        rw[PySem.Spec.same_self]
        (try refine iteF ?_)
        exact⟨_,rfl,sG.trans s'⟩
      · refine .inr ⟨hn,fun v G' s' tw=>?_⟩
        refine⟨_,rfl,_,_,j0s tw,isR (u.trans (sG.trans s')).t,dRf_gd.sh (by decide),dRf_gd.sh (by decide),dRf_gd.mix,_,rfl,?_⟩
        rw[PySem.Spec.same_self]
        (try refine iteF ?_)
        exact⟨_,rfl,sG.trans s'⟩
    · rintro σ G ⟨v6,rfl,sG⟩
      have s6G:=u.trans sG
      have d6:=d4.same t56
      have dG:=d6.same s6G
      refine⟨_,rfl,a,4,rfl,⟨dG,by decide,by decide⟩,fun r8 H8 s8 d8 a8 b8=>?_⟩
      refine⟨_,_,rfl,rfl,_,rfl,(by omega),(by omega),e0p (lo:=0) (n:=(1+r8).toNat) (fun i σ F=>∃v7 v8 v9:Option V,σ=[some (.ref a0),some (.ref a),some so,some kv,some (vT l),some (.ref p6),v6,v7,v8,v9]∧SameX a H6 F∧Dr F a) ⟨none,none,none,rfl,(SameX.of s6G).trans s8,d8⟩ ?_ ?_⟩
      · rintro i σ F hi ⟨v7,v8,v9,rfl,sF,dF⟩
        have hsoF:=(hso4.same t56.t).same (sF.tt d6)
        have hkF:∀{F'},SameX a H6 F'→KAt R.C R.fs F' kv:=fun s'=>by
          obtain⟨kp,dx,rfl,hk'⟩:=hk6
          refine⟨kp,dx,rfl,s' _ _ (fun e=>?_) hk'⟩
          obtain⟨xs,z⟩:=d6.lst
          rw[← e,hk']at z
          cases z
        refine⟨rfl,_,rfl,_,rfl,_,rfl,R,nam,p,a,so,l,hS,rfl,⟨dF,hsoF,L⟩,fun q9 ps F9 s9 d9 k9 pc=>?_⟩
        have pl1:=pc.1
        dsimp only[tNil]
        refine r_join (k:=66) p1_is (fun y hy=>(pc.2 y hy).1.1) (by show _ * 67≤_;omega) (SqL.of k9) ?_
        obtain⟨ps',hx,hps'⟩:∃ps',jn [32] ps=jn [32] ps'∧(ps'≠[]∧(∀x∈ps',Gd 400 x∧32 ∉ x)∧ps'.length≤400):=⟨spl (jn [32] ps),(jn_spl _).symm,text_ok pc⟩
        rw[hx]
        show b0m 8 (vT (jn [32] ps')) [some (.ref a0),some (.ref a),some so,some kv,some (vT l),some (.ref p6),v6,some (.int (0+(i:Int))),v8,v9] F9 _
        obtain⟨hne,hg,hl⟩:=id hps'
        have g:=jn_gd (sep:=[32]) (k:=400) (by decide) (fun x hx=>(hg x hx).1)
        have gl:ps'.length * 401≤160400:=Nat.mul_le_mul_right 401 hl
        have s69:=sF.trans s9
        refine⟨_,rfl,_,rfl,_,rfl,rfl,tc1 (r_split (n:=160400) p1_is K84.s1 (by decide) hne (fun x hx=>(hg x hx).2) (g.mono gl) (by decide) (by omega) fun a1 n1=>?_)⟩
        have t1:=a0d (o:=.lst (ps'.map vT)) n1
        have k1:=a0b (H:=F9) (a:=a1) (o:=.lst (ps'.map vT))
        revert t1 k1
        generalize upd F9 a1 (.lst (ps'.map vT))=F1
        intro t1 k1
        have hso9:=(hsoF.same (s9.tt dF)).same t1.t
        refine⟨R,nam,p,so,l,a1,ps',hS,rfl,⟨hso9,k1,fun x hx=>(hg x hx).1,hl⟩,fun hn F2 s2'=>?_,fun sy hs v F2 s2' sv=>?_⟩
        · show b0m 9 .non [some (.ref a0),some (.ref a),some so,some kv,some (vT l),some (.ref p6),v6,some (.int (0+(i:Int))),some (vT (jn [32] ps')),v9] F2 _
          have s6F:=s69.trans (.of (t1.trans s2'))
          have d2F:=d9.same (t1.trans s2')
          refine⟨_,rfl,rfl,_,rfl,?_⟩
          (try refine iteT ?_)
          refine⟨_,rfl,_,rfl,_,rfl,R,kv,l,_,rfl,hkF s6F,.inl ⟨ps',rfl,hps',fun _ u' F3 s3' tw=>?_,fun s hs=>by rw[hn]at hs;cases hs⟩⟩
          refine⟨_,rfl,_,_,j0s tw,isR ((s6F.trans (.of s3')).tt d6),dRf_gd.sh (by decide),dRf_gd.sh (by decide),dRf_gd.mix,_,rfl,?_⟩
          rw[PySem.Spec.same_self]
          (try refine iteF ?_)
          exact⟨_,_,_,rfl,s6F.trans (.of s3'),d2F.same s3'⟩
        · obtain⟨wd,ht⟩:=wht_ok (fun x hx=>(hg x hx).1) hs
          obtain⟨pv,_,_,rfl,_⟩:=sv.look
          show b0m 9 (.ref pv) [some (.ref a0),some (.ref a),some so,some kv,some (vT l),some (.ref p6),v6,some (.int (0+(i:Int))),some (vT (jn [32] ps')),v9] F2 _
          have s6F:=s69.trans (.of (t1.trans s2'))
          have d2F:=d9.same (t1.trans s2')
          refine⟨_,rfl,rfl,_,rfl,?_⟩
          (try refine iteF ?_)
          refine⟨_,rfl,_,rfl,_,rfl,R,kv,l,_,rfl,hkF s6F,.inl ⟨ps',rfl,hps',fun hn=>(by rw[hs]at hn;cases hn),fun sy' hs' u' F3 s3' tw=>?_⟩⟩
          obtain rfl:sy=sy':=Option.some.inj (hs.symm.trans hs')
          refine⟨_,rfl,(by show 2≤sizeLine;omega),fun p4 n4=>?_⟩
          have t4:=a0d (o:=.tup [V.ref pv,.non]) n4
          have sv4:=sv.same (s3'.trans t4).t
          obtain⟨qa,x,y,rfl,hqa,sx,rfl⟩:=tw
          have sx4:=sx.same t4.t
          have gd:GD 15 (.tuple [dSy sy,.none]):=GD.up (k:=15) (GD.tup (k:=14) fun d hd=>by
            rcases List.mem_cons.mp hd with rfl | hd
            · exact(sv_gd sv wd).up (by omega)
            · rw[List.mem_singleton.mp hd];exact⟨by simp[PyData.canLay0],by simp[PyData.depth],by simp[noMix]⟩) (by decide)
          refine⟨_,_,Is.tup (SqT.of (t4 _ _ hqa)) (.cons sx4.is (.cons .non .nil)),Is.tup (SqT.of a0b) (.cons sv4.is (.cons .non .nil)),gd.sh (by decide),gd.sh (by decide),gd.mix,_,rfl,?_⟩
          rw[PySem.Spec.same_self]
          (try refine iteF ?_)
          exact⟨_,_,_,rfl,s6F.trans (.of (s3'.trans t4)),d2F.same (s3'.trans t4)⟩
      · rintro σ F ⟨v7,v8,v9,rfl,sF,dF⟩
        exact k _
theorem law_binds(T:Txt K mg t):∀(s:Shared) (u:Value),BindsTo s t.u0v ⟨[u],[]⟩ [("_law_script",u)]:=by
  obtain⟨oc,od,kV,doc,pm,an,cdv,ct,osl,e,_,_⟩:=T.u0u.ex
  rw[e]
  exact fun s u=>.of_eq rfl
def entT(p:Params)(t:Str × Tok × Int × Tok):DictEntry:=⟨PySem.PyData.keyHash p t.1,.str t.1 t.2.1,.int t.2.2.1 t.2.2.2⟩
def prT(t:Str × Tok × Int × Tok):L2.Key × Value:=(.inr t.1,.int t.2.2.1 t.2.2.2)
theorem kv_ts:∀ts:List (Str × Tok × Int × Tok),KV (kvI (ts.map fun t=>(t.1,t.2.2.1))) (ts.map prT)
  | []=>.nil
  | t::ts=>.cons ⟨rfl,⟨_,rfl⟩⟩ (kv_ts ts)
theorem prs_ts{P:Program}{w:World}:∀ts:List (Str × Tok × Int × Tok),Pairs (b0r P w) (ts.map (entT w.params)) (ts.map prT)
  | []=>.nil
  | t::ts=>.cons (f0i P w t.1 t.2.1) rfl (prs_ts ts)
theorem dk_of{P:Program}{w:World}{K:PySem.W.Frag}{a:Addr}{n:Nat}(ts:List (Str × Tok × Int × Tok))(ns:(a == sysModules)=false)
    (hl:K.lookup a=some ⟨.type "dict",none,.dict (ts.map (entT w.params)).toArray n,#[]⟩) (hn:(ts.map (·.1)).Nodup):DictK P w K a (ts.map fun t=>(t.1,t.2.2.1))where
  ns:=ns
  of:=by
    refine⟨ts.map prT,kv_ts ts,fun h KX=>⟨_,_,_,KX a _ hl,⟨rfl,rfl,rfl⟩,rfl,fun e he=>?_,?_,?_⟩⟩
    · obtain⟨t,_,rfl⟩:=List.mem_map.mp (List.mem_toArray.mp he)
      exact⟨.inr t.1,f0i P w t.1 t.2.1,rfl⟩
    · exact prs_ts ts
    · have e:(ts.map prT).map (·.1)=(ts.map (·.1)).map Sum.inr:=by
        rw[List.map_map,List.map_map];rfl
      rw[e]
      exact hn.map Sum.inr fun a b h z=>h (Sum.inr.inj z)
def wts:List (Str × Tok × Int × Tok):=[(Str.ofString "nil",911,0,912),(Str.ofString "word",913,0,914),(Str.ofString "times",915,1,916),(Str.ofString "sum",917,2,918),(Str.ofString "then",919,2,920),(Str.ofString "both",921,2,922),(Str.ofString "back",923,1,924),(Str.ofString "star",925,1,926)]
end
abbrev NS(K:PySem.W.Frag)(x:Str)(a:Addr):Prop:=PySem.W.nsIn K mainGlobals x=some (some (.ref a))
abbrev KI(K:PySem.W.Frag)(a:Addr):Prop:=PySem.W.keepIn K (.ref a)=true
abbrev FX(K:PySem.W.Frag)(n q:Str)(s:Stmt)(a:Addr):Prop:=∃d,Fun K n q s a d
theorem fx{K:PySem.W.Frag}{x q:Str}{s:Stmt}{f:Addr}{b:Value}{u v:Option Addr}{w:Array (Option Value)}{c d e g j:Value}(l:K.lookup f=some ⟨b,u,.func (PySem.W.fnOf x q (c0h s) (c0a s) (a0k s) .none c d e v g j),w⟩)(h:PySem.W.codeIn K g q=true)(k:KI K f):FX K x q s f:=⟨_,fun_mk l h k⟩
theorem bn1{K:PySem.W.Frag}{x q:Str}{s:Stmt}{f:Addr}{fd:FuncData}{p0:Str}(F:Fun K x q s f fd)(h:∀(c d e:Value) (v:Option Addr) (g j:Value) (u0:Value),bindArgs (PySem.W.fnOf x q (c0h s) (c0a s) (a0k s) .none c d e v g j) ⟨[u0],[]⟩=pure (([p0]:List Str).zip [u0]):=by intros;rfl):Binds K fd [p0] []:=F.binds fun c d e v g j us hl=>match us,hl with | [u0],_=>h c d e v g j u0
theorem bn2{K:PySem.W.Frag}{x q:Str}{s:Stmt}{f:Addr}{fd:FuncData}{p0 p1:Str}(F:Fun K x q s f fd)(h:∀(c d e:Value) (v:Option Addr) (g j:Value) (u0 u1:Value),bindArgs (PySem.W.fnOf x q (c0h s) (c0a s) (a0k s) .none c d e v g j) ⟨[u0,u1],[]⟩=pure (([p0,p1]:List Str).zip [u0,u1]):=by intros;rfl):Binds K fd [p0,p1] []:=F.binds fun c d e v g j us hl=>match us,hl with | [u0,u1],_=>h c d e v g j u0 u1
theorem bn3{K:PySem.W.Frag}{x q:Str}{s:Stmt}{f:Addr}{fd:FuncData}{p0 p1 p2:Str}(F:Fun K x q s f fd)(h:∀(c d e:Value) (v:Option Addr) (g j:Value) (u0 u1 u2:Value),bindArgs (PySem.W.fnOf x q (c0h s) (c0a s) (a0k s) .none c d e v g j) ⟨[u0,u1,u2],[]⟩=pure (([p0,p1,p2]:List Str).zip [u0,u1,u2]):=by intros;rfl):Binds K fd [p0,p1,p2] []:=F.binds fun c d e v g j us hl=>match us,hl with | [u0,u1,u2],_=>h c d e v g j u0 u1 u2
theorem bn4{K:PySem.W.Frag}{x q:Str}{s:Stmt}{f:Addr}{fd:FuncData}{p0 p1 p2 p3:Str}(F:Fun K x q s f fd)(h:∀(c d e:Value) (v:Option Addr) (g j:Value) (u0 u1 u2 u3:Value),bindArgs (PySem.W.fnOf x q (c0h s) (c0a s) (a0k s) .none c d e v g j) ⟨[u0,u1,u2,u3],[]⟩=pure (([p0,p1,p2,p3]:List Str).zip [u0,u1,u2,u3]):=by intros;rfl):Binds K fd [p0,p1,p2,p3] []:=F.binds fun c d e v g j us hl=>match us,hl with | [u0,u1,u2,u3],_=>h c d e v g j u0 u1 u2 u3
theorem txt_mk{K:PySem.W.Frag}{h:Heap}{mg:Str→Option Value}(X:K.In h)(G:h.Ns mainGlobals mg){A0 A1 A2 A3 A4 A5 A6 A7 A8 A9 A10 A11 A12 A13 A14 A15 A16 A17 A18 A19 A20 A21 A22 A23 A24 A25 A26 A27 A28 A29 A30 A31 A32 A33 A34 A35 A36 A37 A38 A39 A40 A41 A42 A43 A44 A45 A46 A47 A48 A49 A50 A51 A52 A53 A54 A55:Addr}
 (N0:NS K "Fractions" A0)
 (pg0:PySem.W.plainGet K A0 Str.empty=true)
 (hd0:PySem.W.hasDictIn K A0=true)
 (po0:PySem.W.plainOver K A0=true)
 (sa0:PySem.W.findIn K (.ref A0) "__setattr__"=some (some (.builtin "object.__setattr__")))
 (mk0:PySem.W.makesIn K A0=true)
 (kp0:KI K A0)
 (in0:PySem.W.findIn K (.ref A0) "__init__"=some (some (.builtin "object.__init__")))
 (N1:NS K "Residues" A1)
 (pg1:PySem.W.plainGet K A1 Str.empty=true)
 (hd1:PySem.W.hasDictIn K A1=true)
 (po1:PySem.W.plainOver K A1=true)
 (sa1:PySem.W.findIn K (.ref A1) "__setattr__"=some (some (.builtin "object.__setattr__")))
 (mk1:PySem.W.makesIn K A1=true)
 (kp1:KI K A1)
 (N2:NS K "Costs" A2)
 (pg2:PySem.W.plainGet K A2 Str.empty=true)
 (hd2:PySem.W.hasDictIn K A2=true)
 (po2:PySem.W.plainOver K A2=true)
 (sa2:PySem.W.findIn K (.ref A2) "__setattr__"=some (some (.builtin "object.__setattr__")))
 (mk2:PySem.W.makesIn K A2=true)
 (kp2:KI K A2)
 (in2:PySem.W.findIn K (.ref A2) "__init__"=some (some (.builtin "object.__init__")))
 (N3:NS K "Truths" A3)
 (pg3:PySem.W.plainGet K A3 Str.empty=true)
 (hd3:PySem.W.hasDictIn K A3=true)
 (po3:PySem.W.plainOver K A3=true)
 (sa3:PySem.W.findIn K (.ref A3) "__setattr__"=some (some (.builtin "object.__setattr__")))
 (mk3:PySem.W.makesIn K A3=true)
 (kp3:KI K A3)
 (in3:PySem.W.findIn K (.ref A3) "__init__"=some (some (.builtin "object.__init__")))
 (N4:NS K "WeighError" A4)
 (X4:ExcK K A4)
 (N5:NS K "NoKind" A5)
 (X5:ExcK K A5)
 (N6:NS K "WrongKind" A6)
 (X6:ExcK K A6)
 (N7:NS K "NoWeight" A7)
 (X7:ExcK K A7)
 (N8:NS K "NoWord" A8)
 (X8:ExcK K A8)
 (N9:NS K "Unlike" A9)
 (X9:ExcK K A9)
 (N10:NS K "NoClosure" A10)
 (X10:ExcK K A10)
 (N11:NS K "TooGreat" A11)
 (X11:ExcK K A11)
 (N12:NS K "NoText" A12)
 (X12:ExcK K A12)
 (N13:NS K "NoName" A13)
 (X13:ExcK K A13)
 (N14:NS K "NoRow" A14)
 (X14:ExcK K A14)
 (n0:NS K "is_whole" A15)
 (f0:FX K "is_whole" "is_whole" g0h A15)
 (n1:NS K "divisor" A16)
 (f1:FX K "divisor" "divisor" h0l A16)
 (n2:NS K "is_prime" A17)
 (f2:FX K "is_prime" "is_prime" g0i A17)
 (n3:PySem.W.findIn K (.ref A1) "__init__"=some (some (.ref A18)))
 (i3:PySem.W.isFn K (.ref A18)=true)
 (f3:FX K "__init__" "Residues.__init__" b0z A18)
 (n4:NS K "is_written" A19)
 (f4:FX K "is_written" "is_written" c0z A19)
 (n5:NS K "read_whole" A20)
 (f5:FX K "read_whole" "read_whole" d0z A20)
 (n6:NS K "need_text" A21)
 (f6:FX K "need_text" "need_text" f0a A21)
 (n7:PySem.W.findIn K (.ref A0) "read"=some (some (.ref A22)))
 (i7:PySem.W.isFn K (.ref A22)=true)
 (f7:FX K "read" "Fractions.read" c0m A22)
 (n8:PySem.W.findIn K (.ref A1) "is_weight"=some (some (.ref A23)))
 (i8:PySem.W.isFn K (.ref A23)=true)
 (f8:FX K "is_weight" "Residues.is_weight" b0w A23)
 (n9:PySem.W.findIn K (.ref A1) "read"=some (some (.ref A24)))
 (i9:PySem.W.isFn K (.ref A24)=true)
 (f9:FX K "read" "Residues.read" c0v A24)
 (n10:PySem.W.findIn K (.ref A2) "read"=some (some (.ref A25)))
 (i10:PySem.W.isFn K (.ref A25)=true)
 (f10:FX K "read" "Costs.read" e0e A25)
 (n11:PySem.W.findIn K (.ref A3) "read"=some (some (.ref A26)))
 (i11:PySem.W.isFn K (.ref A26)=true)
 (f11:FX K "read" "Truths.read" d0p A26)
 (n12:NS K "is_word" A27)
 (f12:FX K "is_word" "is_word" f0o A27)
 (n13:NS K "sayings_within" A28)
 (f13:FX K "sayings_within" "sayings_within" c0l A28)
 (n14:NS K "read_word" A29)
 (f14:FX K "read_word" "read_word" e0z A29)
 (n15:NS K "next_piece" A30)
 (f15:FX K "next_piece" "next_piece" e0a A30)
 (n16:NS K "read_pieces" A31)
 (f16:FX K "read_pieces" "read_pieces" d0m A31)
 (n17:NS K "parts_within" A32)
 (f17:FX K "parts_within" "parts_within" c0i A32)
 (n18:NS K "read_saying" A33)
 (f18:FX K "read_saying" "read_saying" d0l A33)
 (n19:NS K "_law_next" A34)
 (f19:FX K "_law_next" "_law_next" g0f A34)
 (n20:NS K "_law_state" A35)
 (f20:FX K "_law_state" "_law_state" f0d A35)
 (n21:NS K "_law_divisor" A36)
 (f21:FX K "_law_divisor" "_law_divisor" d0o A36)
 (n22:NS K "_law_low" A37)
 (f22:FX K "_law_low" "_law_low" h0k A37)
 (n23:NS K "_law_nought" A38)
 (f23:FX K "_law_nought" "_law_nought" e0d A38)
 (n24:NS K "_law_sort" A39)
 (f24:FX K "_law_sort" "_law_sort" g0d A39)
 (n25:NS K "_law_kind" A40)
 (f25:FX K "_law_kind" "_law_kind" g0g A40)
 (n26:NS K "_law_weight" A41)
 (f26:FX K "_law_weight" "_law_weight" e0b A41)
 (n27:NS K "_law_letters" A42)
 (f27:FX K "_law_letters" "_law_letters" c0p A42)
 (n28:NS K "_law_shown_weight" A43)
 (f28:FX K "_law_shown_weight" "_law_shown_weight" c0b A43)
 (n29:NS K "_law_texts" A44)
 (f29:FX K "_law_texts" "_law_texts" f0c A44)
 (n30:NS K "_law_saying" A45)
 (f30:FX K "_law_saying" "_law_saying" e0c A45)
 (n31:NS K "_law_whole" A46)
 (f31:FX K "_law_whole" "_law_whole" f0b A46)
 (n32:NS K "_law_read_weight" A47)
 (f32:FX K "_law_read_weight" "_law_read_weight" c0g A47)
 (n33:NS K "_law_word_of" A48)
 (f33:FX K "_law_word_of" "_law_word_of" c0o A48)
 (n34:NS K "_law_items" A49)
 (f34:FX K "_law_items" "_law_items" f0e A49)
 (n35:NS K "_law_due" A50)
 (f35:FX K "_law_due" "_law_due" f0n A50)
 (n36:NS K "_law_spoiled" A51)
 (f36:FX K "_law_spoiled" "_law_spoiled" d0n A51)
 (n37:NS K "_law_balanced" A52)
 (f37:FX K "_law_balanced" "_law_balanced" d0e A52)
 (n38:NS K "_law_drawn" A53)
 (f38:FX K "_law_drawn" "_law_drawn" f0f A53)
 (n39:NS K "_law_read" A54)
 (f39:FX K "_law_read" "_law_read" g0e A54)
 (n40:NS K "law" A55)
 (f40:FX K "law" "law" s_law A55)
 (z_isinstance:PySem.W.nsIn K mainGlobals "isinstance"=some none)
 (z_int:PySem.W.nsIn K mainGlobals "int"=some none)
 (z_bool:PySem.W.nsIn K mainGlobals "bool"=some none)
 (z_abs:PySem.W.nsIn K mainGlobals "abs"=some none)
 {tk_c_GREATEST_PRIME:Tok}
 (c_GREATEST_PRIME:PySem.W.nsIn K mainGlobals "GREATEST_PRIME"=some (some (.int 1000000 tk_c_GREATEST_PRIME)))
 (z_str:PySem.W.nsIn K mainGlobals "str"=some none)
 (z_len:PySem.W.nsIn K mainGlobals "len"=some none)
 {tk_c_MOST_FIGURES:Tok}
 (c_MOST_FIGURES:PySem.W.nsIn K mainGlobals "MOST_FIGURES"=some (some (.int 30 tk_c_MOST_FIGURES)))
 (z_all:PySem.W.nsIn K mainGlobals "all"=some none)
 {tk_c_FIGURES:Tok}
 (c_FIGURES:PySem.W.nsIn K mainGlobals "FIGURES"=some (some (.str "0123456789" tk_c_FIGURES)))
 {tk_c_MOST_HIGH:Tok}
 (c_MOST_HIGH:PySem.W.nsIn K mainGlobals "MOST_HIGH"=some (some (.int 12 tk_c_MOST_HIGH)))
 (z_range:PySem.W.nsIn K mainGlobals "range"=some none)
 (z_sum:PySem.W.nsIn K mainGlobals "sum"=some none)
 (z_list:PySem.W.nsIn K mainGlobals "list"=some none)
 (z_reversed:PySem.W.nsIn K mainGlobals "reversed"=some none)
 {tk_c_MOST_PARTS:Tok}
 (c_MOST_PARTS:PySem.W.nsIn K mainGlobals "MOST_PARTS"=some (some (.int 40 tk_c_MOST_PARTS)))
 (z_enumerate:PySem.W.nsIn K mainGlobals "enumerate"=some none)
 (z_tuple:PySem.W.nsIn K mainGlobals "tuple"=some none)
 (z_ValueError:PySem.W.nsIn K mainGlobals "ValueError"=some none)
 (k_ii:PySem.W.kitOne K (.type "int") (.type "int")=some true)
 (k_ib:PySem.W.kitOne K (.type "int") (.type "bool")=some false)
 (k_tt:PySem.W.kitOne K (.type "tuple") (.type "tuple")=some true)
 (k_bb:PySem.W.kitOne K (.type "bool") (.type "bool")=some true)
 (k_ss:PySem.W.kitOne K (.type "str") (.type "str")=some true)
 (nP:PySem.W.findIn K (.ref A1) "prime"=some none)
 (k_ts:PySem.W.kitOne K (.type "tuple") (.type "str")=some false)
 (k_ns:PySem.W.kitOne K (.type "NoneType") (.type "str")=some false)
 (k_is:PySem.W.kitOne K (.type "int") (.type "str")=some false)
 (k_ls:PySem.W.kitOne K (.type "list") (.type "str")=some false)
 (eT:PySem.W.exmOne K (.ref A12) (.ref A4)=some true)
 (vT1:PySem.W.kitOne K (.ref A12) (.type "ValueError")=some true)
 (kTT:PySem.W.kitOne K (.ref A12) (.ref A12)=some true)
 (kT1:PySem.W.kitAny K (.ref A12) ([(.ref A10),(.ref A5),(.ref A13),(.ref A14)])=some false)
 (kT2:PySem.W.kitAny K (.ref A12) ([(.ref A7),(.ref A8),(.ref A11),(.ref A9),(.ref A6)])=some false)
 : ∃t:Adr,Txt K mg t:=
 have M:∀{x:Str} {v:Value},PySem.W.nsIn K mainGlobals x=some (some v)→mg x=some v:=fun n=>PySem.W.mg_of X G n
 have Z:∀{x:Str},PySem.W.nsIn K mainGlobals x=some none→mg x=none:=fun n=>PySem.W.mg_none_of X G n
 have S:∀{n q:Str} {s:Stmt} {a:Addr} (f:FX K n q s a),Fun K n q s a f.choose:=fun f=>f.choose_spec
 ⟨{ u0a:=A15,r0g:=f0.choose,u0l:=A16,s0k:=f1.choose,t0m:=A17,q0u:=f2.choose,l0w:=A18,l0m:=f3.choose,r0b:=A19,o0q:=f4.choose,r0e:=A20,o0f:=f5.choose,s0v:=A21,p0y:=f6.choose,m0m:=A22,m0f:=f7.choose,l0p:=A23,l0i:=f8.choose,m0w:=A24,m0k:=f9.choose,s0b:=A25,o0h:=f10.choose,q0s:=A26,m0z:=f11.choose,u0j:=A27,s0u:=f12.choose,m0n:=A28,m0a:=f13.choose,s0l:=A29,p0m:=f14.choose,r0x:=A30,o0n:=f15.choose,p0n:=A31,n0j:=f16.choose,o0g:=A32,m0o:=f17.choose,p0h:=A33,n0u:=f18.choose,t0o:=A34,q0w:=f19.choose,s0w:=A35,q0a:=f20.choose,p0k:=A36,n0k:=f21.choose,u0h:=A37,s0q:=f22.choose,r0o:=A38,o0k:=f23.choose,t0y:=A39,r0f:=f24.choose,t0q:=A40,s0f:=f25.choose,q0z:=A41,o0b:=f26.choose,p0t:=A42,m0y:=f27.choose,m0e:=A43,l0q:=f28.choose,s0p:=A44,q0n:=f29.choose,r0k:=A45,n0y:=f30.choose,s0t:=A46,p0o:=f31.choose,m0h:=A47,l0v:=f32.choose,p0j:=A48,n0r:=f33.choose,s0o:=A49,p0q:=f34.choose,u0f:=A50,s0s:=f35.choose,q0e:=A51,n0p:=f36.choose,p0a:=A52,m0q:=f37.choose,s0r:=A53,q0t:=f38.choose,t0i:=A54,r0d:=f39.choose,law:=A55,u0v:=f40.choose,t0f:=A0,t0u:=A1,u0x:=A2,u0q:=A3,s0e:=A4,u0n:=A5,s0y:=A6,t0h:=A7,u0m:=A8,u0p:=A9,t0e:=A10,t0t:=A11,u0o:=A12,u0r:=A13,u0t:=A14 },
   { r0a:=S f0,q0x:=bn1 (S f0),r0s:=M n0,s0x:=S f1,s0n:=bn2 (S f1),s0m:=M n1,r0p:=S f2,r0v:=bn1 (S f2),s0a:=M n2,l0l:=S f3,l0k:=bn2 (S f3),l0j:=⟨n3,i3,(S f3).kp⟩,o0u:=S f4,p0d:=bn1 (S f4),o0i:=M n4,o0e:=S f5,o0o:=bn1 (S f5),o0s:=M n5,p0z:=S f6,p0f:=bn1 (S f6),q0q:=M n6,l0y:=S f7,l0z:=bn2 (S f7),m0d:=⟨n7,i7,(S f7).kp⟩,l0g:=S f8,l0h:=bn2 (S f8),l0f:=⟨n8,i8,(S f8).kp⟩,m0i:=S f9,m0g:=bn2 (S f9),m0j:=⟨n9,i9,(S f9).kp⟩,o0l:=S f10,o0j:=bn2 (S f10),o0m:=⟨n10,i10,(S f10).kp⟩,n0s:=S f11,n0l:=bn2 (S f11),n0c:=⟨n11,i11,(S f11).kp⟩,t0d:=S f12,t0a:=bn2 (S f12),s0h:=M n12,m0b:=S f13,l0x:=bn1 (S f13),m0c:=M n13,p0s:=S f14,q0b:=bn2 (S f14),q0h:=M n14,o0d:=S f15,p0b:=bn1 (S f15),o0p:=M n15,n0f:=S f16,n0n:=bn4 (S f16),n0g:=M n16,m0t:=S f17,m0s:=bn1 (S f17),m0p:=M n17,n0e:=S f18,n0w:=bn3 (S f18),n0v:=M n18,r0t:=S f19,r0w:=bn2 (S f19),r0j:=M n19,q0p:=S f20,q0k:=bn1 (S f20),p0u:=M n20,n0m:=S f21,n0x:=bn2 (S f21),n0h:=M n21,s0z:=S f22,t0b:=bn2 (S f22),t0g:=M n22,n0z:=S f23,o0t:=bn1 (S f23),o0w:=M n23,r0r:=S f24,r0y:=bn1 (S f24),r0l:=M n24,r0m:=S f25,r0n:=bn1 (S f25),r0h:=M n25,o0x:=S f26,o0a:=bn2 (S f26),o0y:=M n26,n0t:=S f27,n0o:=bn2 (S f27),n0a:=M n27,l0o:=S f28,l0r:=bn2 (S f28),l0n:=M n28,p0x:=S f29,q0i:=bn2 (S f29),q0g:=M n29,o0r:=S f30,o0z:=bn4 (S f30),p0c:=M n30,p0r:=S f31,p0e:=bn1 (S f31),q0j:=M n31,l0s:=S f32,l0u:=bn2 (S f32),l0t:=M n32,n0b:=S f33,m0v:=bn2 (S f33),n0d:=M n33,q0f:=S f34,p0i:=bn3 (S f34),p0p:=M n34,s0i:=S f35,t0c:=bn3 (S f35),s0j:=M n35,n0q:=S f36,m0x:=bn2 (S f36),n0i:=M n36,m0u:=S f37,m0l:=bn1 (S f37),m0r:=M n37,q0c:=S f38,q0m:=bn3 (S f38),q0d:=M n38,q0y:=S f39,r0q:=bn3 (S f39),r0c:=M n39,u0u:=S f40,u0s:=bn1 (S f40),u0w:=M n40,q0r:=⟨pg0,hd0,po0,sa0⟩,p0l:=M N0,p0w:=⟨mk0,in0,kp0⟩,r0i:=⟨pg1,hd1,po1,sa1⟩,s0g:=M N1,q0v:=⟨mk1,n3,i3,kp1⟩,u0e:=⟨pg2,hd2,po2,sa2⟩,u0g:=M N2,u0k:=⟨mk2,in2,kp2⟩,u0b:=⟨pg3,hd3,po3,sa3⟩,t0p:=M N3,t0z:=⟨mk3,in3,kp3⟩,o0c:=M N4,o0v:=X4,u0c:=M N5,t0r:=X5,q0o:=M N6,q0l:=X6,r0u:=M N7,s0d:=X7,t0n:=M N8,t0w:=X8,t0v:=M N9,t0k:=X9,p0v:=M N10,p0g:=X10,r0z:=M N11,s0c:=X11,t0s:=M N12,t0l:=X12,t0x:=M N13,t0j:=X13,u0d:=M N14,u0i:=X14,z_isinstance:=Z z_isinstance,z_int:=Z z_int,z_bool:=Z z_bool,z_abs:=Z z_abs,c_GREATEST_PRIME:=⟨_,M c_GREATEST_PRIME⟩,z_str:=Z z_str,z_len:=Z z_len,c_MOST_FIGURES:=⟨_,M c_MOST_FIGURES⟩,z_all:=Z z_all,c_FIGURES:=⟨_,M c_FIGURES⟩,c_MOST_HIGH:=⟨_,M c_MOST_HIGH⟩,z_range:=Z z_range,z_sum:=Z z_sum,z_list:=Z z_list,z_reversed:=Z z_reversed,c_MOST_PARTS:=⟨_,M c_MOST_PARTS⟩,z_enumerate:=Z z_enumerate,z_tuple:=Z z_tuple,z_ValueError:=Z z_ValueError,k_ii:=k_ii,k_ib:=k_ib,k_tt:=k_tt,k_bb:=k_bb,k_ss:=k_ss,nP:=nP,k_ts:=k_ts,k_ns:=k_ns,k_is:=k_is,k_ls:=k_ls,eT:=eT,vT1:=vT1,kTT:=kTT,kT1:=kT1,kT2:=kT2 }⟩
end K84
open PySem PySem.W PyProof.Rows
theorem K84.lkW(P:Params):(H84.K P).lookup 594=some ⟨.type "dict",none,.dict (K84.wts.map (K84.entT P)).toArray 8,#[]⟩:=by kernel_rfl
set_option maxRecDepth 100000 in
set_option maxHeartbeats 0 in
theorem PySem.Challenge.cw_weighwalk_k84_odd_sayings_holds : PySem.Challenge.rw_weighwalk_k84_odd_sayings.Holds := by
  w_on;o_law
  refine H84.holds_ (by assumption) ?hw ?hc
  (case hw=>w_witness2)
  unfold H84.hook
  k_fill
  refine L2.walk_ofK (l:=PySem.Challenge.rw_weighwalk_k84_odd_sayings) (n:=63) (k:=50) (x:="_law_script") (CX:=L2.CX0) (sp:=K84.sp_law) rfl (by decide) rfl ⟨rfl,by decide,by decide⟩ (by decide +kernel) (fun w h Y=>PySem.W.kIn_of Y) ?F ?S ?C
  case F=>
    intro w mg fa h KX G hmg
    have T:∃t,K84.Txt (L2.KOf KX) mg t:=by
      dsimp only[L2.KOf]
      refine' K84.txt_mk KX G ?_ ?_ ?_ ?_ ?_ ?_ ?_ ?_ ?_ ?_ ?_ ?_ ?_ ?_ ?_ ?_ ?_ ?_ ?_ ?_ ?_ ?_ ?_ ?_ ?_ ?_ ?_ ?_ ?_ ?_ ?_ ?_ ?X4 ?_ ?X5 ?_ ?X6 ?_ ?X7 ?_ ?X8 ?_ ?X9 ?_ ?X10 ?_ ?X11 ?_ ?X12 ?_ ?X13 ?_ ?X14 ?_ (K84.fx (H84.lk_is_whole _) ?_ ?_) ?_ (K84.fx (H84.lk_divisor _) ?_ ?_) ?_ (K84.fx (H84.lk_is_prime _) ?_ ?_) ?_ ?_ (K84.fx (H84.e0v _) ?_ ?_) ?_ (K84.fx (H84.k0n _) ?_ ?_) ?_ (K84.fx (H84.k0l _) ?_ ?_) ?_ (K84.fx (H84.lk_need_text _) ?_ ?_) ?_ ?_ (K84.fx (H84.g0q _) ?_ ?_) ?_ ?_ (K84.fx (H84.e0n _) ?_ ?_) ?_ ?_ (K84.fx (H84.h0b _) ?_ ?_) ?_ ?_ (K84.fx (H84.k0t _) ?_ ?_) ?_ ?_ (K84.fx (H84.i0y _) ?_ ?_) ?_ (K84.fx (H84.lk_is_word _) ?_ ?_) ?_ (K84.fx (H84.g0p _) ?_ ?_) ?_ (K84.fx (H84.lk_read_word _) ?_ ?_) ?_ (K84.fx (H84.k0m _) ?_ ?_) ?_ (K84.fx (H84.i0u _) ?_ ?_) ?_ (K84.fx (H84.h0x _) ?_ ?_) ?_ (K84.fx (H84.i0t _) ?_ ?_) ?_ (K84.fx (H84.lk__law_next _) ?_ ?_) ?_ (K84.fx (H84.k0q _) ?_ ?_) ?_ (K84.fx (H84.i0b _) ?_ ?_) ?_ (K84.fx (H84.lk__law_low _) ?_ ?_) ?_ (K84.fx (H84.i0x _) ?_ ?_) ?_ (K84.fx (H84.lk__law_sort _) ?_ ?_) ?_ (K84.fx (H84.lk__law_kind _) ?_ ?_) ?_ (K84.fx (H84.i0v _) ?_ ?_) ?_ (K84.fx (H84.i0a _) ?_ ?_) ?_ (K84.fx (H84.e0u _) ?_ ?_) ?_ (K84.fx (H84.k0p _) ?_ ?_) ?_ (K84.fx (H84.i0w _) ?_ ?_) ?_ (K84.fx (H84.k0o _) ?_ ?_) ?_ (K84.fx (H84.f0k _) ?_ ?_) ?_ (K84.fx (H84.h0y _) ?_ ?_) ?_ (K84.fx (H84.k0r _) ?_ ?_) ?_ (K84.fx (H84.lk__law_due _) ?_ ?_) ?_ (K84.fx (H84.h0z _) ?_ ?_) ?_ (K84.fx (H84.h0a _) ?_ ?_) ?_ (K84.fx (H84.k0s _) ?_ ?_) ?_ (K84.fx (H84.lk__law_read _) ?_ ?_) ?_ (K84.fx (H84.lk_law _) ?_ ?_) ?_ ?_ ?_ ?_ ?_ ?_ ?_ ?_ ?_ ?_ ?_ ?_ ?_ ?_ ?_ ?_ ?_ ?_ ?_ ?k_ii ?k_ib ?k_tt ?k_bb ?k_ss ?_ ?k_ts ?k_ns ?k_is ?k_ls ?eT ?vT1 ?kTT ?kT1 ?kT2
      any_goals (show _=_;k_is)
      (case X4 | X5 | X6 | X7 | X8 | X9 | X10 | X11 | X12 | X13 | X14=>exact⟨by kernel_rfl,by kernel_rfl,by kernel_rfl,by kernel_rfl,by kernel_rfl,by kernel_rfl⟩)
      (case k_ii | k_ib | k_tt | k_bb | k_ss | k_ts | k_ns | k_is | k_ls=>kit_is)
      (case eT | vT1 | kTT | kT1 | kT2=>kernel_rfl)
    obtain⟨t,T⟩:=T
    have hW:K84.WK w (L2.KOf KX) mg 594:=by
      dsimp only[L2.KOf]
      exact⟨PySem.W.mg_of KX G (by k_is),K84.dk_of K84.wts rfl (K84.lkW _) (by decide +kernel)⟩
    have e0:=hmg.symm.trans T.u0w
    cases e0
    exact⟨_,K84.law_binds T,fun base kb nb=>K84.ok_law T hW⟩
  case S=>exact fun K H a ns hl hO hS=>⟨a,ns,rfl,hS,hl,fun _=>rfl⟩
  case C=>exact fun _ _ _ _ z=>z
