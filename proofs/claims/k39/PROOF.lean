import PyProof.Rows.All
import Wide.All
import OpenK.AllK
import Wide.FinOn
import Lean
import PyProof.EqAt
import PyProof.EqKinds
import PyProof.TupleCall
import PyProof.EnumMake
import PyProof.ZipIter
import PyProof.NeKinds
import PyProof.Rows.SortWalk
import PyProof.AttrMiss
import PyProof.IsiH_list
import KE.KDictOf
import PyProof.Draws
import PyProof.StrCalls
import PyProof.StrCalls2
import PyProof.FString5
import PyProof.DictWalks
import PyProof.MeetsDict
import PyProof.EqAt
import PyProof.Rows.RuleM_int
import KE.KEqDict
import KE.KDictSum
import PyProof.WalkInts
import PyProof.FactsAll.dict_4
import PyProof.StrBlockI
import PyProof.StrBlock2
import PyProof.StrCalls3
import KE.KIntText
import PyProof.ListStr
import PyProof.Rows.StrNews2
import PyProof.SliceStr2
import PyProof.StrLawsFrom
import PyProof.StrLawsIn
import KE.KSortTup
import PyProof.P3Eq
import PyProof.Rows.TupDisplay
import KE.KLam
import KE.KRevIter
import PyProof.NsDelKeeps
import KE.KIsAll
import OpenK.KDescr
import PySem.Challenge.RW_bitdraws_k39_whole_refusals
set_option Elab.async false
set_option linter.all false
set_option maxRecDepth 100000
namespace L2
open PySem PySem.Spec PyProof.Rows
noncomputable abbrev Key:=Sum Int Str
noncomputable def keyIs:Key→Value→Bool
 |.inl k,v=>Value.isInt k v
 |.inr x,v=>Value.isStrOf x v
noncomputable def keyH (w:World):Key→Int
 |.inl k=>hashInt k
 |.inr x=>hashStr w x
theorem keyIs_shape:∀{k:Key}{v:Value},keyIs k v=true→(∃i t,k=Sum.inl i∧v=Value.int i t)∨(∃x t,k=Sum.inr x∧v=Value.str x t)
 |.inl i,v,h=>by
  obtain⟨t,e⟩:=Value.isInt_shape (k:=i) (v:=v) h
  exact .inl ⟨i,t,rfl,e⟩
 |.inr x,v,h=>by
  obtain⟨t,e⟩:=Value.isStrOf_shape (x:=x) (v:=v) h
  exact .inr ⟨x,t,rfl,e⟩
theorem key_ll (a b:Int):decide ((Sum.inl a:Key)=Sum.inl b)=(a==b):=by
 by_cases e:a=b
 ·subst e;simp
 ·have h:¬(Sum.inl a:Key)=Sum.inl b:=fun q=>e (Sum.inl.inj q)
  rw[decide_eq_false h]
  exact(beq_eq_false_iff_ne.mpr e).symm
theorem key_rr (a b:Str):decide ((Sum.inr a:Key)=Sum.inr b)=decide (a=b):=by
 by_cases e:a=b
 ·subst e;simp
 ·have h:¬(Sum.inr a:Key)=Sum.inr b:=fun q=>e (Sum.inr.inj q)
  rw[decide_eq_false h,decide_eq_false e]
theorem key_lr (a:Int)(b:Str):decide ((Sum.inl a:Key)=Sum.inr b)=false:=decide_eq_false (fun q=>nomatch q)
theorem key_rl (a:Str)(b:Int):decide ((Sum.inr a:Key)=Sum.inl b)=false:=decide_eq_false (fun q=>nomatch q)
noncomputable def mixKind (prog:Program)(w:World):PySem.KeyKind prog w Key where
 is:=keyIs
 hash:=keyH w
 inj:=fun v a b ha hb=>by
  rcases keyIs_shape ha with ⟨i,t,rfl,rfl⟩|⟨x,t,rfl,rfl⟩
  ·rcases keyIs_shape hb with ⟨j,u,rfl,e⟩|⟨y,u,rfl,e⟩
   ·injection e with e1 _;rw[e1]
   ·exact nomatch e
  ·rcases keyIs_shape hb with ⟨j,u,rfl,e⟩|⟨y,u,rfl,e⟩
   ·exact nomatch e
   ·injection e with e1 _;rw[e1]
 byValue:=fun k v h=>by
  rcases keyIs_shape h with ⟨i,t,rfl,rfl⟩|⟨x,t,rfl,rfl⟩<;>rfl
 pyHash:=fun hv h=>by
  rcases keyIs_shape hv with ⟨i,t,rfl,rfl⟩|⟨x,t,rfl,rfl⟩
  ·exact wpAny_pyHash_int h
  ·exact wpAny_pyHash_str h
 eqBool:=fun hu hv h=>by
  rcases keyIs_shape hu with ⟨i,t,rfl,rfl⟩|⟨x,t,rfl,rfl⟩
  ·rcases keyIs_shape hv with ⟨j,u,rfl,rfl⟩|⟨y,u,rfl,rfl⟩
   ·rw[key_ll]at h;exact wpAny_eqBool_int h
   ·rw[key_lr]at h;exact SeqAt.EqAt.int_str i t y u _ _ _ _ h
  ·rcases keyIs_shape hv with ⟨j,u,rfl,rfl⟩|⟨y,u,rfl,rfl⟩
   ·rw[key_rl]at h;exact SeqAt.EqAt.str_int x t j u _ _ _ _ h
   ·rw[key_rr]at h;exact wpAny_eqBool_str h
 «strs»:=fun k x t v h=>by
  rcases keyIs_shape h with ⟨i,u,rfl,e⟩|⟨y,u,rfl,e⟩
  ·exact nomatch e
  ·injection e with e1 _
   subst e1
   cases v<;>rfl
end L2
namespace L2
open PySem PySem.Spec PyProof.Rows
inductive V where
 | non|bl (b:Bool)|int (i:Int)|str (x:Str)|byt (b:Array UInt8)|flt (b:UInt64)|ref (a:Addr)|ty (n:String)
 deriving DecidableEq
noncomputable def RelV:V→Value→Prop
 |.non,u=>u=Value.none
 |.bl b,u=>u=Value.bool b
 |.int i,u=>∃t,u=Value.int i t
 |.str x,u=>∃t,u=Value.str x t
 |.byt b,u=>∃t,u=Value.bytes b t
 |.flt b,u=>∃t,u=Value.float b t
 |.ref a,u=>u=Value.ref a
 |.ty n,u=>u=Value.type n
abbrev Vals:List V→List Value→Prop:=Paired RelV
theorem Vals.length {xs:List V}{us:List Value}(r:Vals xs us):xs.length=us.length:=Paired.length r
theorem Vals.get:∀{xs:List V}{us:List Value}{i:Nat}{x:V},Vals xs us→xs[i]?=some x→∃u,us[i]?=some u∧RelV x u
 | _,_,_,_,.nil,e=>by simp at e
 | _,_,0,_,.cons r _,e=>by simp at e;subst e;exact⟨_,rfl,r⟩
 | _,_,i+1,x,.cons _ t,e=>by
  obtain⟨u,h1,h2⟩:=Vals.get (i:=i) (x:=x) t (by simpa using e)
  exact⟨u,by simpa using h1,h2⟩
theorem Vals.set {x:V}{u:Value}(r:RelV x u):∀{xs:List V}{us:List Value}(i:Nat),Vals xs us→Vals (xs.set i x) (us.set i u)
 | _,_,_,.nil=>.nil
 | _,_,0,.cons _ t=>.cons r t
 | _,_,i+1,.cons q t=>.cons q (Vals.set r i t)
theorem Vals.append:∀{xs ys:List V}{us ws:List Value},Vals xs us→Vals ys ws→Vals (xs++ys) (us++ws)
 | _,_,_,_,.nil,s=>s
 | _,_,_,_,.cons r t,s=>.cons r (Vals.append t s)
theorem Vals.take:∀{xs:List V}{us:List Value}(n:Nat),Vals xs us→Vals (xs.take n) (us.take n)
 | _,_,0,_=>.nil
 | _,_,_+1,.nil=>.nil
 | _,_,n+1,.cons r t=>.cons r (Vals.take n t)
noncomputable def RelO:Option V→Option Value→Prop
 | some v,some u=>RelV v u
 | none,none=>True
 | _,_=>False
def KV {κ:Type}:List (κ×V)→List (κ×Value)→Prop:=Paired fun(p:κ×V)(q:κ×Value)=>p.1=q.1∧RelV p.2 q.2
noncomputable def kV:Key→V
 |.inl i=>.int i
 |.inr x=>.str x
inductive HO where
  | lst (xs:List V)
  | tup (xs:List V)
  | dK (kvs:List (Key×V))|dT (kvs:List (List Key×V))
  | set (S:Int→Bool)(n:Nat)
  | ins (C dx:Addr)(fs:List (Str×V))
  | own (x:Addr)
  | xd (fs:List (Str×V))
  | met (f x:Addr)
  | rng (lo hi:Int)
  | frz (o:Obj)(u:HO)
  | tbl (ps:Array Value)
  | ext (φ:Heap→Prop)
noncomputable abbrev Hp:=Addr→Option HO
noncomputable def upd (H:Hp)(a:Addr)(o:HO):Hp:=fun b=>if b=a then some o else H b
theorem upd_same {H:Hp}{a:Addr}{o:HO}:upd H a o a=some o:=by unfold upd;rw[if_pos rfl]
theorem upd_ne {H:Hp}{a b:Addr}{o:HO}(h:b≠a):upd H a o b=H b:=by unfold upd;rw[if_neg h]
theorem ne_of_none {H:Hp}{a b:Addr}{o:HO}(h:H a=some o)(h':H b=none):a≠b:=by
 intro e;subst e;rw[h]at h';cases h'
section
variable (P:Program)(w:World)
noncomputable def ObjOk (H:Hp)(h:Heap)(a:Addr):HO→Prop
 |.lst xs=>xs.length≤sizeLine∧∃(its:List Value)(n:Nat),Vals xs its∧h.get? a=some { cls:=.type "list",data:=.seq its.toArray n }
 |.tup xs=>xs.length≤sizeLine∧∃its:List Value,Vals xs its∧IsTup h a its.toArray∧∃ob,h.get? a=some ob∧ob.dict=none
 |.dK kvs=>kvs.length≤sizeLine∧(a==sysModules)=false∧∃vs,KV kvs vs∧h.DictOf (mixKind P w) a vs
 |.dT kvs=>kvs.length≤sizeLine∧(a==sysModules)=false∧∃xs:List (List Key×Addr×Value),
   Paired (fun(p:List Key×V)(q:List Key×Addr×Value)=>p.1=q.1∧H q.2.1=some (.tup (p.1.map kV))∧RelV p.2 q.2.2) kvs xs ∧
   ∃o es ep,h.get? a=some o∧o.ExactDict∧o.data=.dict es ep∧es.toList=xs.map (entryOfKey (tupleKind (mixKind P w)))∧(xs.map (·.1)).Nodup
 |.set S n=>h.SetOf (intKind P w) a S n
 |.ins C dx fs=>H dx=some (.own a)∧fs.length≤1000∧dx≠a∧h.get? a=some (PySem.W.instObj C dx) ∧
   ∃mA,h.Ns1 dx mA∧(∀f,RelO (fs.lookup f) (mA f))∧PySem.Within mA (fs.map (·.1))
 |.own _=>∃o,h.get? a=some o
 |.xd fs=>∃mA,h.Ns1 a mA∧∀f,RelO (fs.lookup f) (mA f)
 |.rng lo hi=>∃t u v,h.get? a=some { cls:=.type "range",data:=.fields #[.int lo t,.int hi u,.int 1 v] }
 |.frz o u=>h.get? a=some o∧ObjOk H h a u
 |.tbl ps=>h.get? a=some { cls:=.none,data:=.fields ps }
 |.met f x=>h.get? a=some (PySem.W.methodObj (.ref f) (.ref x))
 |.ext φ=>φ h∧(∃o,h.get? a=some o)∧∀h1 h2:Heap,φ h1→(∀o,h1.get? a=some o→h2.get? a=some o)→φ h2
def HOk (H:Hp)(h:Heap):Prop:=∀a o,H a=some o→ObjOk P w H h a o
end
section
variable {P:Program}{w:World}{H H':Hp}{h h':Heap}{a:Addr}{o:HO}
theorem ObjOk.lt (x:ObjOk P w H h a o):a<h.objs.size:=by
 cases o with
 | lst xs=>obtain⟨_,_,_,_,e⟩:=x;exact Heap.lt_size e
 | tup xs=>obtain⟨_,_,_,p,_⟩:=x;exact p.lt
 | dK kvs=>obtain⟨_,_,_,_,o,_,_,e,_⟩:=x;exact Heap.lt_size e
 | dT kvs=>obtain⟨_,_,_,_,o,_,_,e,_⟩:=x;exact Heap.lt_size e
 | set S n=>obtain⟨o,_,_,_,e,_⟩:=x;exact Heap.lt_size e
 | ins C dx fs=>obtain⟨_,_,_,e,_⟩:=x;exact Heap.lt_size e
 | own y=>obtain⟨_,e⟩:=x;exact Heap.lt_size e
 | xd fs=>obtain⟨_,⟨_,_,_,e,_⟩,_⟩:=x;exact Heap.lt_size e
 | rng lo hi=>obtain⟨_,_,_,e⟩:=x;exact Heap.lt_size e
 | frz ob u=>obtain⟨e,_⟩:=x;exact Heap.lt_size e
 | tbl ps=>exact Heap.lt_size (show h.get? a=some _ from x)
 | met f y=>exact Heap.lt_size (show h.get? a=some _ from x)
 | ext φ=>obtain⟨_,⟨_,e⟩,_⟩:=x;exact Heap.lt_size e
theorem Paired.mapP {α β:Type}{F G:α→β→Prop}:∀{l₁:List α}{l₂:List β},Paired F l₁ l₂→(∀a b,F a b→G a b)→Paired G l₁ l₂
 | _,_,.nil,_=>.nil
 | _,_,.cons r t,f=>.cons (f _ _ r) (Paired.mapP t f)
theorem ObjOk.stay (x:ObjOk P w H h a o)(k:∀b u,(b=a∨H b=some (.own a))→h.get? b=some u→h'.get? b=some u)
  (ho:∀b,H b=some (.own a)→H' b=some (.own a))(ht:∀b xs,H b=some (.tup xs)→H' b=some (.tup xs)):ObjOk P w H' h' a o:=by
 induction o with
 | lst xs=>obtain⟨z,its,n,r,e⟩:=x;exact⟨z,its,n,r,k _ _ (.inl rfl) e⟩
 | tup xs=>obtain⟨z,its,r,⟨ob,e,c⟩,od,ed,dd⟩:=x;exact⟨z,its,r,⟨ob,k _ _ (.inl rfl) e,c⟩,od,k _ _ (.inl rfl) ed,dd⟩
 | dK kvs=>obtain⟨z,y,vs,r,ob,es,ep,e,c⟩:=x;exact⟨z,y,vs,r,ob,es,ep,k _ _ (.inl rfl) e,c⟩
 | dT kvs =>
  obtain⟨z,y,xs,r,ob,es,ep,e,c⟩:=x
  exact⟨z,y,xs,Paired.mapP r fun p q z=>⟨z.1,ht _ _ z.2.1,z.2.2⟩,ob,es,ep,k _ _ (.inl rfl) e,c⟩
 | set S n=>obtain⟨ob,es,ep,t,e,c⟩:=x;exact⟨ob,es,ep,t,k _ _ (.inl rfl) e,c⟩
 | ins C dx fs =>
  obtain⟨d,z,ne,e,mA,⟨od,es,ep,e2,c⟩,r⟩:=x
  exact⟨ho _ d,z,ne,k _ _ (.inl rfl) e,mA,⟨od,es,ep,k _ _ (.inr d) e2,c⟩,r⟩
 | own y=>obtain⟨ob,e⟩:=x;exact⟨ob,k _ _ (.inl rfl) e⟩
 | xd fs=>obtain⟨mA,⟨od,es,ep,e,c⟩,r⟩:=x;exact⟨mA,⟨od,es,ep,k _ _ (.inl rfl) e,c⟩,r⟩
 | rng lo hi=>obtain⟨t,u,v,e⟩:=x;exact⟨t,u,v,k _ _ (.inl rfl) e⟩
 | frz ob u ih=>obtain⟨e,q⟩:=x;exact⟨k _ _ (.inl rfl) e,ih q⟩
 | tbl ps =>
  have e:h.get? a=some { cls:=.none,data:=.fields ps }:=x
  show h'.get? a=some { cls:=.none,data:=.fields ps }
  exact k a _ (.inl rfl) e
 | met f y =>
  have e:h.get? a=some (PySem.W.methodObj (.ref f) (.ref y)):=x
  show h'.get? a=some (PySem.W.methodObj (.ref f) (.ref y))
  exact k a _ (.inl rfl) e
 | ext φ=>obtain⟨p,⟨o,e⟩,st⟩:=x;exact⟨st _ _ p fun o q=>k _ _ (.inl rfl) q,⟨o,k _ _ (.inl rfl) e⟩,st⟩
theorem HOk.lt (x:HOk P w H h)(e:H a=some o):a<h.objs.size:=(x a o e).lt
theorem HOk.fresh (x:HOk P w H h)(e:h.objs.size≤a):H a=none:=by
 cases q:H a with
 | none=>rfl
 | some u=>exact absurd (Nat.lt_of_lt_of_le (x.lt q) e) (Nat.lt_irrefl _)
theorem HOk.kept (x:HOk P w H h)(k:∀b u,h.get? b=some u→h'.get? b=some u):HOk P w H h':=fun a o e =>
 (x a o e).stay (fun b u _ q=>k b u q) (fun _ q=>q) fun _ _ q=>q
theorem HOk.laid (x:HOk P w H h)(k:∀b u,h.get? b=some u→h'.get? b=some u)(hp:h.objs.size≤a)(new:ObjOk P w (upd H a o) h' a o):HOk P w (upd H a o) h':=fun b u e=>by
 have hn:=x.fresh hp
 by_cases hb:b=a
 ·subst hb;rw[upd_same]at e;cases e;exact new
 ·rw[upd_ne hb]at e
  exact(x b u e).stay (fun c v _ q=>k c v q) (fun c q=>by rw[upd_ne (ne_of_none q hn)];exact q) fun c xs q=>by rw[upd_ne (ne_of_none q hn)];exact q
end
def Rd (H:Hp)(a:Addr)(u:HO):Prop:=H a=some u∨∃o,H a=some (.frz o u)
theorem Rd.of {H:Hp}{a:Addr}{u:HO}(h:H a=some u):Rd H a u:=.inl h
theorem Rd.ok {P:Program}{w:World}{H:Hp}{h:Heap}{a:Addr}{u:HO}(r:Rd H a u)(x:HOk P w H h):ObjOk P w H h a u:=by
 rcases r with r|⟨o,r⟩
 ·exact x a u r
 ·obtain⟨_,q⟩:=x a _ r
  exact q
noncomputable def Mut:Option HO→Prop
 | some (.lst _)=>True
 | some (.dK _)=>True
 | some (.dT _)=>True
 | some (.set _ _)=>True
 | some (.ins _ _ _)=>True
 | some (.ext _)=>True
 | _=>False
section
variable {P:Program}{w:World}{H:Hp}{h h':Heap}{x e:Addr}{o':HO}
theorem HOk.write (ok:HOk P w H h)(mu:Mut (H x))(he:e=x∨H e=some (.own x))(k:∀b u,b≠e→h.get? b=some u→h'.get? b=some u)(heo:∃u,h'.get? e=some u)
  (new:ObjOk P w (upd H x o') h' x o'):HOk P w (upd H x o') h':=fun b u q=>by
 have nown:∀c y,H c=some (.own y)→c≠x:=fun c y r z=>by subst z;rw[r]at mu;exact mu
 have ntup:∀c xs,H c=some (.tup xs)→c≠x:=fun c xs r z=>by subst z;rw[r]at mu;exact mu
 by_cases hb:b=x
 ·subst hb;rw[upd_same]at q;cases q;exact new
 ·rw[upd_ne hb]at q
  by_cases hbe:b=e
  ·have q':H b=some (.own x):=by
    rcases he with z|z
    ·exact absurd (hbe.trans z) hb
    ·rw[hbe];exact z
   rw[q]at q';cases q'
   obtain⟨v,hv⟩:=heo
   exact⟨v,by rw[hbe];exact hv⟩
  ·refine(ok b u q).stay (fun c v hc r=>k c v ?_ r) (fun c r=>by rw[upd_ne (nown c b r)];exact r) fun c xs r=>by rw[upd_ne (ntup c xs r)];exact r
   rcases hc with rfl|hc
   ·exact hbe
   ·rintro rfl
    rcases he with z|z
    ·exact nown c b hc z
    ·rw[hc]at z;cases z;exact hb rfl
end
structure Un (fs ex:List Addr)(H H':Hp)(h h':Heap):Prop where
 keep:∀b o,h.get? b=some o→H b=none→b∉fs→b∉ex→h'.get? b=some o
 slot:∀b o,h.get? b=some o→H b=none→b∈fs→b∉ex→∃sl,h'.get? b=some { o with slots:=sl }
 free:∀b o,h.get? b=some o→H b=none→b∉ex→H' b=none
 there:∀b o,h.get? b=some o→b∉ex→∃o',h'.get? b=some o'
 tups:∀b xs,H b=some (.tup xs)→H' b=some (.tup xs)
 frzs:∀b o u,H b=some (.frz o u)→H' b=some (.frz o u)
 tbls:∀b ps,H b=some (.tbl ps)→∃more,H' b=some (.tbl (ps++more))
section
variable {fs fs' ex ex':List Addr}{H H1 H2:Hp}{h h1 h2 h':Heap}{a x e:Addr}{o:HO}
theorem Un.any (u:Un fs ex H H1 h h1){b:Addr}{ob:Obj}(q:h.get? b=some ob)(n:H b=none)(hx:b∉ex):∃sl,h1.get? b=some { ob with slots:=sl }:=by
 by_cases hb:b∈fs
 ·exact u.slot b ob q n hb hx
 ·exact⟨ob.slots,u.keep b ob q n hb hx⟩
theorem Un.trans (a:Un fs ex H H1 h h1)(b:Un fs ex H1 H2 h1 h2):Un fs ex H H2 h h2 where
 keep:=fun c ob q n hc hx=>b.keep c ob (a.keep c ob q n hc hx) (a.free c ob q n hx) hc hx
 slot:=fun c ob q n hc hx=>by
  obtain⟨sl,e1⟩:=a.slot c ob q n hc hx
  obtain⟨sl',e2⟩:=b.slot c _ e1 (a.free c ob q n hx) hc hx
  exact⟨sl',e2⟩
 free:=fun c ob q n hx=>by
  obtain⟨o',e1⟩:=a.there c ob q hx
  exact b.free c o' e1 (a.free c ob q n hx) hx
 there:=fun c ob q hx=>by
  obtain⟨o',e1⟩:=a.there c ob q hx
  exact b.there c o' e1 hx
 tups:=fun c xs q=>b.tups c xs (a.tups c xs q)
 frzs:=fun c ob xs q=>b.frzs c ob xs (a.frzs c ob xs q)
 tbls:=fun c ps q=>by
  obtain⟨m1,e1⟩:=a.tbls c ps q
  obtain⟨m2,e2⟩:=b.tbls c _ e1
  exact⟨m1++m2,by rw[e2,Array.append_assoc]⟩
theorem Un.kept (k:∀b u,h.get? b=some u→h'.get? b=some u):Un fs ex H H h h' :=
 ⟨fun b ob q _ _ _=>k b ob q,fun b ob q _ _ _=>⟨ob.slots,k b ob q⟩,fun _ _ _ n _=>n,fun b ob q _=>⟨ob,k b ob q⟩,fun _ _ q=>q,fun _ _ _ q=>q,fun _ ps q=>⟨#[],by rw[q];simp⟩⟩
theorem Un.refl:Un fs ex H H h h:=Un.kept fun _ _ q=>q
theorem Un.laid (k:∀b u,h.get? b=some u→h'.get? b=some u)(hp:h.objs.size≤a)(hn:H a=none):Un fs ex H (upd H a o) h h' where
 keep:=fun b u q _ _ _=>k b u q
 slot:=fun b u q _ _ _=>⟨u.slots,k b u q⟩
 free:=fun b u q n _=>by rw[upd_ne (Nat.ne_of_lt (Nat.lt_of_lt_of_le (Heap.lt_size q) hp))];exact n
 there:=fun b u q _=>⟨u,k b u q⟩
 tups:=fun b xs q=>by rw[upd_ne (ne_of_none q hn)];exact q
 frzs:=fun b u xs q=>by rw[upd_ne (ne_of_none q hn)];exact q
 tbls:=fun b ps q=>⟨#[],by rw[upd_ne (ne_of_none q hn),q];simp⟩
theorem Un.write (mu:Mut (H x))(he:e=x∨H e=some (.own x))(k:∀b u,b≠e→h.get? b=some u→h'.get? b=some u)(heo:∃u,h'.get? e=some u):Un fs ex H (upd H x o) h h':=by
 have hx:∀b,H b=none→b≠x:=fun b n z=>by subst z;rw[n]at mu;exact mu
 have hb:∀b,H b=none→b≠e:=fun b n z=>by
  subst z
  rcases he with r|r
  ·exact hx b n r
  ·rw[n]at r;cases r
 have hm:∀b u,H b=some u→¬Mut (some u)→b≠x:=fun b u q nm z=>by subst z;rw[q]at mu;exact nm mu
 refine⟨fun b u q n _ _=>k b u (hb b n) q,fun b u q n _ _=>⟨u.slots,k b u (hb b n) q⟩,fun b u q n _=>by rw[upd_ne (hx b n)];exact n,fun b u q _=>?_,
  fun b xs q=>by rw[upd_ne (hm b _ q fun z=>z)];exact q,fun b u xs q=>by rw[upd_ne (hm b _ q fun z=>z)];exact q,fun b ps q=>⟨#[],by rw[upd_ne (hm b _ q fun z=>z),q];simp⟩⟩
 by_cases hbe:b=e
 ·subst hbe;exact heo
 ·exact⟨u,k b u hbe q⟩
end
noncomputable def trk (h:Heap)(H:Hp):List Addr:=(List.range h.objs.size).filter fun a=>(H a).isSome
noncomputable def hidT (h:Heap)(H:Hp):Heap:=PySem.W.hideAll h (trk h H)
theorem hidT_size (h:Heap)(H:Hp):(hidT h H).objs.size=h.objs.size:=PySem.W.hideAll_size _ _
theorem hidT_get {h:Heap}{H:Hp}{b:Addr}{o:Obj}(e:h.get? b=some o)(n:H b=none):(hidT h H).get? b=some o :=
 PySem.W.hideAll_get _ e fun hm=>by
  have q:(H b).isSome=true:=(List.mem_filter.mp hm).2
  rw[n]at q;simp at q
theorem of_hidT {h:Heap}{H:Hp}{b:Addr}{o:Obj}(e:(hidT h H).get? b=some o):h.get? b=some o∧H b=none:=by
 have e':h.get? b=some o:=PySem.W.of_hideAll (trk h H) e
 refine⟨e',?_⟩
 cases q:H b with
 | none=>rfl
 | some x =>
  have hm:b∈trk h H:=List.mem_filter.mpr ⟨List.mem_range.mpr (Heap.lt_size e'),by simp[q]⟩
  have z:(hidT h H).get? b=none:=PySem.W.hideAll_none (trk h H) hm
  rw[z]at e;cases e
end L2
namespace L2
open PySem PySem.Spec PyProof.Rows
structure Mod (K:PySem.W.Frag)(mg:Str→Option Value)(base:Heap):Prop where
 kin:K.In base
 glob:base.Ns mainGlobals mg
 blt:∃mb,base.Ns builtinsNs mb∧∀x:Str,x≠"__name__"→mb x=bootBuiltins x
 nolimit:base.NoLimit
structure Cx where
 prog:Program
 w:World
 K:PySem.W.Frag
 mg:Str→Option Value
 base:Heap
 A:Around
 N:List Str
 s₀:Shared
 H₀:Hp
 env:Env
 outer:List Env
 stack:List Env
 ex:List Addr
 fn:Str→Bool
 calm:Bool
 pn:List (Addr×Obj)
 xe:Value→Shared→Prop
noncomputable def frs (l:List Env):List Addr:=l.filterMap (·.frame)
noncomputable abbrev Cx.fs (X:Cx):List Addr:=frs X.outer
def Vis (sc:Scope)(x:Str):Prop:=sc.names.lookup x=some .local∨sc.names.lookup x=some .cell∨sc.names.lookup x=some .free
def Loc (sc:Scope)(x:Str):Prop:=sc.names.lookup x=some .local∨sc.names.lookup x=some .cell
def Look (env:Env)(h:Heap)(m:Str→Option Value)(x:Str)(u:Value):Prop :=
 (env.kindOf x=some .local∧m x=some u)∨((env.kindOf x=some .cell∨env.kindOf x=some .free)∧∃c,env.cells.lookup x=some c∧h.IsCell c (some u))
structure Cx.Ok (X:Cx):Prop where
 mod:Mod X.K X.mg X.base
 kind:X.env.scope.kind=.function
 glob:X.env.globals=mainGlobals
 blt:X.env.builtins=builtinsNs
 above:X.s₀.heap.objs.size≤X.env.locals
 inj:∀x y c,X.env.cells.lookup x=some c→X.env.cells.lookup y=some c→x=y
 has:∀x,(X.env.kindOf x=some .cell∨X.env.kindOf x=some .free)→∃c,X.env.cells.lookup x=some c
 cab:∀x c,X.fn x=true→X.env.cells.lookup x=some c→X.s₀.heap.objs.size≤c
 hd:X.calm=true→X.A.handled=none
 frames:X.A.frames=some X.stack
 stk:X.stack=X.outer∨(X.stack=X.env::X.outer∧X.env.frame=some X.env.locals)
 exf:∀b∈X.ex,b≠X.env.locals∧∀x c,X.env.cells.lookup x=some c→c≠b
 bs:∀b o,X.base.get? b=some o→X.s₀.heap.get? b=some o∧X.H₀ b=none
 bsz:X.base.objs.size≤X.s₀.heap.objs.size
 noex:∀b o,X.base.get? b=some o→b∉X.ex
 exfs:∀b∈X.ex,b∉X.fs
 funs:X.s₀.heap.FunFrames X.base X.outer
 frf:∀b∈X.fs,X.H₀ b=none
structure Inv (X:Cx)(pins:List (Addr×Obj))(σ:List (Option V))(H:Hp)(s:Shared):Prop where
 ok:X.Ok
 os:s.os=X.s₀.os
 bare:AllBare s.gens
 base:Un X.fs X.ex X.H₀ H X.s₀.heap s.heap
 loc:∃m,s.heap.Ns X.env.locals m∧∀(i:Nat)(x:Str)(v:V),X.N[i]?=some x→σ[i]?=some (some v)→Vis X.env.scope x→∃u,RelV v u∧Look X.env s.heap m x u
 cell:∀x c,X.env.cells.lookup x=some c→∃v,s.heap.IsCell c v
 free:H X.env.locals=none
 freeC:∀x c,X.env.cells.lookup x=some c→H c=none
 pin:∀p∈X.pn++pins,s.heap.get? p.1=some p.2∧H p.1=none∧p.1≠X.env.locals∧p.1∉X.fs∧∀v,p.2.data≠.cell v
 hok:HOk X.prog X.w H s.heap
 len:σ.length=X.N.length
section
variable {X:Cx}{pins:List (Addr×Obj)}{σ:List (Option V)}{H H':Hp}{s:Shared}{h':Heap}
theorem Cx.Ok.nofr (ok:X.Ok){b:Addr}{o:Obj}(e:X.base.get? b=some o):b∉X.fs:=fun hb=>by
 have:=(ok.funs.mem hb).1
 rw[e]at this;cases this
theorem Inv.bs (I:Inv X pins σ H s):∀b o,X.base.get? b=some o→s.heap.get? b=some o∧H b=none:=fun b o e =>
 ⟨I.base.keep b o (I.ok.bs b o e).1 (I.ok.bs b o e).2 (I.ok.nofr e) (I.ok.noex b o e),I.base.free b o (I.ok.bs b o e).1 (I.ok.bs b o e).2 (I.ok.noex b o e)⟩
theorem Inv.bk (I:Inv X pins σ H s):∀b o,X.base.get? b=some o→s.heap.get? b=some o:=fun b o e=>(I.bs b o e).1
theorem Inv.mod (I:Inv X pins σ H s):Mod X.K X.mg X.base:=I.ok.mod
theorem Inv.kIn (I:Inv X pins σ H s):X.K.In s.heap:=I.ok.mod.kin.keeps I.bk
theorem Inv.lt (I:Inv X pins σ H s):X.env.locals<s.heap.objs.size:=let ⟨_,hn,_⟩:=I.loc;hn.lt
theorem Inv.sz (I:Inv X pins σ H s):X.s₀.heap.objs.size≤s.heap.objs.size:=Nat.le_trans I.ok.above (Nat.le_of_lt I.lt)
theorem Inv.nofs (I:Inv X pins σ H s){a:Addr}(h:s.heap.objs.size≤a):a∉X.fs:=fun hb=>by
 obtain⟨_,o,ho,_⟩:=I.ok.funs.mem hb
 exact absurd (Nat.lt_of_lt_of_le (Heap.lt_size ho) (Nat.le_trans I.sz h)) (Nat.lt_irrefl _)
theorem Inv.cne (I:Inv X pins σ H s):∀x c,X.env.cells.lookup x=some c→c≠X.env.locals:=fun x c e z=>by
 obtain⟨v,o,ho,hd⟩:=I.cell x c e
 obtain⟨m,⟨o',es,ep,ho',hd',_⟩,_⟩:=I.loc
 rw[z,ho']at ho;cases ho;rw[hd']at hd;cases hd
theorem Inv.funs (I:Inv X pins σ H s):s.heap.FunFrames X.base X.outer:=by
 have all:∀(l:List Env),(∀b∈frs l,b∈X.fs)→X.s₀.heap.FunFrames X.base l→s.heap.FunFrames X.base l:=by
  intro l
  induction l with
  | nil=>intro _ _;trivial
  | cons env r ih =>
   intro hs hl
   obtain⟨hk,⟨L,o,hf,hn,ho,hd⟩,hr⟩:=hl
   have hL:L∈X.fs:=hs L (by unfold frs;rw[List.filterMap_cons,hf];exact List.mem_cons_self)
   obtain⟨sl,e⟩:=I.base.slot L o ho (I.ok.frf L hL) hL fun z=>I.ok.exfs L z hL
   exact⟨hk,⟨L,_,hf,hn,e,hd⟩,ih (fun b hb=>hs b (by unfold frs;rw[List.filterMap_cons,hf];exact List.mem_cons_of_mem _ hb)) hr⟩
 exact all X.outer (fun _ hb=>hb) I.ok.funs
theorem Inv.stack (I:Inv X pins σ H s):s.heap.FunFrames X.base X.stack:=by
 rcases I.ok.stk with e|⟨e,hf⟩
 ·rw[e];exact I.funs
 ·rw[e]
  obtain⟨m,hn,_⟩:=I.loc
  refine .cons (by rw[I.ok.kind];decide) hf hn ?_ I.funs
  exact Heap.get?_none_of_le (Nat.le_trans I.ok.bsz I.ok.above)
theorem Inv.stkSub (I:Inv X pins σ H s):∀b∈frs X.stack,b∈X.env.locals::X.fs:=fun b hb=>by
 rcases I.ok.stk with e|⟨e,hf⟩
 ·rw[e]at hb;exact List.mem_cons_of_mem _ hb
 ·rw[e]at hb
  unfold frs at hb
  rw[List.filterMap_cons,hf]at hb
  exact hb
theorem Inv.stkFree (I:Inv X pins σ H s):∀b∈frs X.stack,H b=none:=fun b hb=>by
 rcases List.mem_cons.mp (I.stkSub b hb)with e|hb
 ·rw[e];exact I.free
 ·obtain⟨_,o,ho,_⟩:=I.ok.funs.mem hb
  exact I.base.free b o ho (I.ok.frf b hb) fun z=>I.ok.exfs b z hb
theorem Inv.step {g':Array GenState}{t':Nat}{d':Drawn}{ch:List Addr}(I:Inv X pins σ H s)
  (hch:∀b∈ch,(b∈X.ex∨X.s₀.heap.objs.size≤b)∧b≠X.env.locals∧(∀x c,X.env.cells.lookup x=some c→c≠b)∧∀p∈X.pn++pins,p.1≠b)
  (keep:∀b o,b≠X.env.locals→b∉X.fs→b∉ch→s.heap.get? b=some o→H b=none→h'.get? b=some o)
  (slot:∀b o,b≠X.env.locals→b∈X.fs→b∉ch→s.heap.get? b=some o→H b=none→∃sl,h'.get? b=some { o with slots:=sl })(free:∀b o,b∉ch→s.heap.get? b=some o→H b=none→H' b=none)
  (there:∀b o,b∉ch→s.heap.get? b=some o→∃o',h'.get? b=some o')
  (tups:∀b xs,H b=some (.tup xs)→H' b=some (.tup xs))(frzs:∀b o u,H b=some (.frz o u)→H' b=some (.frz o u))(tbls:∀b ps,H b=some (.tbl ps)→∃more,H' b=some (.tbl (ps++more)))
  (ns:∀m,s.heap.Ns X.env.locals m→h'.Ns X.env.locals m)(hok:HOk X.prog X.w H' h')(hg:AllBare g') :
  Inv X pins σ H' { s with heap:=h',gens:=g',drawn:=d',toks:=t' }:=by
 have neL:∀b o,X.s₀.heap.get? b=some o→b≠X.env.locals:=fun b o e=>Nat.ne_of_lt (Nat.lt_of_lt_of_le (Heap.lt_size e) I.ok.above)
 have neC:∀b o,X.s₀.heap.get? b=some o→b∉X.ex→b∉ch:=fun b o e hx hb=>by
  rcases(hch b hb).1 with z|z
  ·exact hx z
  ·exact absurd (Nat.lt_of_lt_of_le (Heap.lt_size e) z) (Nat.lt_irrefl _)
 have cellK:∀x c,X.env.cells.lookup x=some c→∀v,s.heap.IsCell c v→h'.IsCell c v:=fun x c e v ⟨o,ho,hd⟩=>by
  have nch:c∉ch:=fun z=>(hch c z).2.2.1 x c e rfl
  by_cases hc:c∈X.fs
  ·obtain⟨sl,q⟩:=slot c o (I.cne x c e) hc nch ho (I.freeC x c e)
   exact⟨_,q,hd⟩
  ·exact⟨o,keep c o (I.cne x c e) hc nch ho (I.freeC x c e),hd⟩
 refine⟨I.ok,I.os,hg,⟨fun b o e n hb hx=>?_,fun b o e n hb hx=>?_,fun b o e n hx=>?_,fun b o e hx=>?_,fun b xs e=>tups b xs (I.base.tups b xs e),fun b o xs e=>frzs b o xs (I.base.frzs b o xs e),fun b ps e=>?_⟩,?_,fun x c e=>?_,?_,fun x c e=>?_,fun p hp=>?_,hok,I.len⟩
 ·exact keep b o (neL b o e) hb (neC b o e hx) (I.base.keep b o e n hb hx) (I.base.free b o e n hx)
 ·obtain⟨sl,e1⟩:=I.base.slot b o e n hb hx
  obtain⟨sl',e2⟩:=slot b _ (neL b o e) hb (neC b o e hx) e1 (I.base.free b o e n hx)
  exact⟨sl',e2⟩
 ·obtain⟨o',e1⟩:=I.base.there b o e hx
  exact free b o' (neC b o e hx) e1 (I.base.free b o e n hx)
 ·obtain⟨o',e1⟩:=I.base.there b o e hx
  exact there b o' (neC b o e hx) e1
 ·obtain⟨m1,e1⟩:=I.base.tbls b ps e
  obtain⟨m2,e2⟩:=tbls b _ e1
  exact⟨m1++m2,by rw[e2,Array.append_assoc]⟩
 ·obtain⟨m,hn,hl⟩:=I.loc
  refine⟨m,ns m hn,fun i x v e1 e2 e3=>?_⟩
  obtain⟨u,r,l⟩:=hl i x v e1 e2 e3
  refine⟨u,r,?_⟩
  rcases l with l|⟨k,c,e,z⟩
  ·exact .inl l
  ·exact .inr ⟨k,c,e,cellK x c e _ z⟩
 ·obtain⟨v,z⟩:=I.cell x c e
  exact⟨v,cellK x c e v z⟩
 ·obtain⟨m,⟨o,_,_,ho,_⟩,_⟩:=I.loc
  exact free _ o (fun z=>(hch _ z).2.1 rfl) ho I.free
 ·obtain⟨v,o,ho,hd⟩:=I.cell x c e
  exact free c o (fun z=>(hch c z).2.2.1 x c e rfl) ho (I.freeC x c e)
 ·obtain⟨e,n,ne,nf,d⟩:=I.pin p hp
  have nch:p.1∉ch:=fun z=>(hch p.1 z).2.2.2 p hp rfl
  exact⟨keep p.1 p.2 ne nf nch e n,free p.1 p.2 nch e n,ne,nf,d⟩
theorem Inv.un {t':Nat}(I:Inv X pins σ H s)(u:Un X.fs [] H H' s.heap h')(hok:HOk X.prog X.w H' h'):Inv X pins σ H' { s with heap:=h',toks:=t' }:=by
 obtain⟨m,⟨o,es,ep,ho,r⟩,_⟩:=id I.loc
 obtain⟨sl,hL⟩:=u.any ho I.free (by simp)
 exact I.step (g':=s.gens) (d':=s.drawn) (ch:=[]) (fun _ z=>nomatch z) (fun b o _ hb _ e n=>u.keep b o e n hb (by simp)) (fun b o _ hb _ e n=>u.slot b o e n hb (by simp)) (fun b o _ e n=>u.free b o e n (by simp)) (fun b o _ e=>u.there b o e (by simp)) u.tups u.frzs u.tbls (fun m' hm=>by
  obtain⟨o',es',ep',ho',r'⟩:=hm
  rw[ho]at ho';cases ho'
  exact⟨_,es',ep',hL,r'⟩) hok I.bare
theorem Inv.call {g':Array GenState}{t':Nat}{d':Drawn}{ch:List Addr}(I:Inv X pins σ H s)(u:Un (frs X.stack) ch H H' s.heap h')(hok:HOk X.prog X.w H' h')(hg:AllBare g')
  (hch:∀b∈ch,(b∈X.ex∨X.s₀.heap.objs.size≤b)∧b≠X.env.locals∧(∀x c,X.env.cells.lookup x=some c→c≠b)∧∀p∈X.pn++pins,p.1≠b) :
  Inv X pins σ H' { s with heap:=h',gens:=g',drawn:=d',toks:=t' }:=by
 obtain⟨m,⟨o,es,ep,ho,r⟩,_⟩:=id I.loc
 obtain⟨sl,hL⟩:=u.any ho I.free fun z=>(hch _ z).2.1 rfl
 exact I.step (ch:=ch) hch (fun b o hL hb hc e n=>u.keep b o e n (fun z=>(List.mem_cons.mp (I.stkSub b z)).elim hL hb) hc) (fun b o _ _ hc e n=>u.any e n hc) (fun b o hc e n=>u.free b o e n hc) (fun b o hc e=>u.there b o e hc) u.tups u.frzs u.tbls (fun m' hm=>by
  obtain⟨o',es',ep',ho',r'⟩:=hm
  rw[ho]at ho';cases ho'
  exact⟨_,es',ep',hL,r'⟩) hok hg
theorem Inv.turned {t':Nat}{it:Addr}(I:Inv X pins σ H s)(k:∀b o,b≠it→s.heap.get? b=some o→h'.get? b=some o)(hn:H it=none)(hL:it≠X.env.locals)
  (h1:it∈X.ex∨X.s₀.heap.objs.size≤it)(h2:∀x c,X.env.cells.lookup x=some c→c≠it)(h3:∀p∈X.pn++pins,p.1≠it):Inv X pins σ H { s with heap:=h',toks:=t' }:=by
 have nit:∀b u,H b=some u→b≠it:=fun b u e z=>by rw[z,hn]at e;cases e
 refine I.step (g':=s.gens) (d':=s.drawn) (ch:=[it]) (fun b hb=>?_) (fun b o _ _ hc e _=>k b o (fun z=>hc (by simp[z])) e) (fun b o _ _ hc e _=>⟨o.slots,k b o (fun z=>hc (by simp[z])) e⟩) (fun _ _ _ _ n=>n)
  (fun b o hc e=>⟨o,k b o (fun z=>hc (by simp[z])) e⟩) (fun _ _ e=>e) (fun _ _ _ e=>e) (fun b ps e=>⟨#[],by rw[e];simp⟩) (fun m hm=>?_) (fun b u e=>?_) I.bare
 ·have e:b=it:=by simpa using hb
  subst e
  exact⟨h1,hL,h2,h3⟩
 ·obtain⟨o,es,ep,ho,r⟩:=hm
  exact⟨o,es,ep,k _ o (Ne.symm hL) ho,r⟩
 ·refine(I.hok b u e).stay (fun c v hc q=>k c v ?_ q) (fun _ q=>q) fun _ _ q=>q
  rcases hc with z|z
  ·rw[z];exact nit b u e
  ·exact nit c _ z
theorem Inv.tok (I:Inv X pins σ H s)(t:Nat):Inv X pins σ H { s with toks:=t }:=I.un (h':=s.heap) (t':=t) Un.refl I.hok
theorem Inv.kept {t':Nat}(I:Inv X pins σ H s)(k:∀b u,s.heap.get? b=some u→h'.get? b=some u):Inv X pins σ H { s with heap:=h',toks:=t' }:=I.un (Un.kept k) (I.hok.kept k)
theorem Inv.laid {a:Addr}{o:HO}{t':Nat}(I:Inv X pins σ H s)(k:∀b u,s.heap.get? b=some u→h'.get? b=some u)(hp:s.heap.objs.size≤a)(new:ObjOk X.prog X.w (upd H a o) h' a o) :
  Inv X pins σ (upd H a o) { s with heap:=h',toks:=t' }:=I.un (Un.laid k hp (I.hok.fresh hp)) (I.hok.laid k hp new)
theorem Inv.write {x e:Addr}{o:HO}{t':Nat}(I:Inv X pins σ H s)(mu:Mut (H x))(he:e=x∨H e=some (.own x))(k:∀b u,b≠e→s.heap.get? b=some u→h'.get? b=some u)(heo:∃u,h'.get? e=some u)
  (new:ObjOk X.prog X.w (upd H x o) h' x o):Inv X pins σ (upd H x o) { s with heap:=h',toks:=t' }:=I.un (Un.write mu he k heo) (I.hok.write mu he k heo new)
theorem Inv.pins_of {pins':List (Addr×Obj)}(I:Inv X pins σ H s)(h:∀p∈pins',s.heap.get? p.1=some p.2∧H p.1=none∧p.1≠X.env.locals∧p.1∉X.fs∧∀v,p.2.data≠.cell v):Inv X pins' σ H s :=
 ⟨I.ok,I.os,I.bare,I.base,I.loc,I.cell,I.free,I.freeC,fun p hp=>(List.mem_append.mp hp).elim (fun z=>I.pin p (List.mem_append_left _ z)) (h p),I.hok,I.len⟩
theorem nodup_ix {N:List Str}(hN:N.Nodup){i j:Nat}{x:Str}(a:N[i]?=some x)(b:N[j]?=some x):i=j:=by
 obtain⟨h1,e1⟩:=List.getElem?_eq_some_iff.mp a
 obtain⟨h2,e2⟩:=List.getElem?_eq_some_iff.mp b
 exact(List.getElem_inj hN).mp (e1.trans e2.symm)
theorem store_ok2 {M : Model} {A : Around} {E : Value→Shared→Prop} {i : Nat} {x : Str} {v : V} {u : Value} {Q : Unit→Shared→Prop} (I : Inv X pins σ H s) (hN : X.N.Nodup) (hi : X.N[i]? = some x) (hx : Loc X.env.scope x) (r : RelV v u)
    (h : ∀ s',Inv X pins (σ.set i (some v)) H s'→(∃ a,Heap.SameBut a s.heap s'.heap∧(a = X.env.locals ∨ X.env.cells.lookup x = some a))→Q () s') (hf : X.fn x = true ∨ X.env.scope.names.lookup x = some .local:=by first | exact .inl rfl | exact .inr rfl | assumption) : wpAny M A (storeName X.env x u) Q E s:=by
  obtain ⟨m,hn,hl⟩:=id I.loc
  have hcls : (X.env.scope.kind == .class || (X.env.scope.kind == .module && X.env.locals != X.env.globals)) = false:=by rw [I.ok.kind]; rfl
  have hiσ : i < σ.length:=by rw [I.len]; exact (List.getElem?_eq_some_iff.mp hi).1
  have cne:=I.cne
  have tracked : ∀ {a : Addr} {h' : Heap},(∃ o,s.heap.get? a = some o∧H a = none)→Heap.SameBut a s.heap h'→HOk X.prog X.w H h':=fun {a h'} ha hs b ob e=>by
    obtain ⟨_,_,hfree⟩:=ha
    refine (I.hok b ob e).stay (fun c w' hc q=>(hs.2 c ?_).trans q) (fun _ q=>q) fun _ _ q=>q
    rintro rfl
    rcases hc with rfl | hc
    · rw [hfree] at e; cases e
    · rw [hfree] at hc; cases hc
  rcases hx with hk | hk
  · refine wpAny_storeName_local hk hn (fun h' hn' hs => ?_) hcls
    obtain ⟨oL,_,_,hoL,_⟩:=id hn
    refine h _ ⟨I.ok,I.os,I.bare,⟨fun b o e n hb hx => ?_,fun b o e n hb hx => ?_,I.base.free,fun b o e hx => ?_,I.base.tups,I.base.frzs,I.base.tbls⟩,⟨_,hn',fun j y v' e1 e2 e3 => ?_⟩,fun y c e => ?_,I.free,I.freeC,fun p hp => ?_,tracked ⟨oL,hoL,I.free⟩ hs,by simpa using I.len⟩ ⟨_,hs, .inl rfl⟩
    · exact (hs.2 b (Nat.ne_of_lt (Nat.lt_of_lt_of_le (Heap.lt_size e) I.ok.above))).trans (I.base.keep b o e n hb hx)
    · obtain ⟨sl,e1⟩:=I.base.slot b o e n hb hx
      exact ⟨sl,(hs.2 b (Nat.ne_of_lt (Nat.lt_of_lt_of_le (Heap.lt_size e) I.ok.above))).trans e1⟩
    · obtain ⟨o',e1⟩:=I.base.there b o e hx
      exact ⟨o',(hs.2 b (Nat.ne_of_lt (Nat.lt_of_lt_of_le (Heap.lt_size e) I.ok.above))).trans e1⟩
    · by_cases hj : j = i
      · subst hj
        rw [hi] at e1; cases e1
        rw [List.getElem?_set_self hiσ] at e2
        cases e2
        exact ⟨u,r, .inl ⟨hk,by simp⟩⟩
      · rw [List.getElem?_set_ne (Ne.symm hj)] at e2
        obtain ⟨u',r',q⟩:=hl j y v' e1 e2 e3
        refine ⟨u',r', ?_⟩
        rcases q with ⟨k,e⟩ | ⟨k,c,e,z⟩
        · refine .inl ⟨k, ?_⟩
          have : y≠x:=fun e=>hj (nodup_ix hN e1 (e ▸ hi))
          simp [this,e]
        · exact .inr ⟨k,c,e,z.sameBut hs (cne y c e)⟩
    · obtain ⟨w',z⟩:=I.cell y c e
      exact ⟨w',z.sameBut hs (cne y c e)⟩
    · obtain ⟨e,n,ne,nf,d⟩:=I.pin p hp
      exact ⟨(hs.2 p.1 ne).trans e,n,ne,nf,d⟩
  · have hfn : X.fn x = true:=by
      rcases hf with z | z
      · exact z
      · rw [z] at hk; cases hk
    obtain ⟨c,hc⟩:=I.ok.has x (.inl hk)
    obtain ⟨w',z⟩:=I.cell x c hc
    refine wpAny_storeName_cell I.ok.kind hk hc z (fun h' hc' hs => ?_)
    obtain ⟨oc,hoc,hocd⟩:=id z
    refine h { s with heap:=h' } ⟨I.ok,I.os,I.bare,⟨fun b o e n hb hx => ?_,fun b o e n hb hx => ?_,I.base.free,fun b o e hx => ?_,I.base.tups,I.base.frzs,I.base.tbls⟩,⟨m,hn.sameBut hs (Ne.symm (cne x c hc)),fun j y v' e1 e2 e3 => ?_⟩,fun y c' e => ?_,I.free,I.freeC,fun p hp => ?_,tracked ⟨oc,hoc,I.freeC x c hc⟩ hs,by simpa using I.len⟩ ⟨c,hs, .inr hc⟩
    · exact (hs.2 b (Nat.ne_of_lt (Nat.lt_of_lt_of_le (Heap.lt_size e) (I.ok.cab x c hfn hc)))).trans (I.base.keep b o e n hb hx)
    · obtain ⟨sl,e1⟩:=I.base.slot b o e n hb hx
      exact ⟨sl,(hs.2 b (Nat.ne_of_lt (Nat.lt_of_lt_of_le (Heap.lt_size e) (I.ok.cab x c hfn hc)))).trans e1⟩
    · obtain ⟨o',e1⟩:=I.base.there b o e hx
      exact ⟨o',(hs.2 b (Nat.ne_of_lt (Nat.lt_of_lt_of_le (Heap.lt_size e) (I.ok.cab x c hfn hc)))).trans e1⟩
    · by_cases hj : j = i
      · subst hj
        rw [hi] at e1; cases e1
        rw [List.getElem?_set_self hiσ] at e2
        cases e2
        exact ⟨u,r, .inr ⟨.inl hk,c,hc,hc'⟩⟩
      · rw [List.getElem?_set_ne (Ne.symm hj)] at e2
        obtain ⟨u',r',q⟩:=hl j y v' e1 e2 e3
        refine ⟨u',r', ?_⟩
        rcases q with q | ⟨k,c',e,z'⟩
        · exact .inl q
        · refine .inr ⟨k,c',e,z'.sameBut hs ?_⟩
          rintro rfl
          exact hj (nodup_ix hN e1 (I.ok.inj _ _ _ e hc ▸ hi))
    · by_cases hcc : c' = c
      · subst hcc; exact ⟨_,hc'⟩
      · obtain ⟨w2,z2⟩:=I.cell y c' e
        exact ⟨w2,z2.sameBut hs hcc⟩
    · obtain ⟨e,n,ne,nf,d⟩:=I.pin p hp
      refine ⟨(hs.2 p.1 ?_).trans e,n,ne,nf,d⟩
      intro q
      rw [q,hoc] at e
      have q' : oc = p.2:=Option.some.inj e
      exact d w' (by rw [← q']; exact hocd)
theorem store_ok {M:Model}{A:Around}{E:Value→Shared→Prop}{i:Nat}{x:Str}{v:V}{u:Value}{Q:Unit→Shared→Prop}(I:Inv X pins σ H s)(hN:X.N.Nodup)(hi:X.N[i]?=some x)(hx:Loc X.env.scope x)(r:RelV v u)
  (h:∀s',Inv X pins (σ.set i (some v)) H s'→Q () s')(hf:X.fn x=true∨X.env.scope.names.lookup x=some .local:=by first|exact .inl rfl|exact .inr rfl|assumption):wpAny M A (storeName X.env x u) Q E s :=
 store_ok2 I hN hi hx r (fun s' I' _=>h s' I') hf
theorem Inv.call' {s':Shared}{ch:List Addr}(I:Inv X pins σ H s)(ho:s'.os=s.os)(u:Un (frs X.stack) ch H H' s.heap s'.heap)(hok:HOk X.prog X.w H' s'.heap)(hg:AllBare s'.gens)
  (hch:∀b∈ch,(b∈X.ex∨X.s₀.heap.objs.size≤b)∧b≠X.env.locals∧(∀x c,X.env.cells.lookup x=some c→c≠b)∧∀p∈X.pn++pins,p.1≠b):Inv X pins σ H' s':=by
 obtain⟨h',g',d',t',o'⟩:=s'
 have e:o'=s.os:=ho
 subst e
 exact I.call (g':=g') (t':=t') (d':=d') u hok hg hch
end
noncomputable abbrev XK:=Value→Option Addr→Hp→Prop
noncomputable abbrev St:=List (Option V)
noncomputable abbrev VK:=V→Hp→Prop
noncomputable abbrev TE:=St→Hp→VK→Prop
noncomputable abbrev TT:=St→Hp→(Bool→Hp→Prop)→Prop
noncomputable abbrev TA:=St→Hp→(List V→Hp→Prop)→Prop
structure Ends where
 nx:St→Hp→Prop
 rt:VK
 bk:St→Hp→Prop:=fun _ _=>False
 ct:St→Hp→Prop:=fun _ _=>False
noncomputable abbrev TS:=Ends→St→Hp→Prop
def EP (X:Cx)(pins:List (Addr×Obj))(σ:St)(Q:VK)(u:Value)(s':Shared):Prop:=∃v H',Inv X pins σ H' s'∧RelV v u∧Q v H'
def TP (X:Cx)(pins:List (Addr×Obj))(σ:St)(Q:Bool→Hp→Prop)(b:Bool)(s':Shared):Prop:=∃H',Inv X pins σ H' s'∧Q b H'
def AP (X:Cx)(pins:List (Addr×Obj))(σ:St)(Q:List V→Hp→Prop)(us:List Value)(s':Shared):Prop:=∃vs H',Inv X pins σ H' s'∧Vals vs us∧Q vs H'
def SP (X:Cx)(pins:List (Addr×Obj))(D:Ends)(f:Flow)(s':Shared):Prop :=
 match f with
 |.next=>∃σ' H',Inv X pins σ' H' s'∧D.nx σ' H'
 |.brk=>∃σ' H',Inv X pins σ' H' s'∧D.bk σ' H'
 |.cont=>∃σ' H',Inv X pins σ' H' s'∧D.ct σ' H'
 |.ret u=>∃v σ' H',Inv X pins σ' H' s'∧RelV v u∧D.rt v H'
def PE (X:Cx)(e:Expr)(t:TE):Prop :=
 ∀(pins:List (Addr×Obj))(s:Shared)(σ:St)(H:Hp)(Q:VK),Inv X pins σ H s→t σ H Q→wpAny (model X.prog X.w) X.A (eval e X.env) (EP X pins σ Q) X.xe s
def PT (X:Cx)(e:Expr)(t:TT):Prop :=
 ∀(pins:List (Addr×Obj))(s:Shared)(σ:St)(H:Hp)(Q:Bool→Hp→Prop),Inv X pins σ H s→t σ H Q→wpAny (model X.prog X.w) X.A (isTrue e X.env (eval e X.env)) (TP X pins σ Q) X.xe s
def PW (X:Cx)(e:Expr)(t:TT):Prop :=
 ∀(whole:Sem Value)(pins:List (Addr×Obj))(s:Shared)(σ:St)(H:Hp)(Q:Bool→Hp→Prop),Inv X pins σ H s→t σ H Q→wpAny (model X.prog X.w) X.A (isTrue e X.env whole) (TP X pins σ Q) X.xe s
theorem PW.pt {X:Cx}{e:Expr}{t:TT}(h:PW X e t):PT X e t:=h _
def PA (X:Cx)(es:List Expr)(t:TA):Prop :=
 ∀(pos:Pos)(pins:List (Addr×Obj))(s:Shared)(σ:St)(H:Hp)(Q:List V→Hp→Prop),Inv X pins σ H s→t σ H Q→wpAny (model X.prog X.w) X.A (spliced (backTo pos (starEach es X.env))) (AP X pins σ Q) X.xe s
def PS (X:Cx)(st:Stmt)(t:TS):Prop :=
 ∀(pins:List (Addr×Obj))(s:Shared)(σ:St)(H:Hp)(D:Ends),Inv X pins σ H s→t D σ H→wpAny (model X.prog X.w) X.A (exec st X.env) (SP X pins D) X.xe s
def PSs (X:Cx)(st:List Stmt)(t:TS):Prop :=
 ∀(pins:List (Addr×Obj))(s:Shared)(σ:St)(H:Hp)(D:Ends),Inv X pins σ H s→t D σ H→wpAny (model X.prog X.w) X.A (execs st X.env) (SP X pins D) X.xe s
theorem thn {α:Type}{t:Sem α}{Q Q':α→Shared→Prop}{M:Model}{A:Around}{E:Value→Shared→Prop}{s:Shared}(h:wpAny M A t Q E s)(hQ:∀a s,Q a s→Q' a s):wpAny M A t Q' E s:=wpAny_mono h hQ fun _ _ x=>x
end L2
namespace L2
open PySem PySem.Spec PyProof.Rows
section
variable {X:Cx}
def tVar (i:Nat):TE:=fun σ H Q=>∃v,σ[i]?=some (some v)∧Q v H
def tC (v:V):TE:=fun _ H Q=>Q v H
theorem pe_var {i:Nat}{x:Str}{pos:Pos}(hN:X.N[i]?=some x)(hv:Vis X.env.scope x)(hd:(x==("__debug__" : Str))=false:=by decide)(hcd:(x==("__classdict__" : Str))=false:=by decide):PE X (.Name x pos) (tVar i):=by
 intro pins s σ H Q I h
 obtain⟨v,e,h⟩:=h
 obtain⟨m,hn,hl⟩:=I.loc
 obtain⟨u,r,l⟩:=hl i x v hN e hv
 have fin:EP X pins σ Q u s:=⟨v,H,I,r,h⟩
 rcases l with ⟨hk,hm⟩|⟨hk,c,hc,hcell⟩
 ·exact wpAny_Name (wpAny_loadName_local I.ok.kind hk hn hm fin) hd
 ·rcases hk with hk|hk
  ·exact wpAny_Name (wpAny_loadName_cell I.ok.kind hk hc hcell fin) hd
  ·exact wpAny_Name (wpAny_loadName_free I.ok.kind hk hc hcell fin hcd) hd
theorem pe_int {i j pos}:PE X (.Constant (.int i) j pos) (tC (.int i)):=fun _ _ _ H _ I h=>wpAny_Constant_int ⟨.int i,H,I.tok _,⟨_,rfl⟩,h⟩
theorem pe_bl {b j pos}:PE X (.Constant (.bool b) j pos) (tC (.bl b)):=fun _ _ _ H _ I h=>Constant_bool ⟨.bl b,H,I,rfl,h⟩
theorem pe_non {j pos}:PE X (.Constant .none j pos) (tC .non):=fun _ _ _ H _ I h=>Constant_none ⟨.non,H,I,rfl,h⟩
theorem pe_str {x j pos}:PE X (.Constant (.str x) j pos) (tC (.str x)):=fun _ _ _ H _ I h=>Calls.Constant_str ⟨.str x,H,I.tok _,⟨_,rfl⟩,h⟩
def Gl (X:Cx)(x:Str):Prop:=X.env.kindOf x=some .globalImplicit
theorem ld_glob {E:Value→Shared→Prop}{pins:List (Addr×Obj)}{s:Shared}{σ:St}{H:Hp}{x:Str}{u:Value}{pos:Pos}{Q:Value→Shared→Prop}(I:Inv X pins σ H s)(hg:Gl X x)(hm:X.mg x=some u)(h:Q u s)
  (hd:(x==("__debug__" : Str))=false:=by decide):wpAny (model X.prog X.w) X.A (eval (.Name x pos) X.env) Q E s :=
 Calls.Name_function_global I.ok.kind hg (Calls.loadGlobal_global (by rw[I.ok.glob];exact I.mod.glob.keeps I.bk) hm h) hd
theorem ld_blt {E:Value→Shared→Prop}{pins:List (Addr×Obj)}{s:Shared}{σ:St}{H:Hp}{x:Str}{u:Value}{pos:Pos}{Q:Value→Shared→Prop}(I:Inv X pins σ H s)(hg:Gl X x)(hm:X.mg x=none)(hv:bootBuiltins x=some u)(h:Q u s)
  (hn:x≠"__name__":=by decide)(hd:(x==("__debug__" : Str))=false:=by decide):wpAny (model X.prog X.w) X.A (eval (.Name x pos) X.env) Q E s:=by
 obtain⟨mb,h1,h2⟩:=I.mod.blt
 exact Calls.Name_function_global I.ok.kind hg (Calls.loadGlobal_builtin (by rw[I.ok.glob];exact I.mod.glob.keeps I.bk) hm (by rw[I.ok.blt];exact h1.keeps I.bk) ((h2 x hn).trans hv) h) hd
theorem pe_glob {x:Str}{v:V}{u:Value}{pos:Pos}(hg:Gl X x)(hm:X.mg x=some u)(r:RelV v u)(hd:(x==("__debug__" : Str))=false:=by decide):PE X (.Name x pos) (tC v) :=
 fun _ _ _ H _ I h=>ld_glob I hg hm ⟨v,H,I,r,h⟩ hd
theorem pe_bltn {x:Str}{v:V}{u:Value}{pos:Pos}(hg:Gl X x)(hm:X.mg x=none)(hv:bootBuiltins x=some u)(r:RelV v u)(hn:x≠"__name__":=by decide)(hd:(x==("__debug__" : Str))=false:=by decide):PE X (.Name x pos) (tC v) :=
 fun _ _ _ H _ I h=>ld_blt I hg hm hv ⟨v,H,I,r,h⟩ hn hd
variable {a b:Expr}{ta tb:TE}{pos:Pos}
variable {tA tB':TT}{rest:List Expr}
def tOr (t u:TT):TT:=fun σ H Q=>t σ H fun c H1=>if c=true then Q true H1 else u σ H1 Q
def tNot (t:TT):TT:=fun σ H Q=>t σ H fun c H1=>Q (!c) H1
theorem pw_or1 (ha:PT X a tA):PW X (.BoolOp .Or [a] pos) tA:=by
 intro wh pins s σ H Q I h
 refine isTrue_or (thn (ha pins s σ H Q I h) fun c s1 e=>?_)
 cases c with
 | false=>exact isTrue_or_nil e
 | true=>exact e
theorem pw_or (ha:PT X a tA)(hb:PW X (.BoolOp .Or (b::rest) pos) tB'):PW X (.BoolOp .Or (a::b::rest) pos) (tOr tA tB'):=by
 intro wh pins s σ H Q I h
 refine isTrue_or (thn (ha pins s σ H _ I h) fun c s1 ⟨H1,I1,q1⟩=>?_)
 cases c with
 | true=>exact⟨H1,I1,q1⟩
 | false=>exact hb wh pins s1 σ H1 Q I1 q1
theorem pt_not (ha:PT X a tA):PT X (.UnaryOp .Not a pos) (tNot tA):=by
 intro pins s σ H Q I h
 exact isTrue_not (ha pins s σ H (fun c H1=>Q (!c) H1) I h)
def tIf (t:TT)(ta tb:TE):TE:=fun σ H Q=>t σ H fun c H1=>if c=true then ta σ H1 Q else tb σ H1 Q
theorem pe_ifExp {c:Expr}(hc:PT X c tA)(ha:PE X a ta)(hb:PE X b tb):PE X (.IfExp c a b pos) (tIf tA ta tb):=by
 intro pins s σ H Q I h
 refine wpAny_IfExp (thn (hc pins s σ H _ I h) fun d s1 ⟨H1,I1,q1⟩=>?_)
 cases d with
 | true=>exact ha pins s1 σ H1 Q I1 q1
 | false=>exact hb pins s1 σ H1 Q I1 q1
end
end L2
namespace L2
open PySem PySem.Spec PyProof.Rows
def SqL (K:PySem.W.Frag)(H:Hp)(a:Addr)(xs:List V):Prop :=
 Rd H a (.lst xs) ∨
  ∃(o:Obj)(its:Array Value)(n:Nat),K.lookup a=some o∧o.cls=.type "list"∧o.dict=none∧o.data=.seq its n∧its.size≤sizeLine∧Vals xs its.toList
def SqT (K:PySem.W.Frag)(H:Hp)(a:Addr)(xs:List V):Prop :=
 Rd H a (.tup xs) ∨
  ∃(o:Obj)(its:Array Value)(n:Nat),K.lookup a=some o∧o.cls=.type "tuple"∧o.data=.seq its n∧its.size≤sizeLine∧Vals xs its.toList
noncomputable def absV:Value→Option V
 |.none=>some .non
 |.bool b=>some (.bl b)
 |.int i _=>some (.int i)
 |.str x _=>some (.str x)
 |.bytes b _=>some (.byt b)
 |.float b _=>some (.flt b)
 |.ref a=>some (.ref a)
 |.type n=>some (.ty n)
 | _=>none
theorem RelV.abs {x:V}{u:Value}(r:RelV x u):absV u=some x:=by
 cases x with
 | non=>cases r;rfl
 | bl _=>cases r;rfl
 | int _=>obtain⟨t,rfl⟩:=r;rfl
 | str _=>obtain⟨t,rfl⟩:=r;rfl
 | byt _=>obtain⟨t,rfl⟩:=r;rfl
 | flt _=>obtain⟨t,rfl⟩:=r;rfl
 | ref _=>cases r;rfl
 | ty _=>cases r;rfl
theorem RelV.inj {x y:V}{u:Value}(r:RelV x u)(q:RelV y u):x=y:=Option.some.inj (r.abs.symm.trans q.abs)
theorem Vals.inj:∀{xs ys:List V}{us:List Value},Vals xs us→Vals ys us→xs=ys
 | _,_,_,.nil,.nil=>rfl
 | _,_,_,.cons r t,.cons r' t'=>by rw[r.inj r',Vals.inj t t']
section
variable {X:Cx}{pins:List (Addr×Obj)}{σ:St}{H:Hp}{s:Shared}{a:Addr}{xs ys:List V}
theorem SqL.of {K:PySem.W.Frag}(h:H a=some (.lst xs)):SqL K H a xs:=.inl (.inl h)
theorem SqT.of {K:PySem.W.Frag}(h:H a=some (.tup xs)):SqT K H a xs:=.inl (.inl h)
theorem Inv.list (I:Inv X pins σ H s)(h:SqL X.K H a xs):∃its:List Value,Vals xs its∧PlainL s.heap a its.toArray∧xs.length≤sizeLine:=by
 rcases h with h|⟨o,its,n,hk,hc,hd,hs,hz,r⟩
 ·obtain⟨z,its,n,r,e⟩:=h.ok I.hok
  exact⟨its,r,⟨_,n,e,rfl,rfl,rfl⟩,z⟩
 ·refine⟨its.toList,r,⟨o,n,I.kIn a o hk,hc,hd,by simpa using hs⟩,?_⟩
  have e:=r.length
  simp only[Array.length_toList]at e
  omega
theorem Inv.tuple (I:Inv X pins σ H s)(h:SqT X.K H a xs):∃its:List Value,Vals xs its∧IsTup s.heap a its.toArray∧xs.length≤sizeLine:=by
 rcases h with h|⟨o,its,n,hk,hc,hs,hz,r⟩
 ·obtain⟨z,its,r,p,_⟩:=h.ok I.hok
  exact⟨its,r,p,z⟩
 ·refine⟨its.toList,r,⟨o,I.kIn a o hk,hc,n,by simpa using hs⟩,?_⟩
  have e:=r.length
  simp only[Array.length_toList]at e
  omega
theorem Inv.list_inj (I:Inv X pins σ H s)(h:SqL X.K H a xs)(h':SqL X.K H a ys):xs=ys:=by
 obtain⟨its,r,⟨o,n,e,_,_,d⟩,_⟩:=I.list h
 obtain⟨its',r',⟨o',n',e',_,_,d'⟩,_⟩:=I.list h'
 rw[e]at e';cases e'
 rw[d]at d'
 injection d' with d1 _
 have:its=its':=by simpa using congrArg Array.toList d1
 subst this
 exact r.inj r'
theorem Inv.tuple_inj (I:Inv X pins σ H s)(h:SqT X.K H a xs)(h':SqT X.K H a ys):xs=ys:=by
 obtain⟨its,r,⟨o,e,_,n,d⟩,_⟩:=I.tuple h
 obtain⟨its',r',⟨o',e',_,n',d'⟩,_⟩:=I.tuple h'
 rw[e]at e';cases e'
 rw[d]at d'
 injection d' with d1 _
 have:its=its':=by simpa using congrArg Array.toList d1
 subst this
 exact r.inj r'
end
noncomputable abbrev Cx.wish (X:Cx)(E:Value→Shared→Prop):Cx:={ X with xe:=E }
noncomputable abbrev Cx.nox (X:Cx):Cx:=X.wish fun _ _=>False
theorem Cx.Ok.wish {X:Cx}(ok:X.Ok)(E:Value→Shared→Prop):(X.wish E).Ok :=
 ⟨ok.mod,ok.kind,ok.glob,ok.blt,ok.above,ok.inj,ok.has,ok.cab,ok.hd,ok.frames,ok.stk,ok.exf,ok.bs,ok.bsz,ok.noex,ok.exfs,ok.funs,ok.frf⟩
theorem Cx.Ok.unwish {X:Cx}{E:Value→Shared→Prop}(ok:(X.wish E).Ok):X.Ok :=
 ⟨ok.mod,ok.kind,ok.glob,ok.blt,ok.above,ok.inj,ok.has,ok.cab,ok.hd,ok.frames,ok.stk,ok.exf,ok.bs,ok.bsz,ok.noex,ok.exfs,ok.funs,ok.frf⟩
section
variable {X:Cx}{pins:List (Addr×Obj)}{σ:St}{H:Hp}{s:Shared}{E:Value→Shared→Prop}
theorem Inv.wish (I:Inv X pins σ H s)(E:Value→Shared→Prop):Inv (X.wish E) pins σ H s:=⟨I.ok.wish E,I.os,I.bare,I.base,I.loc,I.cell,I.free,I.freeC,I.pin,I.hok,I.len⟩
theorem Inv.unwish (I:Inv (X.wish E) pins σ H s):Inv X pins σ H s:=⟨I.ok.unwish,I.os,I.bare,I.base,I.loc,I.cell,I.free,I.freeC,I.pin,I.hok,I.len⟩
theorem SP.unwish {D:Ends}{f:Flow}{s':Shared}(h:SP (X.wish E) pins D f s'):SP X pins D f s':=by
 cases f with
 | next=>obtain⟨σ',H',I,q⟩:=h;exact⟨σ',H',I.unwish,q⟩
 | brk=>obtain⟨σ',H',I,q⟩:=h;exact⟨σ',H',I.unwish,q⟩
 | cont=>obtain⟨σ',H',I,q⟩:=h;exact⟨σ',H',I.unwish,q⟩
 | ret u=>obtain⟨v,σ',H',I,r,q⟩:=h;exact⟨v,σ',H',I.unwish,r,q⟩
theorem PSs.nox {st:List Stmt}{t:TS}(h:PSs X.nox st t):PSs X st t:=fun pins s σ H D I hw =>
 wpAny_mono (h pins s σ H D (I.wish _) hw) (fun _ _ q=>q.unwish) fun _ _ z=>False.elim z
end
section
variable {X:Cx}{st:Stmt}{rest:List Stmt}{t u:TS}{e:Expr}{te:TE}{pos:Pos}
def tNext:TS:=fun D σ H=>D.nx σ H
def tSeq (t u:TS):TS:=fun D σ H=>t { D with nx:=u D } σ H
theorem pss_nil:PSs X [] tNext:=fun _ _ σ H _ I h=>wpAny_execs_nil ⟨σ,H,I,h⟩
theorem pss_cons (h1:PS X st t)(h2:PSs X rest u):PSs X (st::rest) (tSeq t u):=by
 intro pins s σ H D I h
 refine wpAny_execs_cons (thn (h1 pins s σ H { D with nx:=u D } I h) fun f s1 q=>?_)
 cases f with
 | next =>
  obtain⟨σ',H',I',q⟩:=q
  exact h2 pins s1 σ' H' D I' q
 | ret v=>exact q
 | brk=>exact q
 | cont=>exact q
theorem pss_one (h1:PS X st t):PSs X [st] t:=by
 intro pins s σ H D I h
 refine wpAny_execs_cons (thn (h1 pins s σ H D I h) fun f s1 q=>?_)
 cases f with
 | next=>exact wpAny_execs_nil q
 | ret v=>exact q
 | brk=>exact q
 | cont=>exact q
theorem Inv.quiet {pins:List (Addr×Obj)}{σ:St}{H:Hp}{s:Shared}(I:Inv X pins σ H s):interactive X.env=false:=by simp[interactive,I.ok.kind]
def tDrop (te:TE):TS:=fun D σ H=>te σ H fun _ H1=>D.nx σ H1
theorem ps_expr (he:PE X e te)(hs:swapsWith e none pos.line X.env=pure false:=by rfl):PS X (.Expr e pos) (tDrop te):=by
 intro pins s σ H D I h
 exact wpAny_Expr_any (thn (he pins s σ H _ I h) fun v s1 ⟨x,H1,I1,r1,q1⟩=>⟨σ,H1,I1,q1⟩) I.quiet hs
def tRet (te:TE):TS:=fun D σ H=>te σ H D.rt
theorem ps_ret (he:PE X e te):PS X (.Return (some e) pos) (tRet te):=by
 intro pins s σ H D I h
 exact wpAny_Return_some (thn (he pins s σ H _ I h) fun v s1 ⟨x,H1,I1,r1,q1⟩=>⟨x,σ,H1,I1,r1,q1⟩)
def tIfS (c:TT)(t u:TS):TS:=fun D σ H=>c σ H fun b H1=>if b=true then t D σ H1 else u D σ H1
theorem ps_if {c:Expr}{a b:List Stmt}{tc:TT}(hc:PT X c tc)(ha:PSs X a t)(hb:PSs X b u):PS X (.If c a b pos) (tIfS tc t u):=by
 intro pins s σ H D I h
 refine wpAny_If (thn (hc pins s σ H _ I h) fun d s1 ⟨H1,I1,q1⟩=>?_)
 cases d with
 | true=>exact ha pins s1 σ H1 D I1 q1
 | false=>exact hb pins s1 σ H1 D I1 q1
def tNever:TS:=fun _ _ _=>False
theorem ps_never:PS X st tNever:=fun _ _ _ _ _ _ h=>h.elim
end
noncomputable abbrev TG:=V→St→Hp→(St→Hp→Prop)→Prop
noncomputable abbrev TGs:=List V→St→Hp→(St→Hp→Prop)→Prop
def PG (X:Cx)(target:Expr)(t:TG):Prop :=
 ∀(pins:List (Addr×Obj))(s:Shared)(σ:St)(H:Hp)(v:V)(u:Value)(Q:St→Hp→Prop),Inv X pins σ H s→RelV v u→t v σ H Q →
  wpAny (model X.prog X.w) X.A (assign target X.env u) (fun _ s'=>∃σ' H',Inv X pins σ' H' s'∧Q σ' H') X.xe s
def PGs (X:Cx)(ts:List Expr)(t:TGs):Prop :=
 ∀(pins:List (Addr×Obj))(s:Shared)(σ:St)(H:Hp)(vs:List V)(us:List Value)(Q:St→Hp→Prop),Inv X pins σ H s→Vals vs us→t vs σ H Q →
  wpAny (model X.prog X.w) X.A (assignInOrder ((assignEach ts X.env).map (·.2)) us) (fun _ s'=>∃σ' H',Inv X pins σ' H' s'∧Q σ' H') X.xe s
noncomputable abbrev TSet:=V→V→V→Hp→(Hp→Prop)→Prop
def PSet (X:Cx)(t:TSet):Prop :=
 ∀(pins:List (Addr×Obj))(s:Shared)(σ:St)(H:Hp)(o i v:V)(ov iv u:Value)(Q:Hp→Prop),Inv X pins σ H s→RelV o ov→RelV i iv→RelV v u→t o i v H Q →
  wpAny (model X.prog X.w) X.A (setItem ov iv u) (fun _ s'=>∃H',Inv X pins σ H' s'∧Q H') X.xe s
section
variable {X:Cx}{pos:Pos}
def gName (i:Nat):TG:=fun v σ H Q=>Q (σ.set i (some v)) H
theorem pg_name {i:Nat}{x:Str}(hN:X.N.Nodup)(hi:X.N[i]?=some x)(hx:Loc X.env.scope x)(hf:X.fn x=true∨X.env.scope.names.lookup x=some .local:=by first|exact .inl rfl|exact .inr rfl|assumption):PG X (.Name x pos) (gName i):=by
 intro pins s σ H v u Q I r h
 exact wpAny_assign_Name (store_ok I hN hi hx r (fun s' I'=>⟨_,H,I',h⟩) hf)
noncomputable def gNil:TGs:=fun vs σ H Q=>vs=[]∧Q σ H
noncomputable def gCons (t:TG)(u:TGs):TGs:=fun vs σ H Q=>∃v r,vs=v::r∧t v σ H fun σ' H'=>u r σ' H' Q
theorem pgs_nil:PGs X [] gNil:=by
 intro pins s σ H vs us Q I r h
 obtain⟨e,h⟩:=h
 subst e
 cases r
 exact assignInOrder_nil ⟨σ,H,I,h⟩
theorem pgs_cons {e:Expr}{es:List Expr}{t:TG}{u:TGs}(h1:PG X e t)(h2:PGs X es u)
  (hs:(assignEach (e::es) X.env).map (·.2)=assign e X.env::(assignEach es X.env).map (·.2):=by rfl):PGs X (e::es) (gCons t u):=by
 intro pins s σ H vs us Q I r h
 obtain⟨v,vr,e1,h⟩:=h
 subst e1
 cases r with
 | cons r rr =>
  rw[hs]
  refine assignInOrder_cons (thn (h1 pins s σ H _ _ _ I r h) fun _ s1 ⟨σ1,H1,I1,q1⟩=>?_)
  exact h2 pins s1 σ1 H1 _ _ Q I1 rr q1
def gTup (K:PySem.W.Frag)(n:Nat)(t:TGs):TG:=fun v σ H Q=>∃a xs,v=.ref a∧SqT K H a xs∧xs.length=n∧t xs σ H Q
theorem pg_tup {es:List Expr}{k:Nat}{t:TGs}{n:Nat}(hc:X.calm=true)(h:PGs X es t)
  (hn:(assignEach es X.env).length=n:=by rfl)(hst:(assignEach es X.env).findIdx? (·.1)=none:=by rfl):PG X (.Tuple es k pos) (gTup X.K n t):=by
 intro pins s σ H v u Q I r hw
 obtain⟨a,xs,e1,hq,hl,hw⟩:=hw
 subst e1
 cases r
 obtain⟨its,rv,ht,hz⟩:=I.tuple hq
 refine assign_Tuple_tuple (I.ok.hd hc) ht (by simp[hn,←hl,rv.length]) hst fun h' hx=>?_
 have I1:Inv X pins σ H { s with heap:=h' }:=I.kept (t':=s.toks) fun b o e=>hx b o (Nat.ne_of_lt (Heap.lt_size e)) e
 exact h pins _ σ H xs _ Q I1 (by simpa using rv) hw
def gSub (to ti:TE)(t:TSet):TG:=fun v σ H Q=>to σ H fun o H1=>ti σ H1 fun i H2=>t o i v H2 fun H3=>Q σ H3
theorem pg_sub {o i:Expr}{to ti:TE}{t:TSet}(ho:PE X o to)(hi:PE X i ti)(hs:PSet X t)
  (ha:∀v,assign (.Subscript o i pos) X.env v=(do
   let ov ←holding [v] (eval o X.env)
   let iv ←holding [v,ov] (eval i X.env)
   standAt pos
   holding [v,ov,iv] (setItem ov iv v)
   release [v,ov,iv] []):=by intro _;rfl):PG X (.Subscript o i pos) (gSub to ti t):=by
 intro pins s σ H v u Q I r h
 rw[ha]
 refine wpAny_bind (wpAny_holding (thn (ho pins s σ H _ I h) fun ov s1 ⟨x,H1,I1,r1,q1⟩=>?_))
 refine wpAny_bind (wpAny_holding (thn (hi pins s1 σ H1 _ I1 q1) fun iv s2 ⟨y,H2,I2,r2,q2⟩=>?_))
 refine wpAny_bind (wpAny_standAt (wpAny_bind (wpAny_holding (thn (hs pins s2 σ H2 x y v ov iv u _ I2 r1 r2 r q2) fun _ s3 ⟨H3,I3,q3⟩=>?_))))
 exact wpAny_release ⟨σ,H3,I3,q3⟩
def tAsg (te:TE)(g:TG):TS:=fun D σ H=>te σ H fun x H1=>g x σ H1 D.nx
theorem ps_asg {tg e:Expr}{te:TE}{g:TG}(he:PE X e te)(hg:PG X tg g)(hs:swapsWithSole [tg] e pos.line X.env=pure false:=by rfl)(hw:swappedStores [tg] e X.env=pure none:=by rfl)
  (h1:(assignEach [tg] X.env).map (·.2)=[assign tg X.env]:=by rfl):PS X (.Assign [tg] e pos) (tAsg te g):=by
 intro pins s σ H D I h
 refine wpAny_Assign_stores (thn (he pins s σ H _ I h) fun v s1 ⟨x,H1,I1,r1,q1⟩=>?_) hs hw
 rw[h1]
 exact thn (hg pins s1 σ H1 x v _ I1 r1 q1) fun _ s2 q=>q
theorem ps_set {i:Nat}{x:Str}{e:Expr}{te:TE}{pos':Pos}(hN:X.N.Nodup)(hi:X.N[i]?=some x)(hx:Loc X.env.scope x)(he:PE X e te)(hs:swapsWith e (some (.Name x pos')) pos.line X.env=pure false:=by rfl)(hf:X.fn x=true∨X.env.scope.names.lookup x=some .local:=by first|exact .inl rfl|exact .inr rfl|assumption) :
  PS X (.Assign [.Name x pos'] e pos) (tAsg te (gName i)):=by
 intro pins s σ H D I h
 refine wpAny_Assign_Name (thn (he pins s σ H _ I h) fun v s1 ⟨y,H1,I1,r1,q1⟩=>?_) hs
 exact store_ok I1 hN hi hx r1 (fun s2 I2=>⟨_,H1,I2,q1⟩) hf
end
section
variable {X:Cx}{pos:Pos}
def tWhile (c:TT)(tb:TS):TS:=fun D σ H=>∃W:Nat→St→Hp→Prop,(∃m,W m σ H)∧∀m σ H,W m σ H →
 c σ H fun b H1=>if b=true then ∃N:St→Hp→Prop,(∀σ' H',N σ' H'→∃m',m'<m∧W m' σ' H')∧tb { D with nx:=N,ct:=N,bk:=D.nx } σ H1 else D.nx σ H1
theorem ps_while {c:Expr}{body:List Stmt}{tc:TT}{tb:TS}(hp:PassesOwn (model X.prog X.w) X.A X.env X.xe)(hc:PT X c tc)(hb:PSs X body tb):PS X (.While c body [] pos) (tWhile tc tb):=by
 intro pins s σ H D I h
 obtain⟨W,⟨m0,w0⟩,turn⟩:=h
 refine wpAny_While (codeAny_whileLoop (fun n s'=>∃σ' H',Inv X pins σ' H' s'∧W n σ' H') ?_ m0 ⟨σ,H,I,w0⟩)
 rintro n s1 ⟨σ1,H1,I1,w1⟩
 refine wpAny_passesOwn hp (thn (hc pins s1 σ1 H1 _ I1 (turn n σ1 H1 w1)) fun b s2 ⟨H2,I2,q2⟩=>?_)
 cases b with
 | true =>
  obtain⟨N,hN,q2⟩:=q2
  rw[if_pos rfl]
  refine wpAny_passesOwn hp (thn (hb pins s2 σ1 H2 _ I2 q2) fun f s3 q3=>?_)
  cases f with
  | next =>
   obtain⟨σ3,H3,I3,n3⟩:=q3
   obtain⟨m',hm,w3⟩:=hN σ3 H3 n3
   exact⟨m',hm,σ3,H3,I3,w3⟩
  | cont =>
   obtain⟨σ3,H3,I3,n3⟩:=q3
   obtain⟨m',hm,w3⟩:=hN σ3 H3 n3
   exact⟨m',hm,σ3,H3,I3,w3⟩
  | brk=>exact q3
  | ret v=>exact q3
 | false =>
  rw[if_neg Bool.false_ne_true]
  exact wpAny_execs_nil ⟨σ1,H2,I2,q2⟩
end
structure It where
 go:Nat→Hp→Prop
 yld:Nat→Hp→V→Hp→Prop
 stop:Nat→Hp→Prop
def FpOk (X:Cx)(pins:List (Addr×Obj))(H:Hp)(b:Addr):Prop :=
 H b=none∧b≠X.env.locals∧b∉X.fs∧(b∈X.ex∨X.s₀.heap.objs.size≤b)∧(∀x c,X.env.cells.lookup x=some c→c≠b)∧∀p∈X.pn++pins,p.1≠b
theorem Inv.fpOk {X:Cx}{pins:List (Addr×Obj)}{σ:St}{H H':Hp}{s:Shared}{b:Addr}(I:Inv X pins σ H s)(hb:s.heap.objs.size≤b)(hn:H' b=none):FpOk X pins H' b:=by
 refine⟨hn,Nat.ne_of_gt (Nat.lt_of_lt_of_le I.lt hb),I.nofs hb,.inr (Nat.le_trans I.sz hb),fun x c e z=>?_,fun p hp z=>?_⟩
 ·obtain⟨v,q⟩:=I.cell x c e
  exact absurd (Nat.lt_of_lt_of_le q.lt (by rw[z];exact hb)) (Nat.lt_irrefl _)
 ·exact absurd (Nat.lt_of_lt_of_le (Heap.lt_size (I.pin p hp).1) (by rw[z];exact hb)) (Nat.lt_irrefl _)
structure Turn (P:Program)(w:World)(K:PySem.W.Frag)(tg:Expr)(J:It)(fp:List Addr)(it:Addr)(tn:Nat→Heap→Prop):Prop where
 mem:it∈fp
 obj:∀i h,tn i h→∀b∈fp,∃o,h.get? b=some o∧∀v,o.data≠.cell v
 keep:∀i h h',tn i h→(∀b∈fp,∀o,h.get? b=some o→h'.get? b=some o)→tn i h'
 item:∀(X:Cx),X.prog=P→X.w=w→X.K=K→X.calm=true→∀(i:Nat)(pins:List (Addr×Obj))(s:Shared)(σ:St)(H:Hp)(E:Value→Shared→Prop),Inv X pins σ H s→(∀b∈fp,FpOk X pins H b)→tn i s.heap→J.go i H →
  wpAny (model P w) X.A (pyNext (.ref it)) (fun r s1=>∃u,r=some u ∧
   wpAny (model P w) X.A (letOwnedTupleGo tg (.ref it) u) (fun _ s2=>∃x H',Inv X pins σ H' s2∧RelV x u∧J.yld i H x H'∧tn (i+1) s2.heap∧∀b∈fp,H' b=none) E s1) E s
 done:∀(X:Cx),X.prog=P→X.w=w→X.K=K→X.calm=true→∀(i:Nat)(pins:List (Addr×Obj))(s:Shared)(σ:St)(H:Hp)(E:Value→Shared→Prop),Inv X pins σ H s→(∀b∈fp,FpOk X pins H b)→tn i s.heap→J.stop i H →
  wpAny (model P w) X.A (pyNext (.ref it)) (fun r s1=>r=none∧Inv X pins σ H s1) E s
 self:∀(A:Around)(i:Nat)(s:Shared)(Q:Value→Shared→Prop)(E:Value→Shared→Prop),tn i s.heap→Q (.ref it) s→wpAny (model P w) A (pyIter (.ref it)) Q E s
noncomputable abbrev TI:=St→Hp→(It→Hp→Prop)→Prop
def PIE (X:Cx)(pins:List (Addr×Obj))(σ:St)(tg:Expr)(R:It→Hp→Prop)(itv:Value)(s2:Shared):Prop :=
 ∃(it:Addr)(fp:List Addr)(tn:Nat→Heap→Prop)(J:It)(H':Hp),itv=.ref it∧Inv X pins σ H' s2∧Turn X.prog X.w X.K tg J fp it tn∧tn 0 s2.heap∧(∀b∈fp,FpOk X pins H' b)∧R J H'
def PI (X:Cx)(tg iter:Expr)(wi:TI):Prop :=
 ∀(pins:List (Addr×Obj))(s:Shared)(σ:St)(H:Hp)(R:It→Hp→Prop),Inv X pins σ H s→wi σ H R →
  wpAny (model X.prog X.w) X.A (eval iter X.env) (fun v s1=>wpAny (model X.prog X.w) X.A (pyIter v) (PIE X pins σ tg R) X.xe s1) X.xe s
theorem go_of {M:Model}{A:Around}{E:Value→Shared→Prop}{s:Shared}{tg:Expr}{it:Addr}{u:Value}{o:Obj}{n:String}{vs:Array Value}{Q:Unit→Shared→Prop}(ho:s.heap.get? it=some o)(hc:o.cls=.type n)(hd:o.data=.fields vs)
  (hn:["enumerate","zip","dict_itemiterator","dict_reverseitemiterator","odict_iterator","itertools.zip_longest","itertools.pairwise"].contains n=false)(hQ:Q () s):wpAny M A (letOwnedTupleGo tg (.ref it) u) Q E s:=by
 unfold letOwnedTupleGo
 cases tg<;>first
  | exact wpAny_pure hQ
  |(cases u<;>first
    | exact wpAny_pure hQ
    |(refine wpAny_bind (wpAny_load ho ?_)
      rw[hc,hd]
      show wpAny M A (if (["enumerate","zip","dict_itemiterator","dict_reverseitemiterator","odict_iterator","itertools.zip_longest","itertools.pairwise"].contains n&&vs[0]?==some (rawInt _))=true then _ else _) Q E s
      rw[if_neg (by intro h;rw[hn,Bool.false_and]at h;cases h)]
      exact wpAny_pure hQ))
noncomputable def Itl (K:PySem.W.Frag)(a:Addr):It :=
 ⟨fun i H=>∃xs x,SqL K H a xs∧xs[i]?=some x,fun i H x H'=>H'=H∧∀xs,SqL K H a xs→xs[i]?=some x,fun i H=>∃xs,SqL K H a xs∧xs.length≤i⟩
noncomputable def Itt (K:PySem.W.Frag)(a:Addr):It :=
 ⟨fun i H=>∃xs x,SqT K H a xs∧xs[i]?=some x,fun i H x H'=>H'=H∧∀xs,SqT K H a xs→xs[i]?=some x,fun i H=>∃xs,SqT K H a xs∧xs.length≤i⟩
noncomputable def Itr (lo:Int)(n:Nat):It:=⟨fun i _=>i<n,fun i H x H'=>H'=H∧x=.int (lo+i),fun i _=>n≤i⟩
theorem turn_list {P:Program}{w:World}{K:PySem.W.Frag}{tg:Expr}(a it:Addr):Turn P w K tg (Itl K a) [it] it (fun i h=>h.IsListIter it a i) where
 mem:=by simp
 obj:=fun i h st b hb=>by
  have e:b=it:=by simpa using hb
  subst e
  obtain⟨o,e,c,d⟩:=st
  exact⟨o,e,fun v z=>by rw[d]at z;cases z⟩
 keep:=fun i h h' st k=>st.at fun o e=>k it (by simp) o e
 item:=by
  intro X hP hw hK hc i pins s σ H E I hf st hg
  subst hP hw hK
  obtain⟨xs,x,hq,hx⟩:=hg
  obtain⟨its,rv,p,hz⟩:=I.list hq
  obtain⟨u,hu,ru⟩:=rv.get hx
  obtain⟨f0,f1,f2,f3,f4,f5⟩:=hf it (by simp)
  refine wpAny_pyNext_list_item st p.isList (x:=u) (by simpa using hu) fun h' st' sb=>?_
  have I1:Inv X pins σ H { s with heap:=h' }:=I.turned (t':=s.toks) (fun b o hb e=>(sb.2 b hb).trans e) f0 f1 f3 f4 f5
  obtain⟨o,e,c,d⟩:=id st'
  exact⟨u,rfl,go_of (s:={ s with heap:=h' }) e c d (by decide) ⟨x,H,I1,ru,⟨rfl,fun ys hy=>by rw[I.list_inj hy hq];exact hx⟩,st',fun b hb=>(hf b hb).1⟩⟩
 done:=by
  intro X hP hw hK hc i pins s σ H E I hf st hg
  subst hP hw hK
  obtain⟨xs,hq,hx⟩:=hg
  obtain⟨its,rv,p,hz⟩:=I.list hq
  obtain⟨f0,f1,f2,f3,f4,f5⟩:=hf it (by simp)
  have hl:=rv.length
  exact wpAny_pyNext_list_end (I.ok.hd hc) st p.isList (by simp;omega) fun h' eb=>⟨rfl,I.turned (t':=s.toks) (fun b o hb e=>eb b o hb e) f0 f1 f3 f4 f5⟩
 self:=fun _ _ _ _ _ st h=>wpAny_pyIter_listiter st h
theorem turn_tuple {P:Program}{w:World}{K:PySem.W.Frag}{tg:Expr}(a it:Addr):Turn P w K tg (Itt K a) [it] it (fun i h=>h.IsTupleIter it a i) where
 mem:=by simp
 obj:=fun i h st b hb=>by
  have e:b=it:=by simpa using hb
  subst e
  obtain⟨o,e,c,d⟩:=st
  exact⟨o,e,fun v z=>by rw[d]at z;cases z⟩
 keep:=fun i h h' st k=>st.at fun o e=>k it (by simp) o e
 item:=by
  intro X hP hw hK hc i pins s σ H E I hf st hg
  subst hP hw hK
  obtain⟨xs,x,hq,hx⟩:=hg
  obtain⟨its,rv,p,hz⟩:=I.tuple hq
  obtain⟨u,hu,ru⟩:=rv.get hx
  obtain⟨f0,f1,f2,f3,f4,f5⟩:=hf it (by simp)
  refine wpAny_pyNext_tuple_item st (show s.heap.IsTuple a its.toArray from p) (x:=u) (by simpa using hu) fun h' st' sb=>?_
  have I1:Inv X pins σ H { s with heap:=h' }:=I.turned (t':=s.toks) (fun b o hb e=>(sb.2 b hb).trans e) f0 f1 f3 f4 f5
  obtain⟨o,e,c,d⟩:=id st'
  exact⟨u,rfl,go_of (s:={ s with heap:=h' }) e c d (by decide) ⟨x,H,I1,ru,⟨rfl,fun ys hy=>by rw[I.tuple_inj hy hq];exact hx⟩,st',fun b hb=>(hf b hb).1⟩⟩
 done:=by
  intro X hP hw hK hc i pins s σ H E I hf st hg
  subst hP hw hK
  obtain⟨xs,hq,hx⟩:=hg
  obtain⟨its,rv,p,hz⟩:=I.tuple hq
  obtain⟨f0,f1,f2,f3,f4,f5⟩:=hf it (by simp)
  have hl:=rv.length
  exact wpAny_pyNext_tuple_end (I.ok.hd hc) st (show s.heap.IsTuple a its.toArray from p) (by simp;omega) fun h' eb=>⟨rfl,I.turned (t':=s.toks) (fun b o hb e=>eb b o hb e) f0 f1 f3 f4 f5⟩
 self:=fun _ _ _ _ _ st h=>wpAny_pyIter_tupleiter st h
theorem turn_range {P:Program}{w:World}{K:PySem.W.Frag}{tg:Expr}(it:Addr)(lo:Int)(n:Nat):Turn P w K tg (Itr lo n) [it] it (fun i h=>IsRangeIter h it (lo+(i:Nat)*1) ((n:Int)-(i:Nat)) 1) where
 mem:=by simp
 obj:=fun i h st b hb=>by
  have e:b=it:=by simpa using hb
  subst e
  exact⟨_,st,fun v z=>by
   have z':Data.fields _=Data.cell v:=z
   cases z'⟩
 keep:=fun i h h' st k=>k it (by simp) _ st
 item:=by
  intro X hP hw hK hc i pins s σ H E I hf st hg
  subst hP hw hK
  obtain⟨f0,f1,f2,f3,f4,f5⟩:=hf it (by simp)
  have W:=Walks.range (prog:=X.prog) (w:=X.w) (I.ok.hd hc) it lo 1 n
  refine W.item i s _ _ hg st fun v h' tk hv st' kk=>?_
  obtain⟨t,rfl⟩:=hv
  have I1:Inv X pins σ H { s with heap:=h',toks:=tk }:=I.turned (fun b o hb e=>kk b o (by simpa using hb) e) f0 f1 f3 f4 f5
  refine⟨_,rfl,go_of (s:={ s with heap:=h',toks:=tk }) (n:="range_iterator") st' rfl rfl (by decide) ⟨.int (lo+i),H,I1,⟨t,?_⟩,⟨rfl,rfl⟩,st',fun b hb=>(hf b hb).1⟩⟩
  rw[Int.mul_one]
 done:=by
  intro X hP hw hK hc i pins s σ H E I hf st hg
  subst hP hw hK
  obtain⟨f0,f1,f2,f3,f4,f5⟩:=hf it (by simp)
  exact wpAny_pyNext_range_end (I.ok.hd hc) st (by have:n≤i:=hg;omega) fun h' eb=>⟨rfl,I.turned (t':=s.toks) (fun b o hb e=>eb b o hb e) f0 f1 f3 f4 f5⟩
 self:=fun _ _ _ _ _ st h=>wpAny_pyIter_rangeiter st h
end L2
namespace L2
open PySem PySem.Spec PyProof.Rows
section
variable {X:Cx}{tg:Expr}
def iList (K:PySem.W.Frag)(tl:TE):TI:=fun σ H R=>tl σ H fun x H1=>∃a,x=.ref a∧(∃xs,SqL K H1 a xs)∧R (Itl K a) H1
def iTup (K:PySem.W.Frag)(tl:TE):TI:=fun σ H R=>tl σ H fun x H1=>∃a,x=.ref a∧(∃xs,SqT K H1 a xs)∧R (Itt K a) H1
theorem pi_list {l:Expr}{tl:TE}(hl:PE X l tl):PI X tg l (iList X.K tl):=by
 intro pins s σ H R I h
 refine thn (hl pins s σ H _ I h) fun v s1 ⟨x,H1,I1,r1,q1⟩=>?_
 obtain⟨a,e,⟨xs,hq⟩,q⟩:=q1
 subst e
 cases r1
 obtain⟨its,rv,p,hz⟩:=I1.list hq
 refine wpAny_pyIter_list p.isList ?_
 refine⟨s1.heap.objs.size,[s1.heap.objs.size],_,_,H1,rfl,I1.kept (t':=s1.toks) fun b o e=>Heap.get?_push_of_some _ e,turn_list a _,⟨_,Heap.get?_push_size _ rfl,rfl,rfl⟩,fun b hb=>?_,q⟩
 have e:b=s1.heap.objs.size:=by simpa using hb
 subst e
 exact I1.fpOk (Nat.le_refl _) (I1.hok.fresh (Nat.le_refl _))
theorem pi_tup {l:Expr}{tl:TE}(hl:PE X l tl):PI X tg l (iTup X.K tl):=by
 intro pins s σ H R I h
 refine thn (hl pins s σ H _ I h) fun v s1 ⟨x,H1,I1,r1,q1⟩=>?_
 obtain⟨a,e,⟨xs,hq⟩,q⟩:=q1
 subst e
 cases r1
 obtain⟨its,rv,p,hz⟩:=I1.tuple hq
 refine wpAny_pyIter_tuple (show s1.heap.IsTuple a its.toArray from p) ?_
 refine⟨s1.heap.objs.size,[s1.heap.objs.size],_,_,H1,rfl,I1.kept (t':=s1.toks) fun b o e=>Heap.get?_push_of_some _ e,turn_tuple a _,⟨_,Heap.get?_push_size _ rfl,rfl,rfl⟩,fun b hb=>?_,q⟩
 have e:b=s1.heap.objs.size:=by simpa using hb
 subst e
 exact I1.fpOk (Nat.le_refl _) (I1.hok.fresh (Nat.le_refl _))
theorem range_it {pins:List (Addr×Obj)}{σ:St}{H:Hp}{s:Shared}{R:It→Hp→Prop}{E:Value→Shared→Prop}{lo hi:Int}{t u v:Tok}{tk:Nat}(I:Inv X pins σ H s)(h1 : -(2 ^ 62)≤lo)(h2:lo<2 ^ 62)(h3 : -(2 ^ 62)≤hi)(h4:hi<2 ^ 62)
  (q:R (Itr lo (hi-lo).toNat) H):wpAny (model X.prog X.w) X.A (pyIter (.ref s.heap.objs.size)) (PIE X pins σ tg R) E { s with heap:=s.heap.push { cls:=.type "range",data:=.fields #[.int lo t,.int hi u,.int 1 v] },toks:=tk }:=by
 refine wpAny_pyIter_range (IsRange.new ..) (small_one h1 h2 h3 h4) ?_
 have I1:Inv X pins σ H { s with heap:=s.heap.push { cls:=.type "range",data:=.fields #[.int lo t,.int hi u,.int 1 v] },toks:=tk }:=I.kept fun b o e=>Heap.get?_push_of_some _ e
 refine⟨(s.heap.push { cls:=.type "range",data:=.fields #[.int lo t,.int hi u,.int 1 v] }).objs.size,[(s.heap.push { cls:=.type "range",data:=.fields #[.int lo t,.int hi u,.int 1 v] }).objs.size],_,_,H,rfl,
  I1.kept (t':=tk) fun b o e=>Heap.get?_push_of_some _ e,turn_range _ lo (hi-lo).toNat,?_,fun b hb=>?_,q⟩
 ·have e1:lo+((0:Nat):Int)*1=lo:=by simp
  have e2:(((hi-lo).toNat:Nat):Int)-((0:Nat):Int)=Builtin.Range.rangeSize lo hi 1:=by rw[rangeSize_one];split<;>omega
  show IsRangeIter _ _ (lo+((0:Nat):Int)*1) ((((hi-lo).toNat:Nat):Int)-((0:Nat):Int)) 1
  rw[e1,e2]
  exact Heap.get?_push_size _ rfl
 ·have e:b=(s.heap.push { cls:=.type "range",data:=.fields #[.int lo t,.int hi u,.int 1 v] }).objs.size:=by simpa using hb
  subst e
  exact I1.fpOk (Nat.le_refl _) (I1.hok.fresh (Nat.le_refl _))
def iRng1 (ta:TA):TI:=fun σ H R=>ta σ H fun vs H1=>∃j:Int,vs=[.int j]∧-(2 ^ 62)≤j∧j<2 ^ 62∧R (Itr 0 j.toNat) H1
def iRng2 (ta:TA):TI:=fun σ H R=>ta σ H fun vs H1=>∃i j:Int,vs=[.int i,.int j]∧(-(2 ^ 62)≤i∧i<2 ^ 62∧-(2 ^ 62)≤j∧j<2 ^ 62)∧R (Itr i (j-i).toNat) H1
theorem pi_range1 {a:Expr}{ta:TA}{p pos:Pos}(hg:Gl X "range")(hm:X.mg "range"=none)(ha:PA X [a] ta)(hs:starEach [a] X.env=[(false,eval a X.env)]:=by rfl):PI X tg (.Call (.Name "range" p) [a] [] pos) (iRng1 ta):=by
 intro pins s σ H R I h
 refine Call_ (ld_blt I hg hm boot_range (PyProof.Rows.callWith_type1 (thn (ha pos pins s σ H _ I h) fun us s1 ⟨vs,H1,I1,r1,q1⟩=>?_) hs rfl))
 obtain⟨j,e,q1,q2,q⟩:=q1
 subst e
 cases r1 with
 | cons r rr =>
  cases rr
  obtain⟨t,rfl⟩:=r
  exact call_range_1 (range_it I1 (by omega) (by omega) q1 q2 (by simpa using q))
theorem pi_range2 {a b:Expr}{ta:TA}{p pos:Pos}(hg:Gl X "range")(hm:X.mg "range"=none)(ha:PA X [a,b] ta)(hs:starEach [a,b] X.env=[(false,eval a X.env),(false,eval b X.env)]:=by rfl)(hs2:starEach [b] X.env=[(false,eval b X.env)]:=by rfl) :
  PI X tg (.Call (.Name "range" p) [a,b] [] pos) (iRng2 ta):=by
 intro pins s σ H R I h
 refine Call_ (ld_blt I hg hm boot_range (PyProof.Rows.callWith_type1 (thn (ha pos pins s σ H _ I h) fun us s1 ⟨vs,H1,I1,r1,q1⟩=>?_) (by rw[hs,hs2]) (by rw[hs2];rfl)))
 obtain⟨i,j,e,⟨q1,q2,q3,q4⟩,q⟩:=q1
 subst e
 cases r1 with
 | cons r rr =>
  cases rr with
  | cons r' rr =>
   cases rr
   obtain⟨t,rfl⟩:=r
   obtain⟨t',rfl⟩:=r'
   exact call_range_2 (range_it I1 q1 q2 q3 q4 q)
def tFor (wi:TI)(g:TG)(tb:TS):TS:=fun D σ H=>wi σ H fun J H1=>∃W:Nat→Nat→St→Hp→Prop,(∃m,W 0 m σ H1)∧∀i m σ H,W i m σ H →
 (J.stop i H∧D.nx σ H)∨(J.go i H∧∃N:St→Hp→Prop,(∀σ' H',N σ' H'→∃m',m'<m∧W (i+1) m' σ' H')∧∀x H',J.yld i H x H'→g x σ H' fun σ2 H2=>tb { D with nx:=N,ct:=N,bk:=D.nx } σ2 H2)
noncomputable def pinsAt (fp:List Addr)(h:Heap):List (Addr×Obj):=fp.filterMap fun b=>(h.get? b).map fun o=>(b,o)
theorem mem_pinsAt {fp:List Addr}{h:Heap}{b:Addr}{o:Obj}(hb:b∈fp)(e:h.get? b=some o):(b,o)∈pinsAt fp h:=List.mem_filterMap.mpr ⟨b,hb,by rw[e];rfl⟩
theorem of_pinsAt {fp:List Addr}{h:Heap}{p:Addr×Obj}(hp:p∈pinsAt fp h):p.1∈fp∧h.get? p.1=some p.2:=by
 obtain⟨b,hb,e⟩:=List.mem_filterMap.mp hp
 cases q:h.get? b with
 | none=>rw[q]at e;cases e
 | some o =>
  rw[q]at e
  have e':(b,o)=p:=Option.some.inj e
  subst e'
  exact⟨hb,q⟩
theorem Inv.pinned {pins:List (Addr×Obj)}{σ:St}{H:Hp}{s:Shared}{fp:List Addr}(I:Inv X pins σ H s)(hf:∀b∈fp,FpOk X pins H b)(ho:∀b∈fp,∃o,s.heap.get? b=some o∧∀v,o.data≠.cell v):Inv X (pins++pinsAt fp s.heap) σ H s :=
 I.pins_of fun p hp=>(List.mem_append.mp hp).elim (fun z=>I.pin p (List.mem_append_right _ z)) fun z=>by
  obtain⟨hb,e⟩:=of_pinsAt z
  obtain⟨f0,f1,f2,_⟩:=hf p.1 hb
  obtain⟨o,e',d⟩:=ho p.1 hb
  rw[e]at e';cases e'
  exact⟨e,f0,f1,f2,d⟩
theorem Inv.unpinned {pins pl:List (Addr×Obj)}{σ:St}{H:Hp}{s:Shared}(I:Inv X (pins++pl) σ H s):Inv X pins σ H s:=I.pins_of fun p hp=>I.pin p (List.mem_append_right _ (List.mem_append_left _ hp))
theorem ps_for {iter:Expr}{body:List Stmt}{wi:TI}{g:TG}{tb:TS}{pos:Pos}(hp:PassesOwn (model X.prog X.w) X.A X.env X.xe)(hc:X.calm=true)(hi:PI X tg iter wi)(hg:PG X tg g)(hb:PSs X body tb)
  (hs:∀x,foldedSetIterable iter X.env x=pure x:=by intro _;rfl):PS X (.For tg iter body [] pos) (tFor wi g tb):=by
 intro pins s σ H D I h
 refine wpAny_For (thn (hi pins s σ H _ I h) fun v s1 h1=>thn h1 fun itv s2 h2=>?_) hs
 obtain⟨it,fp,tn,J,H2,e,I2,T,st2,f2,W,⟨m0,w0⟩,turn⟩:=h2
 subst e
 -- what stays true of the iterator's objects through the loop
 have stat:∀{H':Hp},(∀b∈fp,H' b=none)→∀b∈fp,FpOk X pins H' b:=fun hn b hb=>⟨hn b hb,(f2 b hb).2⟩
 refine codeAny_forLoop_any (fun n s'=>∃i σ' H',Inv X pins σ' H' s'∧tn i s'.heap∧(∀b∈fp,H' b=none)∧W i n σ' H') ?_ m0 ⟨0,σ,H2,I2,st2,fun b hb=>(f2 b hb).1,w0⟩
 rintro n s3 ⟨i,σ3,H3,I3,st3,fr3,w3⟩
 rcases turn i n σ3 H3 w3 with ⟨stop,qn⟩|⟨go,N,hN,step⟩
 ·refine wpAny_passesOwn hp (thn (T.done X rfl rfl rfl hc i pins s3 σ3 H3 X.xe I3 (stat fr3) st3 stop) fun r s4 ⟨hr,I4⟩=>?_)
  subst hr
  exact wpAny_execs_nil ⟨σ3,H3,I4,qn⟩
 ·refine wpAny_passesOwn hp (thn (T.item X rfl rfl rfl hc i pins s3 σ3 H3 X.xe I3 (stat fr3) st3 go) fun r s4 ⟨u,hr,h4⟩=>?_)
  subst hr
  refine wpAny_passesOwn hp (thn h4 fun _ s5 ⟨x,H5,I5,r5,y5,st5,fr5⟩=>?_)
  have I5':=I5.pinned (stat fr5) (T.obj _ _ st5)
  refine wpAny_passesOwn hp (thn (hg _ s5 σ3 H5 x u _ I5' r5 (step x H5 y5)) fun _ s6 ⟨σ6,H6,I6,q6⟩=>?_)
  refine wpAny_passesOwn hp (thn (hb _ s6 σ6 H6 _ I6 q6) fun f s7 q7=>?_)
  have again:∀{σ7:St}{H7:Hp},Inv X (pins++pinsAt fp s5.heap) σ7 H7 s7→N σ7 H7→∃m,m<n∧∃i σ' H',Inv X pins σ' H' s7∧tn i s7.heap∧(∀b∈fp,H' b=none)∧W i m σ' H':=fun {σ7 H7} I7 n7=>by
   obtain⟨m',hm,w7⟩:=hN σ7 H7 n7
   refine⟨m',hm,i+1,σ7,H7,I7.unpinned,T.keep _ _ _ st5 fun b hb o e=>(I7.pin (b,o) (List.mem_append_right _ (List.mem_append_right _ (mem_pinsAt hb e)))).1,fun b hb=>?_,w7⟩
   obtain⟨o,e,d⟩:=T.obj _ _ st5 b hb
   exact(I7.pin (b,o) (List.mem_append_right _ (List.mem_append_right _ (mem_pinsAt hb e)))).2.1
  cases f with
  | next=>obtain⟨σ7,H7,I7,n7⟩:=q7;exact again I7 n7
  | cont=>obtain⟨σ7,H7,I7,n7⟩:=q7;exact again I7 n7
  | brk=>obtain⟨σ7,H7,I7,q7⟩:=q7;exact⟨σ7,H7,I7.unpinned,q7⟩
  | ret v=>obtain⟨x7,σ7,H7,I7,r7,q7⟩:=q7;exact⟨x7,σ7,H7,I7.unpinned,r7,q7⟩
end
theorem for_tup {K:PySem.W.Frag}{a:Addr}{xs:List V}{g:TG}{tb:TS}{D:Ends}{σ:St}{H:Hp}(Pv:Nat→St→Hp→Prop)(h0:Pv 0 σ H)(hl:∀i σ H,i≤xs.length→Pv i σ H→SqT K H a xs)
  (hs:∀i x σ H,xs[i]?=some x→Pv i σ H→g x σ H fun σ2 H2=>tb { D with nx:=Pv (i+1),ct:=Pv (i+1),bk:=D.nx } σ2 H2)(hd:∀σ H,Pv xs.length σ H→D.nx σ H) :
  ∃W:Nat→Nat→St→Hp→Prop,(∃m,W 0 m σ H)∧∀i m σ H,W i m σ H →
   ((Itt K a).stop i H∧D.nx σ H)∨((Itt K a).go i H∧∃N:St→Hp→Prop,(∀σ' H',N σ' H'→∃m',m'<m∧W (i+1) m' σ' H')∧∀x H',(Itt K a).yld i H x H'→g x σ H' fun σ2 H2=>tb { D with nx:=N,ct:=N,bk:=D.nx } σ2 H2):=by
 refine⟨fun i m σ H=>m=xs.length-i∧i≤xs.length∧Pv i σ H,⟨xs.length,by simp,Nat.zero_le _,h0⟩,?_⟩
 rintro i m σ H ⟨rfl,hi,p⟩
 have q:=hl i σ H hi p
 by_cases hlt:i<xs.length
 ·refine .inr ⟨⟨xs,xs[i],q,by simp[hlt]⟩,Pv (i+1),fun σ' H' p'=>⟨xs.length-(i+1),by omega,rfl,hlt,p'⟩,fun x H' y=>?_⟩
  obtain⟨e,y⟩:=y
  subst e
  exact hs i x σ _ (y xs q) p
 ·have e:i=xs.length:=by omega
  subst e
  exact .inl ⟨⟨xs,q,Nat.le_refl _⟩,hd σ H p⟩
theorem for_range {lo:Int}{n:Nat}{g:TG}{tb:TS}{D:Ends}{σ:St}{H:Hp}(Pv:Nat→St→Hp→Prop)(h0:Pv 0 σ H)
  (hs:∀i σ H,i<n→Pv i σ H→g (.int (lo+i)) σ H fun σ2 H2=>tb { D with nx:=Pv (i+1),ct:=Pv (i+1),bk:=D.nx } σ2 H2)(hd:∀σ H,Pv n σ H→D.nx σ H) :
  ∃W:Nat→Nat→St→Hp→Prop,(∃m,W 0 m σ H)∧∀i m σ H,W i m σ H →
   ((Itr lo n).stop i H∧D.nx σ H)∨((Itr lo n).go i H∧∃N:St→Hp→Prop,(∀σ' H',N σ' H'→∃m',m'<m∧W (i+1) m' σ' H')∧∀x H',(Itr lo n).yld i H x H'→g x σ H' fun σ2 H2=>tb { D with nx:=N,ct:=N,bk:=D.nx } σ2 H2):=by
 refine⟨fun i m σ H=>m=n-i∧i≤n∧Pv i σ H,⟨n,by simp,Nat.zero_le _,h0⟩,?_⟩
 rintro i m σ H ⟨rfl,hi,p⟩
 by_cases hlt:i<n
 ·refine .inr ⟨hlt,Pv (i+1),fun σ' H' p'=>⟨n-(i+1),by omega,rfl,hlt,p'⟩,fun x H' y=>?_⟩
  obtain⟨e,y⟩:=y
  subst e y
  exact hs i σ _ hlt p
 ·have e:i=n:=by omega
  subst e
  exact .inl ⟨Nat.le_refl _,hd σ H p⟩
theorem while_by {c:TT}{tb:TS}{D:Ends}{σ:St}{H:Hp}(Pv:St→Hp→Prop)(μ:St→Hp→Nat)(h0:Pv σ H)
  (hs:∀σ H,Pv σ H→c σ H fun b H1=>if b=true then tb { D with nx:=fun σ' H'=>Pv σ' H'∧μ σ' H'<μ σ H,ct:=fun σ' H'=>Pv σ' H'∧μ σ' H'<μ σ H,bk:=D.nx } σ H1 else D.nx σ H1)
  (mono:∀σ H Q Q',(∀b H1,Q b H1→Q' b H1)→c σ H Q→c σ H Q'):tWhile c tb D σ H:=by
 refine⟨fun m σ H=>m=μ σ H∧Pv σ H,⟨_,rfl,h0⟩,?_⟩
 rintro m σ H ⟨rfl,p⟩
 refine mono σ H _ _ (fun b H1 q=>?_) (hs σ H p)
 cases b with
 | true=>exact⟨_,fun σ' H' ⟨p',l⟩=>⟨_,l,rfl,p'⟩,q⟩
 | false=>exact q
end L2
namespace L2
open PySem PySem.Spec PyProof.Rows
noncomputable abbrev R2:=V→V→Hp→VK→Prop
def OpR (X:Cx)(f:Value→Value→Sem Value)(r:R2):Prop :=
 ∀(pins:List (Addr×Obj))(s:Shared)(σ:St)(H:Hp)(x y:V)(v u:Value)(Q:VK),Inv X pins σ H s→RelV x v→RelV y u→r x y H Q →
  wpAny (model X.prog X.w) X.A (f v u) (EP X pins σ Q) X.xe s
def UnR (X:Cx)(f:Value→Sem Value)(r:V→Hp→VK→Prop):Prop :=
 ∀(pins:List (Addr×Obj))(s:Shared)(σ:St)(H:Hp)(x:V)(v:Value)(Q:VK),Inv X pins σ H s→RelV x v→r x H Q →
  wpAny (model X.prog X.w) X.A (f v) (EP X pins σ Q) X.xe s
def CallR (X:Cx)(f:Value)(r:List V→Hp→VK→Prop):Prop :=
 ∀(pins:List (Addr×Obj))(s:Shared)(σ:St)(H:Hp)(xs:List V)(us:List Value)(Q:VK),Inv X pins σ H s→Vals xs us→r xs H Q →
  wpAny (model X.prog X.w) X.A (call f us) (EP X pins σ Q) X.xe s
def TruR (X:Cx)(r:V→Hp→(Bool→Hp→Prop)→Prop):Prop :=
 ∀(pins:List (Addr×Obj))(s:Shared)(σ:St)(H:Hp)(x:V)(v:Value)(Q:Bool→Hp→Prop),Inv X pins σ H s→RelV x v→r x H Q →
  wpAny (model X.prog X.w) X.A (truthy v) (TP X pins σ Q) X.xe s
def tOp (r:R2)(ta tb:TE):TE:=fun σ H Q=>ta σ H fun x H1=>tb σ H1 fun y H2=>r x y H2 Q
def tUn (r:V→Hp→VK→Prop)(ta:TE):TE:=fun σ H Q=>ta σ H fun x H1=>r x H1 Q
def rI (C:Int→Int→Prop)(g:Int→Int→V):R2:=fun x y H Q=>∃i j,x=.int i∧y=.int j∧C i j∧Q (g i j) H
def rI0 (g:Int→Int→V):R2:=fun x y H Q=>∃i j,x=.int i∧y=.int j∧Q (g i j) H
def rU (g:Int→V):V→Hp→VK→Prop:=fun x H Q=>∃i,x=.int i∧Q (g i) H
section
variable {X:Cx}{a b c:Expr}{ta tb tc:TE}{pos:Pos}
theorem binT (ha:PE X a ta)(hb:PE X b tb){pins:List (Addr×Obj)}{s:Shared}{σ:St}{H:Hp}{R:V→V→Hp→Prop}(I:Inv X pins σ H s)
  (h:ta σ H fun x H1=>tb σ H1 fun y H2=>R x y H2){Q:Value→Shared→Prop}{f:Value→Value→Sem Value}
  (hf:∀v u s2 x y H2,Inv X pins σ H2 s2→RelV x v→RelV y u→R x y H2→wpAny (model X.prog X.w) X.A (f v u) Q X.xe s2) :
  wpAny (model X.prog X.w) X.A (eval a X.env) (fun v s₁=>wpAny (model X.prog X.w) X.A (eval b X.env) (fun u s₂=>wpAny (model X.prog X.w) X.A (f v u) Q X.xe s₂) X.xe s₁) X.xe s:=by
 refine thn (ha pins s σ H _ I h) fun v s1 ⟨x,H1,I1,r1,q1⟩=>?_
 refine thn (hb pins s1 σ H1 _ I1 q1) fun u s2 ⟨y,H2,I2,r2,q2⟩=>?_
 exact hf v u s2 x y H2 I2 r1 r2 q2
theorem pe_op {op:Operator}{r:R2}(ho:OpR X (binaryOp op) r)(ha:PE X a ta)(hb:PE X b tb):PE X (.BinOp a op b pos) (tOp r ta tb):=by
 intro pins s σ H Q I h
 exact wpAny_BinOp (binT ha hb I h fun v u s2 x y H2 I2 rx ry q=>ho pins s2 σ H2 x y v u Q I2 rx ry q)
theorem pe_un {op:UnaryOp}{r:V→Hp→VK→Prop}(ho:UnR X (unaryOp op) r)(ha:PE X a ta):PE X (.UnaryOp op a pos) (tUn r ta):=by
 intro pins s σ H Q I h
 exact UnaryOp_ (thn (ha pins s σ H _ I h) fun v s1 ⟨x,H1,I1,r1,q1⟩=>ho pins s1 σ H1 x v Q I1 r1 q1)
theorem opI {f:Value→Value→Sem Value}{C:Int→Int→Prop}{g:Int→Int→Int}
  (rule:∀(i j:Int)(t u:Tok)(s:Shared)(Q:Value→Shared→Prop)(E:Value→Shared→Prop),C i j→Q (.int (g i j) s.toks) { s with toks:=s.toks+1 }→wpAny (model X.prog X.w) X.A (f (.int i t) (.int j u)) Q E s) :
  OpR X f (rI C fun i j=>.int (g i j)):=by
 intro pins s σ H x y v u Q I rx ry h
 obtain⟨i,j,rfl,rfl,hc,q⟩:=h
 obtain⟨t,rfl⟩:=rx
 obtain⟨t',rfl⟩:=ry
 exact rule i j t t' s _ _ hc ⟨.int (g i j),H,I.tok _,⟨_,rfl⟩,q⟩
theorem opI0 {f:Value→Value→Sem Value}{g:Int→Int→Int}
  (rule:∀(i j:Int)(t u:Tok)(s:Shared)(Q:Value→Shared→Prop)(E:Value→Shared→Prop),Q (.int (g i j) s.toks) { s with toks:=s.toks+1 }→wpAny (model X.prog X.w) X.A (f (.int i t) (.int j u)) Q E s) :
  OpR X f (rI0 fun i j=>.int (g i j)):=by
 intro pins s σ H x y v u Q I rx ry h
 obtain⟨i,j,rfl,rfl,q⟩:=h
 obtain⟨t,rfl⟩:=rx
 obtain⟨t',rfl⟩:=ry
 exact rule i j t t' s _ _ ⟨.int (g i j),H,I.tok _,⟨_,rfl⟩,q⟩
theorem opB0 {f:Value→Value→Sem Value}{g:Int→Int→Bool}
  (rule:∀(i j:Int)(t u:Tok)(s:Shared)(Q:Value→Shared→Prop)(E:Value→Shared→Prop),Q (.bool (g i j)) s→wpAny (model X.prog X.w) X.A (f (.int i t) (.int j u)) Q E s) :
  OpR X f (rI0 fun i j=>.bl (g i j)):=by
 intro pins s σ H x y v u Q I rx ry h
 obtain⟨i,j,rfl,rfl,q⟩:=h
 obtain⟨t,rfl⟩:=rx
 obtain⟨t',rfl⟩:=ry
 exact rule i j t t' s _ _ ⟨.bl (g i j),H,I,rfl,q⟩
def CDiv (i j:Int):Prop:=0<j∧j<1073741824
def CPow (i j:Int):Prop:=0≤j∧j≤1000000∧i.natAbs<2 ^ 64
def CMul (i j:Int):Prop:=(-(2 ^ 64)<i∧i<2 ^ 64)∨(-(2 ^ 64)<j∧j<2 ^ 64)
theorem CMul.ok {i j:Int}(h:CMul i j):IntMulOk i j:=by
 rcases h with ⟨h1,h2⟩|⟨h1,h2⟩
 ·exact .of_left (intBits_le_64 h1 h2)
 ·exact .of_right (intBits_le_64 h1 h2)
theorem op_add:OpR X (binaryOp .Add) (rI0 fun i j=>.int (i+j)):=opI0 fun _ _ _ _ _ _ _ q=>add_int q
theorem op_sub:OpR X (binaryOp .Sub) (rI0 fun i j=>.int (i-j)):=opI0 fun _ _ _ _ _ _ _ q=>sub_int q
theorem op_mul:OpR X (binaryOp .Mult) (rI CMul fun i j=>.int (i*j)):=opI fun _ _ _ _ _ _ _ hc q=>mul_int q hc.ok
theorem op_fdiv:OpR X (binaryOp .FloorDiv) (rI CDiv fun i j=>.int (i / j)):=opI fun i j _ _ _ _ _ hc q=>by
 have h1:(0:Int)<j:=hc.1
 have h2:j<1073741824:=hc.2
 exact floordiv_int (by omega) (by rw[Int.fdiv_eq_ediv_of_nonneg i (by omega)];exact q) (.inl (PyProof.noPylong_small (by omega)))
theorem op_mod:OpR X (binaryOp .Mod) (rI (fun _ j=>0<j) fun i j=>.int (i%j)):=opI fun i j _ _ _ _ _ hc q=>by
 have h1:(0:Int)<j:=hc
 exact mod_int' (by omega) (by rw[Int.fmod_eq_emod_of_nonneg i (by omega)];exact q)
theorem op_shl:OpR X (binaryOp .LShift) (rI CPow fun i j=>.int (i*2 ^ j.toNat)):=opI fun _ _ _ _ _ _ _ hc q=>lshift_int_small hc.1 hc.2.1 hc.2.2 q
theorem unI {f:Value→Sem Value}{g:Int→Int}
  (rule:∀(i:Int)(t:Tok)(s:Shared)(Q:Value→Shared→Prop)(E:Value→Shared→Prop),Q (.int (g i) s.toks) { s with toks:=s.toks+1 }→wpAny (model X.prog X.w) X.A (f (.int i t)) Q E s) :
  UnR X f (rU fun i=>.int (g i)):=by
 intro pins s σ H x v Q I rx h
 obtain⟨i,rfl,q⟩:=h
 obtain⟨t,rfl⟩:=rx
 exact rule i t s _ _ ⟨.int (g i),H,I.tok _,⟨_,rfl⟩,q⟩
theorem un_neg:UnR X (unaryOp .USub) (rU fun i=>.int (-i)):=unI fun _ _ _ _ _ q=>neg_int q
end
noncomputable def scal:V→V→Bool
 |.non,.non=>true |.non,.int _=>true |.int _,.non=>true |.non,.bl _=>true |.bl _,.non=>true |.non,.str _=>true |.str _,.non=>true
 |.int _,.int _=>true |.bl _,.bl _=>true |.str _,.str _=>true |.byt _,.byt _=>true
 |.int _,.str _=>true |.str _,.int _=>true |.bl _,.str _=>true |.str _,.bl _=>true
 | _,_=>false
def rEq:R2:=fun x y H Q=>scal x y=true∧Q (.bl (decide (x=y))) H
def rNe:R2:=fun x y H Q=>scal x y=true∧Q (.bl (!decide (x=y))) H
theorem dec_int {i j:Int}:decide (V.int i=V.int j)=(i==j):=by
 rw[Bool.eq_iff_iff]
 simp
theorem dec_bl {i j:Bool}:decide (V.bl i=V.bl j)=(i==j):=by
 rw[Bool.eq_iff_iff]
 simp
theorem dec_str {i j:Str}:decide (V.str i=V.str j)=(i==j):=by
 rw[Bool.eq_iff_iff]
 simp
theorem dec_byt {i j:Array UInt8}:decide (V.byt i=V.byt j)=(i.toList==j.toList):=by
 rw[Bool.eq_iff_iff]
 cases i
 cases j
 simp
section
variable {X:Cx}{a b c:Expr}{ta tb tc:TE}{pos:Pos}
theorem fin_bl {pins:List (Addr×Obj)}{σ:St}{H:Hp}{s:Shared}{Q:VK}{k k':Bool}(I:Inv X pins σ H s)(q:Q (.bl k) H)(e:k=k'):EP X pins σ Q (.bool k') s:=by
 subst e
 exact⟨.bl k,H,I,rfl,q⟩
theorem op_eq:OpR X (compareOp .Eq) rEq:=by
 intro pins s σ H x y v u Q I rx ry h
 obtain⟨hs,q⟩:=h
 cases x with
 | non =>
  cases rx
  cases y with
  | non=>cases ry;exact PySem.EqNone.eq_none_none (fin_bl I q (by simp))
  | bl j=>cases ry;exact PySem.EqNone.eq_none_bool (fin_bl I q (by simp))
  | int j=>obtain⟨t',rfl⟩:=ry;exact PySem.EqNone.eq_none_int (fin_bl I q (by simp))
  | str j=>obtain⟨t',rfl⟩:=ry;exact PySem.EqNone.eq_none_str (fin_bl I q (by simp))
  | _=>exact absurd (show false=true from hs) Bool.false_ne_true
 | bl i =>
  cases rx
  cases y with
  | non=>cases ry;exact PySem.EqNone.eq_bool_none (fin_bl I q (by simp))
  | bl j=>cases ry;exact eq_bool (fin_bl I q dec_bl)
  | str j=>obtain⟨t',rfl⟩:=ry;exact PySem.EqMixed.eq_bool_str (fin_bl I q (by simp))
  | _=>exact absurd (show false=true from hs) Bool.false_ne_true
 | int i =>
  obtain⟨t,rfl⟩:=rx
  cases y with
  | non=>cases ry;exact PySem.EqNone.eq_int_none (fin_bl I q (by simp))
  | int j=>obtain⟨t',rfl⟩:=ry;exact eq_int (fin_bl I q dec_int)
  | str j=>obtain⟨t',rfl⟩:=ry;exact PySem.EqMixed.eq_int_str (fin_bl I q (by simp))
  | _=>exact absurd (show false=true from hs) Bool.false_ne_true
 | str i =>
  obtain⟨t,rfl⟩:=rx
  cases y with
  | non=>cases ry;exact PySem.EqNone.eq_str_none (fin_bl I q (by simp))
  | bl j=>cases ry;exact PySem.EqMixed.eq_str_bool (fin_bl I q (by simp))
  | int j=>obtain⟨t',rfl⟩:=ry;exact PySem.EqMixed.eq_str_int (fin_bl I q (by simp))
  | str j=>obtain⟨t',rfl⟩:=ry;exact eq_str (fin_bl I q dec_str)
  | _=>exact absurd (show false=true from hs) Bool.false_ne_true
 | byt i =>
  obtain⟨t,rfl⟩:=rx
  cases y with
  | byt j=>obtain⟨t',rfl⟩:=ry;exact PySem.W.eq_bytes (fin_bl I q dec_byt)
  | _=>exact absurd (show false=true from hs) Bool.false_ne_true
 | _=>cases y<;>exact absurd (show false=true from hs) Bool.false_ne_true
theorem op_ne:OpR X (compareOp .NotEq) rNe:=by
 intro pins s σ H x y v u Q I rx ry h
 obtain⟨hs,q⟩:=h
 cases x with
 | non =>
  cases rx
  cases y with
  | non=>cases ry;exact PySem.EqNone.ne_none_none (fin_bl I q (by simp))
  | bl j=>cases ry;exact PySem.EqNone.ne_none_bool (fin_bl I q (by simp))
  | int j=>obtain⟨t',rfl⟩:=ry;exact PySem.EqNone.ne_none_int (fin_bl I q (by simp))
  | str j=>obtain⟨t',rfl⟩:=ry;exact PySem.EqNone.ne_none_str (fin_bl I q (by simp))
  | _=>exact absurd (show false=true from hs) Bool.false_ne_true
 | bl i =>
  cases rx
  cases y with
  | non=>cases ry;exact PySem.EqNone.ne_bool_none (fin_bl I q (by simp))
  | bl j=>cases ry;exact ne_bool (fin_bl I q (congrArg not dec_bl))
  | str j=>obtain⟨t',rfl⟩:=ry;exact PySem.EqMixed.ne_bool_str (fin_bl I q (by simp))
  | _=>exact absurd (show false=true from hs) Bool.false_ne_true
 | int i =>
  obtain⟨t,rfl⟩:=rx
  cases y with
  | non=>cases ry;exact PySem.EqNone.ne_int_none (fin_bl I q (by simp))
  | int j=>obtain⟨t',rfl⟩:=ry;exact ne_int (fin_bl I q (congrArg not dec_int))
  | str j=>obtain⟨t',rfl⟩:=ry;exact PySem.EqMixed.ne_int_str (fin_bl I q (by simp))
  | _=>exact absurd (show false=true from hs) Bool.false_ne_true
 | str i =>
  obtain⟨t,rfl⟩:=rx
  cases y with
  | non=>cases ry;exact PySem.EqNone.ne_str_none (fin_bl I q (by simp))
  | bl j=>cases ry;exact PySem.EqMixed.ne_str_bool (fin_bl I q (by simp))
  | int j=>obtain⟨t',rfl⟩:=ry;exact PySem.EqMixed.ne_str_int (fin_bl I q (by simp))
  | str j=>obtain⟨t',rfl⟩:=ry;exact ne_str (fin_bl I q (congrArg not dec_str))
  | _=>exact absurd (show false=true from hs) Bool.false_ne_true
 | byt i =>
  obtain⟨t,rfl⟩:=rx
  cases y with
  | byt j=>obtain⟨t',rfl⟩:=ry;exact PySem.W.ne_bytes (fin_bl I q (congrArg not dec_byt))
  | _=>exact absurd (show false=true from hs) Bool.false_ne_true
 | _=>cases y<;>exact absurd (show false=true from hs) Bool.false_ne_true
theorem op_lt:OpR X (compareOp .Lt) (rI0 fun i j=>.bl (decide (i<j))):=opB0 fun _ _ _ _ _ _ _ q=>lt_int q
theorem op_gt:OpR X (compareOp .Gt) (rI0 fun i j=>.bl (decide (j<i))):=opB0 fun _ _ _ _ _ _ _ q=>gt_int q
theorem op_ge:OpR X (compareOp .GtE) (rI0 fun i j=>.bl (decide (j≤i))):=opB0 fun _ _ _ _ _ _ _ q=>ge_int q
theorem op_isN:OpR X (compareOp .Is) (fun x y H Q=>y=.non∧Q (.bl (decide (x=.non))) H):=by
 intro pins s σ H x y v u Q I rx ry h
 obtain⟨rfl,q⟩:=h
 cases ry
 refine is_none_gen (fin_bl I q ?_)
 cases x<;>first
  |(cases rx;rfl)
  |(obtain⟨t,rfl⟩:=rx;rfl)
theorem op_notN:OpR X (compareOp .IsNot) (fun x y H Q=>y=.non∧Q (.bl (!decide (x=.non))) H):=by
 intro pins s σ H x y v u Q I rx ry h
 obtain⟨rfl,q⟩:=h
 cases ry
 refine isnot_none_gen (fin_bl I q ?_)
 cases x<;>first
  |(cases rx;rfl)
  |(obtain⟨t,rfl⟩:=rx;rfl)
theorem nomark (b:Expr){op:CmpOp}(h:op≠.In:=by decide)(h2:op≠.NotIn:=by decide):behindInMarks op b=false:=by
 have e1:(op==CmpOp.In)=false:=by cases op<;>first|rfl|exact absurd rfl h
 have e2:(op==CmpOp.NotIn)=false:=by cases op<;>first|rfl|exact absurd rfl h2
 cases b<;>simp[behindInMarks,e1,e2]
theorem pe_cmpR {op:CmpOp}{r:R2}(ho:OpR X (compareOp op) r)(ha:PE X a ta)(hb:PE X b tb)(hm:behindInMarks op b=false):PE X (.Compare a [op] [b] pos) (tOp r ta tb):=by
 intro pins s σ H Q I h
 exact wpAny_Compare1 (binT ha hb I h fun v u s2 x y H2 I2 rx ry q=>ho pins s2 σ H2 x y v u Q I2 rx ry q) hm
def tTest (t:TE):TT:=fun σ H Q=>t σ H fun x H'=>∃k,x=.bl k∧Q k H'
theorem pt_cmpR {op:CmpOp}{r:R2}(ho:OpR X (compareOp op) r)(ha:PE X a ta)(hb:PE X b tb)(hm:behindInMarks op b=false):PT X (.Compare a [op] [b] pos) (tTest (tOp r ta tb)):=by
 intro pins s σ H Q I h
 refine wpAny_isTrue_Compare1 (thn (ha pins s σ H _ I h) fun v s1 ⟨x,H1,I1,r1,q1⟩=>thn (hb pins s1 σ H1 _ I1 q1) fun u s2 ⟨y,H2,I2,r2,q2⟩ =>
  thn (ho pins s2 σ H2 x y v u _ I2 r1 r2 q2) fun c s3 ⟨z,H3,I3,r3,k,e,q3⟩=>?_) hm
 subst e
 cases r3
 exact wpAny_truthy_bool ⟨H3,I3,q3⟩
def TruV (K : PySem.W.Frag) (x : V) (H : Hp) (k : Bool) : Prop :=
  match x with
  | .non=>k = false
  | .bl b=>k = b
  | .int i=>k = (i != 0)
  | .str y=>y.length≤sizeLine∧k = ((y.length : Int) != 0)
  | .byt y=>y.size≤sizeLine∧k = ((y.size : Int) != 0)
  | .ref p=>(∃ xs,SqL K H p xs∧k = !xs.isEmpty) ∨ (∃ xs,SqT K H p xs∧k = !xs.isEmpty) ∨ ∃ kvs,H p = some (.dK kvs)∧k = !kvs.isEmpty
  | _=>False
theorem isEmpty_kv {κ:Type}{kvs:List (κ×V)}{vs:List (κ×Value)}(r:KV kvs vs):(!vs.isEmpty) = !kvs.isEmpty:=by
 cases r<;>rfl
theorem isEmpty_of {xs:List V}{its:List Value}(r:Vals xs its):(!its.toArray.isEmpty) = !xs.isEmpty:=by
 cases r<;>simp
theorem line63:(sizeLine:Nat)<2 ^ 63:=by rw[sizeLine_eq];decide
theorem tru_ok : TruR X (fun x H Q => ∃ k,TruV X.K x H k∧Q k H):=by
  intro pins s σ H x v Q I rx h
  obtain ⟨k,e,q⟩:=h
  have hl:=line63
  have hs : sizeLine = 16777216:=sizeLine_eq
  cases x with
  | non =>
    cases rx
    have e' : k = false:=e
    subst e'
    exact truthy_none ⟨H,I,q⟩
  | bl b =>
    cases rx
    have e' : k = b:=e
    subst e'
    exact wpAny_truthy_bool ⟨H,I,q⟩
  | int i =>
    obtain ⟨t,rfl⟩:=rx
    have e' : k = (i != 0):=e
    subst e'
    exact PySem.P.truthy_int ⟨H,I,q⟩
  | str y =>
    obtain ⟨t,rfl⟩:=rx
    obtain ⟨hy,e'⟩ : y.length≤sizeLine∧k = ((y.length : Int) != 0):=e
    subst e'
    exact PySem.P.truthy_str (by omega) ⟨H,I.tok _,q⟩
  | byt y =>
    obtain ⟨t,rfl⟩:=rx
    obtain ⟨hy,e'⟩ : y.size≤sizeLine∧k = ((y.size : Int) != 0):=e
    subst e'
    exact PySem.W.truthy_bytes (by omega) ⟨H,I.tok _,q⟩
  | ref p =>
    cases rx
    have e' : (∃ xs,SqL X.K H p xs∧k = !xs.isEmpty) ∨ (∃ xs,SqT X.K H p xs∧k = !xs.isEmpty) ∨ ∃ kvs,H p = some (.dK kvs)∧k = !kvs.isEmpty:=e
    rcases e' with ⟨xs,hx,e'⟩ | ⟨xs,hx,e'⟩ | ⟨kvs,hx,e'⟩
    · subst e'
      obtain ⟨its,r,pl,hz⟩:=I.list hx
      have hlen:=r.length
      exact wpAny_truthy_list pl.isList (by simp only [List.size_toArray]; omega) ⟨H,I.tok _,by rw [isEmpty_of r]; exact q⟩
    · subst e'
      obtain ⟨its,r,pl,hz⟩:=I.tuple hx
      have hlen:=r.length
      exact truthy_tuple pl (by simp only [List.size_toArray]; omega) ⟨H,I.tok _,by rw [isEmpty_of r]; exact q⟩
    · subst e'
      obtain ⟨hz,hS,vs,r,m⟩ : kvs.length≤sizeLine∧(p == sysModules) = false ∧ ∃ vs,KV kvs vs∧s.heap.DictOf (mixKind X.prog X.w) p vs:=I.hok p _ hx
      have hlen : kvs.length = vs.length:=Paired.length r
      exact wpAny_truthy_dict hS m (by omega) ⟨H,I.tok _,by rw [isEmpty_kv r]; exact q⟩
  | _=>exact (show False from e).elim
theorem pt_truth (ha:PE X a ta)(he:∀whole,isTrue a X.env whole=(do let v ←whole;standAt a.pos;holding [v] (truthy v))) :
  PT X a (fun σ H Q=>ta σ H fun x H'=>∃k,TruV X.K x H' k∧Q k H'):=by
 intro pins s σ H Q I h
 exact isTrue_plain (thn (ha pins s σ H _ I h) fun v s1 ⟨x,H1,I1,r1,q1⟩=>tru_ok pins s1 σ H1 x v Q I1 r1 q1) (he _)
theorem op_add_str:OpR X (binaryOp .Add) (fun x y H Q=>∃i j,x=.str i∧y=.str j∧i.length+j.length≤sizeLine∧Q (.str (i++j)) H):=by
 intro pins s σ H x y v u Q I rx ry h
 obtain⟨i,j,rfl,rfl,hz,q⟩:=h
 obtain⟨t,rfl⟩:=rx
 obtain⟨t',rfl⟩:=ry
 exact add_str (fun t' tk=>⟨.str (i++j),H,I.tok _,⟨_,rfl⟩,q⟩) hz
theorem vals1 {x:V}{us:List Value}(r:Vals [x] us):∃u,us=[u]∧RelV x u:=by
 cases r with
 | cons r1 r2=>cases r2;exact⟨_,rfl,r1⟩
theorem vals2 {x y:V}{us:List Value}(r:Vals [x,y] us):∃u w',us=[u,w']∧RelV x u∧RelV y w':=by
 cases r with
 | cons r1 r2 =>
  cases r2 with
  | cons r3 r4=>cases r4;exact⟨_,_,rfl,r1,r3⟩
theorem call_max2 (hc:X.calm=true):CallR X (.builtin "max") (fun xs H Q=>∃i j,xs=[.int i,.int j]∧Q (.int (if j>i then j else i)) H):=by
 intro pins s σ H xs us Q I r h
 obtain⟨i,j,rfl,q⟩:=h
 obtain⟨u,w',rfl,⟨t,rfl⟩,⟨t',rfl⟩⟩:=vals2 r
 refine max_two_ints (I.ok.hd hc) fun h' tk k=>⟨_,H,I.kept k,?_,q⟩
 by_cases hj:j>i
 ·rw[if_pos hj,if_pos hj];exact⟨_,rfl⟩
 ·rw[if_neg hj,if_neg hj];exact⟨_,rfl⟩
theorem call_min2 (hc:X.calm=true):CallR X (.builtin "min") (fun xs H Q=>∃i j,xs=[.int i,.int j]∧Q (.int (if j<i then j else i)) H):=by
 intro pins s σ H xs us Q I r h
 obtain⟨i,j,rfl,q⟩:=h
 obtain⟨u,w',rfl,⟨t,rfl⟩,⟨t',rfl⟩⟩:=vals2 r
 refine min_two_ints (I.ok.hd hc) fun h' tk k=>⟨_,H,I.kept k,?_,q⟩
 by_cases hj:j<i
 ·rw[if_pos hj,if_pos hj];exact⟨_,rfl⟩
 ·rw[if_neg hj,if_neg hj];exact⟨_,rfl⟩
theorem call_int1:CallR X (.type "int") (fun xs H Q=>(∃i,xs=[.int i]∧Q (.int i) H)∨∃k,xs=[.bl k]∧Q (.int (if k then 1 else 0)) H):=by
 intro pins s σ H xs us Q I r h
 rcases h with ⟨i,rfl,q⟩|⟨k,rfl,q⟩
 ·obtain⟨u,rfl,t,rfl⟩:=vals1 r
  exact call_int_int ⟨.int i,H,I,⟨_,rfl⟩,q⟩
 ·obtain⟨u,rfl,r1⟩:=vals1 r
  cases r1
  exact call_int_bool ⟨.int (if k then 1 else 0),H,I.tok _,⟨_,rfl⟩,q⟩
theorem call_str_int:CallR X (.type "str") (fun xs H Q=>∃i,xs=[.int i]∧i.natAbs.log2<1920∧Q (.str (toString i)) H):=by
 intro pins s σ H xs us Q I r h
 obtain⟨i,rfl,hz,q⟩:=h
 obtain⟨u,rfl,t,rfl⟩:=vals1 r
 exact PySem.P.str_of_int hz ⟨.str _,H,I.tok _,⟨_,rfl⟩,q⟩
end
end L2
namespace L2
open PySem PySem.Spec PyProof.Rows
structure ObjM (h:Heap)(x dx C:Addr)(mA:Str→Option Value):Prop where
 obj:h.get? x=some (PySem.W.instObj C dx)
 ns:h.Ns1 dx mA
 ne:dx≠x
theorem lookIn_ns {h:Heap}{dx:Addr}{mA:Str→Option Value}(n:h.Ns1 dx mA):∃od,h.get? dx=some od∧∀name,PySem.W.lookIn name od=some (mA name):=by
 obtain⟨o,es,ep,ho,hd,hk,_,hm⟩:=n
 refine⟨o,ho,fun name=>?_⟩
 have e:=hm name
 unfold nsFind findBy at e
 rw[←Array.find?_toList]at e
 unfold PySem.W.lookIn
 rw[hd]
 dsimp only
 split
 ·rename_i y q
  rw[q]at e
  exact congrArg some e
 ·rename_i q
  rw[q]at e
  have a:es.toList.any (·.refKey)=false:=by
   rw[List.any_eq_false]
   intro y hy
   obtain⟨z,t,hkey⟩:=hk y (Array.mem_toList_iff.mp hy)
   simp[DictEntry.refKey,hkey]
  have a':¬es.toList.any (·.refKey)=true:=by rw[a];exact Bool.false_ne_true
  rw[if_neg a']
  exact congrArg some e
theorem ObjM.look {h:Heap}{x dx C:Addr}{mA:Str→Option Value}(I:ObjM h x dx C mA):∃od,PySem.W.InstAt h x (PySem.W.instObj C dx) C (some od)∧∀name,PySem.W.lookIn name od=some (mA name) :=
 let ⟨od,ho,hl⟩:=lookIn_ns I.ns
 ⟨od,⟨I.obj,rfl,rfl,ho⟩,hl⟩
section
variable {prog:Program}{w:World}{A:Around}{E:Value→Shared→Prop}{s:Shared}{K:PySem.W.Frag}{x dx C f:Addr}{mA:Str→Option Value}{name:Str}{v:Value}
theorem get_map {expr:Bool}{Q:Value→Shared→Prop}(X:K.In s.heap)(I:ObjM s.heap x dx C mA)(hg:PySem.W.plainGet K C name=true)(hh:PySem.W.hasDictIn K C=true)
  (ha:PySem.W.findIn K (.ref C) name=some none)(hv:mA name=some v)(hv':PySem.W.handedIn v=true)(h:Q v { s with toks:=s.toks+1 }) :
  wpAny (model prog w) A (getAttr (.ref x) name expr) Q E s:=by
 obtain⟨od,J,hl⟩:=I.look
 exact PySem.W.get_value X J (PySem.W.plainGet_of hg).1 (PySem.W.findObj_own hh ha rfl (by rw[hl,hv])) hv' h
theorem get_meth {pl:Sem Bool}{Q:Value×List Value→Shared→Prop}(X:K.In s.heap)(I:ObjM s.heap x dx C mA)(hg:PySem.W.plainGet K C name=true)
  (hf:PySem.W.findIn K (.ref C) name=some (some (.ref f)))(ht:PySem.W.isFn K (.ref f)=true)(hv:mA name=none)(h:Q (.ref f,[.ref x]) s) :
  wpAny (model prog w) A (getMethod (.ref x) name pl) Q E s:=by
 obtain⟨od,J,hl⟩:=I.look
 exact PySem.W.method_fn X J (PySem.W.plainGet_of hg).1 (PySem.W.plainGet_of hg).2 hf (beq_iff_eq.mp ht) (by show(PySem.W.lookIn name od).map (·.isSome)=some false;rw[hl,hv];rfl) h
theorem set_map {ns:List Str}{Q:Unit→Shared→Prop}(X:K.In s.heap)(I:ObjM s.heap x dx C mA)
  (hs:PySem.W.findIn K (.ref C) "__setattr__"=some (some (.builtin "object.__setattr__")))(hp:PySem.W.plainOver K C=true)(ht:PySem.W.takerIn K C name=some none)(hh:PySem.W.hasDictIn K C=true)
  (hw:PySem.Within mA ns)(hsz:ns.length≤sizeLine)
  (h:∀h',ObjM h' x dx C (fun y=>if y=name then some v else mA y)→Heap.SameBut dx s.heap h'→Q () { s with heap:=h',toks:=s.toks+2 }) :
  wpAny (model prog w) A (setAttr (.ref x) name v) Q E s:=by
 obtain⟨od,J,hl⟩:=I.look
 refine PySem.W.set_plain X J hs (PySem.W.osa_open (s:={ s with toks:=s.toks+1 }) (r:=none) X J hp ht fun b=>?_)
 obtain⟨cd,hc,hd'⟩:=PySem.W.any_some hh
 have hx:s.heap.get? x=some ⟨.ref C,some dx,.plain,#[]⟩:=I.obj
 refine wpAny_bind (wpAny_pure (wpAny_bind (wpAny_bind (wpAny_loadPart hx (wpAny_bind (PySem.W.Looks.here (s:={ s with toks:=s.toks+1 }) (PySem.W.looks_clsIn X hc) ?_))))))
 rw[hd']
 refine wpAny_pure (a:=some dx) (wpAny_bind (wpAny_pure (wpAny_bind ?_)))
 refine wpAny_nsSet1 (s:={ s with toks:=s.toks+1 }) I.ns fun h' hn2 hs2=>?_
 obtain⟨oD,esD,epD,hoD,hdD,hcD⟩:=hn2.count (PySem.Within.cons name v hw)
 refine wpAny_bind (wpAny_lookBehind hoD (by rw[hdD];exact pastItsLine_dict (Nat.le_trans hcD (by rw[List.length_cons];omega))) ?_)
 exact wpAny_pure (h _ ⟨(hs2.2 _ (Ne.symm I.ne)).trans I.obj,hn2,I.ne⟩ hs2)
theorem make_map {R:Result→Shared→Prop}{vs:List Value}{kw:List (Str×Value)}(X:K.In s.heap)(hm:PySem.W.makesIn K C=true)
  (hi:PySem.W.findIn K (.ref C) "__init__"=some (some (.ref f)))(hf:PySem.W.typeIn K (.ref f)=some (.type "function"))
  (h:codeAny (model prog w) (A.under (.builtin "type.__call__" ⟨.ref C::vs,kw⟩)) (.call (.ref f) ⟨.ref (s.heap.objs.size+1)::vs,kw⟩) (PySem.W.InitBack (s.heap.objs.size+1) R)
   { s with heap:=(s.heap.push PySem.W.emptyDict).push (PySem.W.instObj C s.heap.objs.size) }) :
  codeAny (model prog w) A (.call (.ref C) ⟨vs,kw⟩) R s:=by
 obtain⟨hh,g,d,t,os⟩:=s
 exact PySem.W.make_core (PySem.W.makes_of X hm) (PySem.W.looks_findIn X hi) (fun self=>PySem.W.bind_fn X self hf) (.inl rfl) h
end
noncomputable def putF (f:Str)(v:V):List (Str×V)→List (Str×V)
 | []=>[(f,v)]
 |(g,x)::r=>if g=f then (g,v)::r else (g,x)::putF f v r
theorem lookup_putF (f g:Str)(v:V):∀fs:List (Str×V),(putF f v fs).lookup g=if g=f then some v else fs.lookup g
 | []=>by
  show List.lookup g [(f,v)]=_
  by_cases h:g=f
  ·have hb:(g==f)=true:=beq_iff_eq.mpr h
   simp only[List.lookup,hb,if_pos h]
  ·have hb:(g==f)=false:=beq_eq_false_iff_ne.mpr h
   simp only[List.lookup,hb,if_neg h]
 |(k,x)::r=>by
  have ih:=lookup_putF f g v r
  rw[show putF f v ((k,x)::r)=(if k=f then (k,v)::r else (k,x)::putF f v r)from rfl]
  by_cases hk:k=f
  ·rw[if_pos hk]
   by_cases h:g=k
   ·have hb:(g==k)=true:=beq_iff_eq.mpr h
    simp only[List.lookup,hb,if_pos (h.trans hk)]
   ·have hb:(g==k)=false:=beq_eq_false_iff_ne.mpr h
    simp only[List.lookup,hb,if_neg (fun e:g=f=>h (e.trans hk.symm))]
  ·rw[if_neg hk]
   by_cases h:g=k
   ·have hb:(g==k)=true:=beq_iff_eq.mpr h
    simp only[List.lookup,hb,if_neg (fun e:g=f=>hk (h.symm.trans e))]
   ·have hb:(g==k)=false:=beq_eq_false_iff_ne.mpr h
    simp only[List.lookup,hb]
    exact ih
theorem keys_putF (f:Str)(v:V):∀fs:List (Str×V),f∈(putF f v fs).map (·.1)∧∀g,g∈fs.map (·.1)→g∈(putF f v fs).map (·.1)
 | []=>⟨by simp[putF],fun g h=>by simp at h⟩
 |(k,x)::r=>by
  obtain⟨i1,i2⟩:=keys_putF f v r
  rw[show putF f v ((k,x)::r)=(if k=f then (k,v)::r else (k,x)::putF f v r)from rfl]
  by_cases hk:k=f
  ·rw[if_pos hk]
   subst hk
   exact⟨by simp,fun g h=>by simpa using h⟩
  ·rw[if_neg hk]
   refine⟨?_,fun g h=>?_⟩
   ·rw[List.map_cons]
    exact List.mem_cons_of_mem _ i1
   ·rw[List.map_cons]at h ⊢
    rcases List.mem_cons.mp h with e|e
    ·exact List.mem_cons.mpr (.inl e)
    ·exact List.mem_cons_of_mem _ (i2 g e)
theorem length_putF (f:Str)(v:V):∀fs:List (Str×V),(putF f v fs).length≤fs.length+1
 | []=>by simp[putF]
 |(k,x)::r=>by
  have ih:=length_putF f v r
  rw[show putF f v ((k,x)::r)=(if k=f then (k,v)::r else (k,x)::putF f v r)from rfl]
  by_cases hk:k=f
  ·rw[if_pos hk,List.length_cons,List.length_cons];omega
  ·rw[if_neg hk,List.length_cons,List.length_cons];omega
theorem RelO.some_of {v:V}{o:Option Value}(r:RelO (some v) o):∃u,o=some u∧RelV v u:=by
 cases o with
 | none=>exact(show False from r).elim
 | some u=>exact⟨u,rfl,r⟩
theorem RelO.none_of {o:Option Value}(r:RelO none o):o=none:=by
 cases o with
 | none=>rfl
 | some u=>exact(show False from r).elim
theorem handed_of {v:V}{u:Value}(r:RelV v u):PySem.W.handedIn u=true:=by
 cases v with
 | non=>cases (show u=Value.none from r);rfl
 | bl b=>cases (show u=Value.bool b from r);rfl
 | int i=>obtain⟨t,e⟩:=(show ∃t,u=Value.int i t from r);cases e;rfl
 | str x=>obtain⟨t,e⟩:=(show ∃t,u=Value.str x t from r);cases e;rfl
 | byt b=>obtain⟨t,e⟩:=(show ∃t,u=Value.bytes b t from r);cases e;rfl
 | flt b=>obtain⟨t,e⟩:=(show ∃t,u=Value.float b t from r);cases e;rfl
 | ref a=>cases (show u=Value.ref a from r);rfl
 | ty n=>cases (show u=Value.type n from r);rfl
section
variable {P:Program}{w:World}{H H':Hp}{h h':Heap}{a C dx:Addr}{fs fs':List (Str×V)}
theorem ins_get (hok:HOk P w H h)(e:H a=some (.ins C dx fs)):∃mA,ObjM h a dx C mA∧(∀f,RelO (fs.lookup f) (mA f))∧PySem.Within mA (fs.map (·.1))∧fs.length≤1000∧H dx=some (.own a):=by
 obtain⟨d,z,ne,ob,mA,n,r,q⟩:=(show ObjOk P w H h a (.ins C dx fs)from hok a _ e)
 exact⟨mA,⟨ob,n,ne⟩,r,q,z,d⟩
end
structure Cls (K:PySem.W.Frag)(C:Addr):Prop where
 pg:PySem.W.plainGet K C Str.empty=true
 hd:PySem.W.hasDictIn K C=true
 po:PySem.W.plainOver K C=true
 sa:PySem.W.findIn K (.ref C) "__setattr__"=some (some (.builtin "object.__setattr__"))
theorem Cls.get {K:PySem.W.Frag}{C:Addr}(c:Cls K C)(f:Str):PySem.W.plainGet K C f=true:=c.pg
def NoAttr (K:PySem.W.Frag)(C:Addr)(f:Str):Prop:=PySem.W.findIn K (.ref C) f=some none
theorem NoAttr.taker {K:PySem.W.Frag}{C:Addr}{f:Str}(n:NoAttr K C f):PySem.W.takerIn K C f=some none:=by
 unfold PySem.W.takerIn
 rw[show PySem.W.findIn K (.ref C) f=some none from n]
 rfl
structure Con (K:PySem.W.Frag)(C:Addr)(f:Str)(v:V)(u:Value):Prop where
 at_:PySem.W.findIn K (.ref C) f=some (some u)
 rel:RelV v u
 get:PySem.W.specialIn K u "__get__"=some none
 cp:PySem.W.copiedNames.contains f=false
structure Meth (K:PySem.W.Frag)(C:Addr)(m:Str)(f:Addr):Prop where
 at_:PySem.W.findIn K (.ref C) m=some (some (.ref f))
 fn:PySem.W.isFn K (.ref f)=true
 kp:PySem.W.keepIn K (.ref f)=true
section
variable {X:Cx}{pins:List (Addr×Obj)}{σ:St}{H:Hp}{s:Shared}{a C dx:Addr}{fs:List (Str×V)}{f:Str}{v:V}{A:Around}{E:Value→Shared→Prop}
theorem getattr_ok {b:Bool}{Q:Value→Shared→Prop}(I:Inv X pins σ H s)(e:H a=some (.ins C dx fs))(c:Cls X.K C)(n:NoAttr X.K C f)(l:fs.lookup f=some v)
  (h:∀u s',Inv X pins σ H s'→RelV v u→Q u s'):wpAny (model X.prog X.w) A (getAttr (.ref a) f b) Q E s:=by
 obtain⟨mA,O,r,_,_,_⟩:=ins_get I.hok e
 obtain⟨u,hu,ru⟩:=RelO.some_of (v:=v) (o:=mA f) (by rw[←l];exact r f)
 exact get_map I.kIn O (c.get f) c.hd n hu (handed_of ru) (h u _ (I.tok _) ru)
theorem getmeth_ok {m:Str}{g:Addr}{pl:Sem Bool}{Q:Value×List Value→Shared→Prop}(I:Inv X pins σ H s)(e:H a=some (.ins C dx fs))(c:Cls X.K C)(k:Meth X.K C m g)(l:fs.lookup m=none)
  (h:Q (.ref g,[.ref a]) s):wpAny (model X.prog X.w) A (getMethod (.ref a) m pl) Q E s:=by
 obtain⟨mA,O,r,_,_,_⟩:=ins_get I.hok e
 have hn:mA m=none:=RelO.none_of (by rw[←l];exact r m)
 exact get_meth I.kIn O (c.get m) k.at_ k.fn hn h
theorem setattr_ok {y:V}{u:Value}{Q:Unit→Shared→Prop}(I:Inv X pins σ H s)(e:H a=some (.ins C dx fs))(c:Cls X.K C)(n:NoAttr X.K C f)(hl:fs.length<1000)(ry:RelV y u)
  (h:∀s',Inv X pins σ (upd H a (.ins C dx (putF f y fs))) s'→Q () s'):wpAny (model X.prog X.w) A (setAttr (.ref a) f u) Q E s:=by
 obtain⟨mA,O,r,wi,_,ho⟩:=ins_get I.hok e
 have hz:(fs.map (·.1)).length≤sizeLine:=by rw[List.length_map,sizeLine_eq];omega
 refine set_map I.kIn O c.sa c.po n.taker c.hd wi hz fun h' O' sb=>h _ ?_
 have hd:∃o,h'.get? dx=some o:=let ⟨o,_,_,e',_⟩:=O'.ns;⟨o,e'⟩
 refine I.write (x:=a) (e:=dx) (by rw[e];exact True.intro) (.inr ho) (fun b q hb z=>(sb.2 b hb).trans z) hd ?_
 refine⟨by rw[upd_ne O.ne];exact ho,?_,O.ne,O'.obj,_,O'.ns,fun g=>?_,fun g hg=>?_⟩
 ·have:=length_putF f y fs;omega
 ·show RelO ((putF f y fs).lookup g) (if g=f then some u else mA g)
  rw[lookup_putF]
  by_cases q:g=f
  ·rw[if_pos q,if_pos q];exact ry
  ·rw[if_neg q,if_neg q];exact r g
 ·by_cases q:g=f
  ·rw[q];exact(keys_putF f y fs).1
  ·refine(keys_putF f y fs).2 g (wi g fun z=>hg ?_)
   show(if g=f then some u else mA g)=none
   rw[if_neg q];exact z
theorem Inv.made (I:Inv X pins σ H s):Inv X pins σ (upd (upd H s.heap.objs.size (.own (s.heap.objs.size+1))) (s.heap.objs.size+1) (.ins C s.heap.objs.size []))
  { s with heap:=(s.heap.push PySem.W.emptyDict).push (PySem.W.instObj C s.heap.objs.size) }:=by
 have e1:(s.heap.push PySem.W.emptyDict).get? s.heap.objs.size=some PySem.W.emptyDict:=Heap.get?_push_size s.heap rfl
 have e2:((s.heap.push PySem.W.emptyDict).push (PySem.W.instObj C s.heap.objs.size)).get? (s.heap.objs.size+1)=some (PySem.W.instObj C s.heap.objs.size):=by
  have:=Heap.get?_push_size (s.heap.push PySem.W.emptyDict) (o:=PySem.W.instObj C s.heap.objs.size) rfl
  rwa[Heap.size_push]at this
 have e3:(s.heap.push PySem.W.emptyDict).Ns s.heap.objs.size (fun _=>none):=⟨PySem.W.emptyDict,#[],_,e1,rfl,(fun e he=>absurd he (by simp)),fun _=>rfl⟩
 have I1:=I.laid (a:=s.heap.objs.size) (o:=.own (s.heap.objs.size+1)) (h':=s.heap.push PySem.W.emptyDict) (t':=s.toks) (fun b u q=>Heap.get?_push_of_some _ q) (Nat.le_refl _) ⟨_,e1⟩
 refine I1.laid (a:=s.heap.objs.size+1) (o:=.ins C s.heap.objs.size []) (t':=s.toks) (fun b u q=>Heap.get?_push_of_some _ q) (Nat.le_of_eq (Heap.size_push _ _)) ?_
 have ne:s.heap.objs.size≠s.heap.objs.size+1:=Nat.ne_of_lt (Nat.lt_succ_self _)
 refine⟨by rw[upd_ne ne,upd_same],Nat.zero_le _,ne,e2,fun _=>none,(Heap.Ns1.of_empty e3).at fun o q=>Heap.get?_push_of_some _ q,fun _=>True.intro,fun y hy=>absurd rfl hy⟩
theorem attr_of {prog:Program}{w:World}{env:Env}{e:Expr}{f:Str}{pos:Pos}{s:Shared}{Q:Value→Shared→Prop}(hb:attributeBase e f env (eval e env)=eval e env)
  (h:wpAny (model prog w) A (eval e env) (fun o s₁=>wpAny (model prog w) A (getAttr o f true) Q E s₁) E s):wpAny (model prog w) A (eval (.Attribute e f pos) env) Q E s :=
 Attribute_any_ h (by rw[arm_eval_Attribute,hb])
end
def tFld (K:PySem.W.Frag)(ta:TE)(f:Str):TE:=fun σ H Q=>ta σ H fun x H1=>∃a C dx fs v,x=.ref a∧H1 a=some (.ins C dx fs)∧Cls K C∧NoAttr K C f∧fs.lookup f=some v∧Q v H1
def sFld (K:PySem.W.Frag)(ta tv:TE)(f:Str):TS:=fun D σ H=>tv σ H fun y H1=>ta σ H1 fun x H2=>∃a C dx fs,x=.ref a∧H2 a=some (.ins C dx fs)∧Cls K C∧NoAttr K C f∧fs.length<1000 ∧
 D.nx σ (upd H2 a (.ins C dx (putF f y fs)))
section
variable {X:Cx}{o e value:Expr}{f:Str}{pos pos' tpos:Pos}{ta tv:TE}
theorem pe_fld (he:PE X e ta)(hb:attributeBase e f X.env (eval e X.env)=eval e X.env):PE X (.Attribute e f pos) (tFld X.K ta f):=by
 intro pins s σ H Q I h
 refine attr_of hb (thn (he pins s σ H _ I h) fun u s1 ⟨x,H1,I1,rx,a,C,dx,fs,v,ex,ea,c,n,l,q⟩=>?_)
 subst ex
 obtain rfl:u=Value.ref a:=rx
 exact getattr_ok I1 ea c n l fun u' s2 I2 ru=>⟨v,H1,I2,ru,q⟩
theorem ps_fld (ha:PE X o ta)(hv:PE X value tv)(hs:swapsWith value (some (.Attribute o f pos')) pos.line X.env=pure false):PS X (.Assign [.Attribute o f pos'] value pos) (sFld X.K ta tv f):=by
 intro pins s σ H D I h
 refine plainObj_wpAny_Assign_Attribute (thn (hv pins s σ H _ I h) fun u s1 ⟨y,H1,I1,ry,q⟩=>thn (ha pins s1 σ H1 _ I1 q) fun ov s2 ⟨x,H2,I2,rx,a,C,dx,fs,ex,ea,c,n,l,q2⟩=>?_) hs
 subst ex
 obtain rfl:ov=Value.ref a:=rx
 exact setattr_ok I2 ea c n l ry fun s3 I3=>⟨σ,_,I3,q2⟩
end
section
variable {X:Cx}{pins:List (Addr×Obj)}{σ:St}{H:Hp}{s:Shared}{A:Around}{E:Value→Shared→Prop}{Q:Value→Shared→Prop}{c:Value}{b:Bool}
inductive TyOf (K:PySem.W.Frag)(H:Hp):V→Value→Prop where
 | non:TyOf K H .non (.type "NoneType")
 | bl (x:Bool):TyOf K H (.bl x) (.type "bool")
 | int (i:Int):TyOf K H (.int i) (.type "int")
 | str (x:Str):TyOf K H (.str x) (.type "str")
 | flt (x:UInt64):TyOf K H (.flt x) (.type "float")
 | lst {a:Addr}{xs:List V}(e:H a=some (.lst xs)):TyOf K H (.ref a) (.type "list")
 | frz {a:Addr}{o:Obj}{xs:List V}(e:H a=some (.frz o (.lst xs))):TyOf K H (.ref a) (.type "list")
 | tup {a:Addr}{xs:List V}(e:H a=some (.tup xs)):TyOf K H (.ref a) (.type "tuple")
 | dK {a:Addr}{kvs:List (Key×V)}(e:H a=some (.dK kvs)):TyOf K H (.ref a) (.type "dict")
 | dT {a:Addr}{kvs:List (List Key×V)}(e:H a=some (.dT kvs)):TyOf K H (.ref a) (.type "dict")
 | ins {a C dx:Addr}{fs:List (Str×V)}(e:H a=some (.ins C dx fs))(cl:Cls K C)(ha:PySem.W.findIn K (.ref C) "__class__"=some (some (.builtin "object.__class__")))
   (hn:PySem.W.specialIn K (.builtin "object.__class__") "__get__"=some (some (.builtin "getset_descriptor.__get__")))(htk:PySem.W.takesIn K (.builtin "object.__class__")=some true)
   (hm:PySem.W.mroIn K C (.type "object")=some true):TyOf K H (.ref a) (.ref C)
end
end L2
namespace L2
open PySem PySem.Spec PyProof.Rows
structure Room (k:Nat)(A:Around):Prop where
 hd:A.handled=none
 dp:A.depth+3*k+5<recursionLimit
 un:A.units+16*k+200<cLine
theorem Room.mono {j k:Nat}{A:Around}(r:Room k A)(h:j≤k):Room j A:=⟨r.hd,by have:=r.dp;omega,by have:=r.un;omega⟩
theorem Room.deeper {k:Nat}{A:Around}(r:Room (k+1) A)(env:Env):Room k (A.deeper env) :=
 ⟨r.hd,by have:=r.dp;show A.depth+1+3*k+5<_;omega,by have:=r.un;show A.units+3+16*k+200<_;omega⟩
theorem make_depth {A:Around}{C:Addr}{us:List Value}{kw:List (Str×Value)}:(A.under (.builtin "type.__call__" ⟨.ref C::us,kw⟩)).depth=A.depth+1:=by
 first|rfl|simp[Around.under,Code.weight,Code.isCreation,Code.isGuard,Code.isCaller,Code.frames,Code.isFrame,guardIds]
theorem make_units {A:Around}{C:Addr}{us:List Value}{kw:List (Str×Value)}:(A.under (.builtin "type.__call__" ⟨.ref C::us,kw⟩)).units=A.units+1:=by
 first|rfl|simp[Around.under,Code.cUnits,Code.frames,Code.isFrame]
theorem Room.make {k:Nat}{A:Around}(r:Room (k+1) A)(C:Addr)(us:List Value)(kw:List (Str×Value)):Room k (A.under (.builtin "type.__call__" ⟨.ref C::us,kw⟩)) :=
 ⟨r.hd,by have:=r.dp;rw[make_depth];omega,by have:=r.un;rw[make_units];omega⟩
theorem Room.depth {k:Nat}{A:Around}(r:Room k A):A.depth<recursionLimit:=by have:=r.dp;omega
theorem Room.units {k:Nat}{A:Around}(r:Room k A):A.units+64<cLine:=by have:=r.un;omega
noncomputable def tNil:TA:=fun _ H Q=>Q [] H
noncomputable def tCons (ta:TE)(tr:TA):TA:=fun σ H Q=>ta σ H fun x H1=>tr σ H1 fun xs H2=>Q (x::xs) H2
section
variable {X:Cx}{e:Expr}{es:List Expr}{te:TE}{t:TA}{pos:Pos}
theorem pa_nil:PA X [] tNil:=fun _ _ _ _ H Q I h=>Calls.spliced_nil ⟨[],H,I,.nil,h⟩
theorem pa_cons (ha:PE X e te)(hr:PA X es t)(hs:starEach (e::es) X.env=(false,eval e X.env)::starEach es X.env:=by rfl):PA X (e::es) (tCons te t):=by
 intro pos pins s σ H Q I h
 rw[hs]
 show wpAny _ _ (spliced ((false,eval e X.env)::backTo pos (starEach es X.env))) _ _ s
 refine Calls.spliced_cons (thn (ha pins s σ H _ I h) fun u s1 ⟨x,H1,I1,r1,q1⟩=>?_)
 exact thn (hr pos pins s1 σ H1 _ I1 q1) fun us s2 ⟨xs,H2,I2,r2,q2⟩=>⟨x::xs,H2,I2,.cons r1 r2,q2⟩
def tTup (t:TA):TE:=fun σ H Q=>t σ H fun xs H1=>xs.length≤sizeLine∧∀p,H1 p=none→Q (.ref p) (upd H1 p (.tup xs))
def tLst (t:TA):TE:=fun σ H Q=>t σ H fun xs H1=>xs.length≤sizeLine∧∀p,H1 p=none→Q (.ref p) (upd H1 p (.lst xs))
theorem pe_tup {x1}(h:PA X es t):PE X (.Tuple es x1 pos) (tTup t):=by
 intro pins s σ H Q I hq
 refine wpAny_Tuple_spliced (thn (h pos pins s σ H _ I hq) fun us s1 ⟨xs,H1,I1,r,z,q⟩=>⟨by rw[←r.length];exact z,?_⟩)
 have hf:H1 s1.heap.objs.size=none:=I1.hok.fresh (Nat.le_refl _)
 refine⟨.ref s1.heap.objs.size,upd H1 s1.heap.objs.size (.tup xs),I1.laid (t':=s1.toks) (fun b u e=>Heap.get?_push_of_some _ e) (Nat.le_refl _) ?_,rfl,q _ hf⟩
 exact⟨z,us,r,⟨_,Heap.get?_push_size _ rfl,rfl,_,rfl⟩,_,Heap.get?_push_size _ rfl,rfl⟩
theorem pe_lst (h:PA X es t):PE X (.List es pos) (tLst t):=by
 intro pins s σ H Q I hq
 refine wpAny_List_spliced (thn (h pos pins s σ H _ I hq) fun us s1 ⟨xs,H1,I1,r,z,q⟩=>⟨by rw[←r.length];exact z,?_⟩)
 have hf:H1 s1.heap.objs.size=none:=I1.hok.fresh (Nat.le_refl _)
 refine⟨.ref s1.heap.objs.size,upd H1 s1.heap.objs.size (.lst xs),I1.laid (t':=s1.toks) (fun b u e=>Heap.get?_push_of_some _ e) (Nat.le_refl _) ?_,rfl,q _ hf⟩
 exact⟨z,us,0,r,Heap.get?_push_size _ rfl⟩
end
noncomputable abbrev Sp:=List V→Hp→VK→XK→Prop
noncomputable abbrev CXT:=List Env→Hp→Shared→XK→Value→Shared→Prop
structure Env0 (P:Program)(w:World)(K:PySem.W.Frag)(mg:Str→Option Value)(base:Heap)(A:Around)(outer:List Env)(s:Shared)(H:Hp):Prop where
 frames:A.frames=some outer
 mod:Mod K mg base
 bs:∀b o,base.get? b=some o→s.heap.get? b=some o∧H b=none
 bsz:base.objs.size≤s.heap.objs.size
 funs:s.heap.FunFrames base outer
 frf:∀b∈frs outer,H b=none
 hok:HOk P w H s.heap
 bare:AllBare s.gens
def CE (outer:List Env)(P:Program)(w:World)(H:Hp)(s:Shared)(Q:VK)(u:Value)(s':Shared):Prop :=
 ∃v H',s'.os=s.os∧AllBare s'.gens∧Un (frs outer) [] H H' s.heap s'.heap∧HOk P w H' s'.heap∧RelV v u∧Q v H'
def CR (CX:CXT)(outer:List Env)(P:Program)(w:World)(H:Hp)(s:Shared)(Q:VK)(E:XK)(r:Result)(s':Shared):Prop :=
 match r with
 |.ok (.ret u)=>CE outer P w H s Q u s'
 |.ok _=>False
 |.error e=>CX outer H s E e s'
structure FnOk (P:Program)(w:World)(K:PySem.W.Frag)(mg:Str→Option Value)(base:Heap)(CX:CXT)(k:Nat)(f:Addr)(fd:FuncData)(ps:List Str)(sp:Sp):Prop where
 len:∀vs H Q E,sp vs H Q E→vs.length=ps.length
 run:∀(A:Around)(outer:List Env)(s:Shared)(H:Hp)(args:Args)(us:List Value)(vs:List V)(Q:VK)(E:XK),Room k A→Env0 P w K mg base A outer s H→BindsTo s fd args (ps.zip us)→Vals vs us→sp vs H Q E →
  codeAny (model P w) A (.call (.ref f) args) (CR CX outer P w H s Q E) s
theorem FnOk.imp {P:Program}{w:World}{K:PySem.W.Frag}{mg:Str→Option Value}{base:Heap}{CX:CXT}{k:Nat}{f:Addr}{fd:FuncData}{ps:List Str}{sp sp':Sp}(F:FnOk P w K mg base CX k f fd ps sp)
  (h:∀vs H Q E,sp' vs H Q E→sp vs H Q E):FnOk P w K mg base CX k f fd ps sp' :=
 ⟨fun vs H Q E q=>F.len vs H Q E (h _ _ _ _ q),fun A outer s H args us vs Q E hr he hb hv hs=>F.run A outer s H args us vs Q E hr he hb hv (h _ _ _ _ hs)⟩
theorem Env0.make {P:Program}{w:World}{K:PySem.W.Frag}{mg:Str→Option Value}{base:Heap}{A:Around}{outer:List Env}{s:Shared}{H:Hp}(e:Env0 P w K mg base A outer s H)(C:Addr)(us:List Value)(kw:List (Str×Value)) :
  Env0 P w K mg base (A.under (.builtin "type.__call__" ⟨.ref C::us,kw⟩)) outer s H:=⟨by first|exact e.frames|(simpa[Around.under,Code.envs,Code.isFrame,pushEnvs]using e.frames),e.mod,e.bs,e.bsz,e.funs,e.frf,e.hok,e.bare⟩
section
variable {X:Cx}{pins:List (Addr×Obj)}{σ:St}{H:Hp}{s s':Shared}
theorem Inv.env0 (I:Inv X pins σ H s):Env0 X.prog X.w X.K X.mg X.base X.A X.stack s H :=
 ⟨I.ok.frames,I.ok.mod,I.bs,Nat.le_trans I.ok.bsz I.sz,I.stack,I.stkFree,I.hok,I.bare⟩
theorem Inv.after {Q:VK}{u:Value}(I:Inv X pins σ H s)(h:CE X.stack X.prog X.w H s Q u s'):EP X pins σ Q u s':=by
 obtain⟨v,H',os,bare,un,hok,r,q⟩:=h
 obtain⟨hh,g,d,t,os'⟩:=s'
 obtain rfl:os'=s.os:=os
 exact⟨v,H',I.call (h':=hh) (g':=g) (d':=d) (t':=t) (ch:=[]) un hok bare (fun b z=>absurd z (by simp)),r,q⟩
end
def tCall (sp:Sp)(dvs:List V)(E:XK)(t:TA):TE:=fun σ H Q=>t σ H fun vs H1=>sp (vs++dvs) H1 Q E
def tMeth (C:Addr)(m:Str)(sp:Sp)(dvs:List V)(E:XK)(ta:TE)(t:TA):TE:=fun σ H Q=>ta σ H fun x H1=>∃a dx fs,x=.ref a∧H1 a=some (.ins C dx fs)∧fs.lookup m=none ∧
 t σ H1 fun vs H2=>sp (x::(vs++dvs)) H2 Q E
def tMake (C:Addr)(sp:Sp)(dvs:List V)(E:XK)(t:TA):TE:=fun σ H Q=>t σ H fun vs H1=>∀x dx,H1 x=none→H1 dx=none→dx≠x →
 sp (.ref x::(vs++dvs)) (upd (upd H1 dx (.own x)) x (.ins C dx [])) (fun v H2=>v=.non∧Q (.ref x) H2) E
def Binds (K:PySem.W.Frag)(fd:FuncData)(ps:List Str)(ds:List Value):Prop :=
 ∀(s:Shared)(us:List Value),K.In s.heap→(us++ds).length=ps.length→BindsTo s fd ⟨us,[]⟩ (ps.zip (us++ds))
theorem Binds.all {K:PySem.W.Frag}{fd:FuncData}{ps:List Str}(h:∀us:List Value,us.length=ps.length→bindArgs fd ⟨us,[]⟩=pure (ps.zip us)):Binds K fd ps []:=fun s us _ hl=>by
 rw[List.append_nil]at hl ⊢
 exact .of_eq (h us hl)
def Passes (CX:CXT)(X:Cx)(E:XK):Prop:=∀(pins:List (Addr×Obj))(σ:St)(H:Hp)(s:Shared)(e:Value)(s':Shared),Inv X pins σ H s→CX X.stack H s E e s'→X.xe e s'
section
variable {X:Cx}{CX:CXT}{k:Nat}{f C:Addr}{fd:FuncData}{ps:List Str}{sp:Sp}{dvs:List V}{ds:List Value}{E:XK}{x m:Str}{p pos apos:Pos}{e o:Expr}{es:List Expr}{ta:TE}{t:TA}
theorem run_fn {pins:List (Addr×Obj)}{σ:St}{H:Hp}{s:Shared}{Q:VK}{us:List Value}{vs:List V}(F:FnOk X.prog X.w X.K X.mg X.base CX k f fd ps sp)(hr:Room k X.A)(hb:Binds X.K fd ps ds)(hd:Vals dvs ds)(hx:Passes CX X E)
  (I:Inv X pins σ H s)(r:Vals vs us)(h:sp (vs++dvs) H Q E):wpAny (model X.prog X.w) X.A (call (.ref f) us) (EP X pins σ Q) X.xe s:=by
 have r2:Vals (vs++dvs) (us++ds):=r.append hd
 have hl:(us++ds).length=ps.length:=by rw[←r2.length];exact F.len _ _ _ _ h
 refine wpAny_call (codeAny_mono (F.run X.A X.stack s H ⟨us,[]⟩ (us++ds) (vs++dvs) Q E hr I.env0 (hb s us I.kIn hl) r2 h) fun r s' hq=>?_)
 cases r with
 | error e=>exact hx pins σ H s e s' I hq
 | ok fl =>
  cases fl with
  | ret u=>exact I.after hq
  | next=>exact False.elim hq
  | brk=>exact False.elim hq
  | cont=>exact False.elim hq
theorem pe_call (F:FnOk X.prog X.w X.K X.mg X.base CX k f fd ps sp)(hr:Room k X.A)(hg:Gl X x)(hm:X.mg x=some (.ref f))(hk:PySem.W.keepIn X.K (.ref f)=true)(hb:Binds X.K fd ps ds)(hd:Vals dvs ds)(hx:Passes CX X E)
  (ha:PA X (e::es) t)(hdb:(x==("__debug__" : Str))=false:=by decide)(he:starEach (e::es) X.env=(false,eval e X.env)::starEach es X.env:=by rfl)(hpl:(backTo pos (starEach es X.env)).any (·.1)=false:=by rfl) :
  PE X (.Call (.Name x p) (e::es) [] pos) (tCall sp dvs E t):=by
 intro pins s σ H Q I h
 refine wpAny_Call_Name_kw (ld_glob I hg hm ?_ hdb)
 refine PySem.W.callWith_K (h₀:=X.base) I.ok.mod.kin hk (thn (ha pos pins s σ H _ I h) fun us s1 ⟨vs,H1,I1,r,q⟩=>⟨I1.kIn,?_⟩) he hpl
 exact run_fn F hr hb hd hx I1 r q
theorem pe_meth {pl:Sem Bool}(he:PE X o ta)(c:Cls X.K C)(hm:Meth X.K C m f)(F:FnOk X.prog X.w X.K X.mg X.base CX k f fd ps sp)(hr:Room k X.A)(hb:Binds X.K fd ps ds)(hd:Vals dvs ds)(hx:Passes CX X E)(ha:PA X (e::es) t)
  (hst:starEach (e::es) X.env=(false,eval e X.env)::starEach es X.env:=by rfl)(hpl:(backTo pos (starEach es X.env)).any (·.1)=false:=by rfl)
  (ht:eval (.Call (.Attribute o m apos) (e::es) [] pos) X.env=(do
   let ov ←eval o X.env
   standAt apos.atName
   let (f,first) ←holding [ov] (getMethod ov m pl)
   callWith pos f first (backTo pos (starEach (e::es) X.env)) (backToKw pos (keywordEach [] X.env))):=by rfl) :
  PE X (.Call (.Attribute o m apos) (e::es) [] pos) (tMeth C m sp dvs E ta t):=by
 intro pins s σ H Q I h
 refine PySem.W.methodCall_KW (pl:=pl) (thn (he pins s σ H _ I h) fun u s1 ⟨x,H1,I1,rx,a,dx,fs,ex,ea,l,q⟩=>?_) ht
 subst ex
 obtain rfl:u=Value.ref a:=rx
 refine getmeth_ok I1 ea c hm l ?_
 refine PySem.W.callWith_K (first:=[.ref a]) (h₀:=X.base) I.ok.mod.kin hm.kp (thn (ha pos pins s1 σ H1 _ I1 q) fun us s2 ⟨vs,H2,I2,r,q2⟩=>⟨I2.kIn,?_⟩) hst hpl
 exact run_fn (us:=.ref a::us) (vs:=.ref a::vs) F hr hb hd hx I2 (.cons rfl r) q2
theorem pe_meth0 {pl:Sem Bool}(he:PE X o ta)(c:Cls X.K C)(hm:Meth X.K C m f)(F:FnOk X.prog X.w X.K X.mg X.base CX k f fd ps sp)(hr:Room k X.A)(hb:Binds X.K fd ps ds)(hd:Vals dvs ds)(hx:Passes CX X E)
  (ht:eval (.Call (.Attribute o m apos) [] [] pos) X.env=(do
   let ov ←eval o X.env
   standAt apos.atName
   let (f,first) ←holding [ov] (getMethod ov m pl)
   callWith pos f first (backTo pos (starEach [] X.env)) (backToKw pos (keywordEach [] X.env))):=by rfl) :
  PE X (.Call (.Attribute o m apos) [] [] pos) (tMeth C m sp dvs E ta tNil):=by
 intro pins s σ H Q I h
 refine PySem.W.methodCall_KW (pl:=pl) (thn (he pins s σ H _ I h) fun u s1 ⟨x,H1,I1,rx,a,dx,fs,ex,ea,l,q⟩=>?_) ht
 subst ex
 obtain rfl:u=Value.ref a:=rx
 refine getmeth_ok I1 ea c hm l ?_
 exact PySem.W.callWith_K0 (first:=[.ref a]) I1.kIn hm.kp (run_fn (us:=[.ref a]) (vs:=[.ref a]) F hr hb hd hx I1 (.cons rfl .nil) q)
structure Mk (K:PySem.W.Frag)(C f:Addr):Prop where
 makes:PySem.W.makesIn K C=true
 init:PySem.W.findIn K (.ref C) "__init__"=some (some (.ref f))
 fn:PySem.W.isFn K (.ref f)=true
 kp:PySem.W.keepIn K (.ref C)=true
theorem run_make {pins:List (Addr×Obj)}{σ:St}{H:Hp}{s:Shared}{Q:VK}{us:List Value}{vs:List V}(M:Mk X.K C f)(F:FnOk X.prog X.w X.K X.mg X.base CX k f fd ps sp)(hr:Room (k+1) X.A)(hb:Binds X.K fd ps ds)(hd:Vals dvs ds)
  (hx:Passes CX X E)(I:Inv X pins σ H s)(r:Vals vs us)
  (h:∀x dx,H x=none→H dx=none→dx≠x→sp (.ref x::(vs++dvs)) (upd (upd H dx (.own x)) x (.ins C dx [])) (fun v H2=>v=.non∧Q (.ref x) H2) E) :
  wpAny (model X.prog X.w) X.A (call (.ref C) us) (EP X pins σ Q) X.xe s:=by
 have hq:=h (s.heap.objs.size+1) s.heap.objs.size (I.hok.fresh (Nat.le_succ _)) (I.hok.fresh (Nat.le_refl _)) (Nat.ne_of_lt (Nat.lt_succ_self _))
 have I2:=Inv.made (C:=C) I
 have r2:Vals (V.ref (s.heap.objs.size+1)::(vs++dvs)) (Value.ref (s.heap.objs.size+1)::(us++ds)):=.cons rfl (r.append hd)
 have hl:(Value.ref (s.heap.objs.size+1)::us++ds).length=ps.length:=by
  have e:=r2.length
  rw[F.len _ _ _ _ hq]at e
  exact e.symm
 refine wpAny_call (make_map (f:=f) I.kIn M.makes M.init (beq_iff_eq.mp M.fn) (codeAny_mono (F.run _ X.stack _ _ ⟨Value.ref (s.heap.objs.size+1)::us,[]⟩ (Value.ref (s.heap.objs.size+1)::(us++ds)) _ _ E (hr.make C us [])
  (I2.env0.make C us []) (hb _ (Value.ref (s.heap.objs.size+1)::us) I2.kIn hl) r2 hq) fun r s' hq'=>?_))
 cases r with
 | error e=>exact hx pins σ _ _ e s' I2 hq'
 | ok fl =>
  cases fl with
  | ret u =>
   obtain⟨v,H',I3,rv,ev,q3⟩:=I2.after hq'
   subst ev
   exact⟨rv,⟨V.ref (s.heap.objs.size+1),H',I3,rfl,q3⟩⟩
  | next=>exact False.elim hq'
  | brk=>exact False.elim hq'
  | cont=>exact False.elim hq'
theorem pe_make (M:Mk X.K C f)(F:FnOk X.prog X.w X.K X.mg X.base CX k f fd ps sp)(hr:Room (k+1) X.A)(hg:Gl X x)(hm:X.mg x=some (.ref C))(hb:Binds X.K fd ps ds)(hd:Vals dvs ds)(hx:Passes CX X E)
  (ha:PA X (e::es) t)(hdb:(x==("__debug__" : Str))=false:=by decide)(he:starEach (e::es) X.env=(false,eval e X.env)::starEach es X.env:=by rfl)(hpl:(backTo pos (starEach es X.env)).any (·.1)=false:=by rfl) :
  PE X (.Call (.Name x p) (e::es) [] pos) (tMake C sp dvs E t):=by
 intro pins s σ H Q I h
 refine wpAny_Call_Name_kw (ld_glob I hg hm ?_ hdb)
 refine PySem.W.callWith_K (h₀:=X.base) I.ok.mod.kin M.kp (thn (ha pos pins s σ H _ I h) fun us s1 ⟨vs,H1,I1,r,q⟩=>⟨I1.kIn,?_⟩) he hpl
 exact run_make M F hr hb hd hx I1 r q
end
section
variable {X:Cx}{CX:CXT}{k:Nat}{f C:Addr}{fd:FuncData}{ps ks:List Str}{sp:Sp}{E:XK}{x m:Str}{p pos apos kpos:Pos}{e o:Expr}{es:List Expr}{kws:List Keyword}{te ta:TE}{t tk:TA}{nm:Option Str}
structure KBinds (K:PySem.W.Frag)(fd:FuncData)(ps ks:List Str)(g:List Value→List Value→List Value)(gV:List V→List V→List V):Prop where
 to:∀(s:Shared)(us ws:List Value),K.In s.heap→(g us ws).length=ps.length→BindsTo s fd ⟨us,ks.zip ws⟩ (ps.zip (g us ws))
 rel:∀{vs:List V}{us:List Value}{zs:List V}{ws:List Value},Vals vs us→Vals zs ws→Vals (gV vs zs) (g us ws)
variable {g:List Value→List Value→List Value}{gV:List V→List V→List V}
end
structure FnScope (N P:List Str)(sc:Scope):Prop where
 kind:sc.kind=.function
 co:sc.isCoroutine=false
 gen:sc.isGenerator=false
 nd:N.Nodup
 pre:N.take P.length=P
 par:∀x∈P,sc.names.lookup x=some .local∨sc.names.lookup x=some .cell
 nofree:∀y∈sc.names,y.2≠.free
theorem bindL_out {kindOf:Str→Option NameKind}{x:Str}:∀{binds:List (Str×Value)}{m:Str→Option Value},(∀v,(x,v)∉binds)→bindL kindOf binds m x=m x
 | [],_,_=>rfl
 |(n,v)::r,m,h=>by
  unfold bindL
  rw[bindL_out fun w hw=>h w (List.mem_cons_of_mem _ hw)]
  split
  ·have:x≠n:=by rintro rfl;exact h v List.mem_cons_self
   simp[this]
  ·rfl
theorem bindC_out {kindOf:Str→Option NameKind}{x:Str}:∀{binds:List (Str×Value)}{m:Str→Option Value},(∀v,(x,v)∉binds)→bindC kindOf binds m x=m x
 | [],_,_=>rfl
 |(n,v)::r,m,h=>by
  unfold bindC
  rw[bindC_out fun w hw=>h w (List.mem_cons_of_mem _ hw)]
  split
  ·rfl
  ·have:x≠n:=by rintro rfl;exact h v List.mem_cons_self
   simp[this]
theorem bindL_get {kindOf:Str→Option NameKind}{x:Str}{v:Value}:∀{P:List Str}{vs:List Value}{i:Nat}{m:Str→Option Value},P.Nodup→P[i]?=some x→vs[i]?=some v→kindOf x=some .local →
  bindL kindOf (P.zip vs) m x=some v
 | [],_,_,_,_,h,_,_=>by simp at h
 | _::_,[],_,_,_,_,h,_=>by simp at h
 | p::P,w::vs,0,m,nd,h1,h2,hk=>by
  simp at h1 h2;subst h1;subst h2
  show bindL kindOf ((p,w)::P.zip vs) m p=_
  unfold bindL
  rw[bindL_out fun v hv=>(List.nodup_cons.mp nd).1 (List.of_mem_zip hv).1,if_pos hk]
  simp
 | p::P,w::vs,i+1,m,nd,h1,h2,hk=>by
  show bindL kindOf ((p,w)::P.zip vs) m x=_
  unfold bindL
  exact bindL_get (i:=i) (List.nodup_cons.mp nd).2 (by simpa using h1) (by simpa using h2) hk
theorem bindC_get {kindOf:Str→Option NameKind}{x:Str}{v:Value}:∀{P:List Str}{vs:List Value}{i:Nat}{m:Str→Option Value},P.Nodup→P[i]?=some x→vs[i]?=some v→kindOf x≠some .local →
  bindC kindOf (P.zip vs) m x=some v
 | [],_,_,_,_,h,_,_=>by simp at h
 | _::_,[],_,_,_,_,h,_=>by simp at h
 | p::P,w::vs,0,m,nd,h1,h2,hk=>by
  simp at h1 h2;subst h1;subst h2
  show bindC kindOf ((p,w)::P.zip vs) m p=_
  unfold bindC
  rw[bindC_out fun v hv=>(List.nodup_cons.mp nd).1 (List.of_mem_zip hv).1,if_neg hk]
  simp
 | p::P,w::vs,i+1,m,nd,h1,h2,hk=>by
  show bindC kindOf ((p,w)::P.zip vs) m x=_
  unfold bindC
  exact bindC_get (i:=i) (List.nodup_cons.mp nd).2 (by simpa using h1) (by simpa using h2) hk
noncomputable def start (N:List Str)(vs:List V):St:=vs.map some++List.replicate (N.length-vs.length) none
noncomputable def cxOf (CX:CXT)(P:Program)(w:World)(K:PySem.W.Frag)(mg:Str→Option Value)(base:Heap)(N:List Str)(qual:Str)(scope:Scope)(f:Addr)(cd:Value)(A:Around)(outer:List Env)(s:Shared)(H:Hp)(E:XK):Cx where
 prog:=P
 w:=w
 K:=K
 mg:=mg
 base:=base
 A:=A.deeper (envOfC qual scope s.heap.objs.size f cd)
 N:=N
 s₀:=s
 H₀:=H
 env:=envOfC qual scope s.heap.objs.size f cd
 outer:=outer
 stack:=envOfC qual scope s.heap.objs.size f cd::outer
 ex:=[]
 calm:=true
 fn:=fun _=>true
 pn:=[]
 xe:=fun e s'=>wpAny (model P w) (A.deeper (envOfC qual scope s.heap.objs.size f cd)) (leaving (envOfC qual scope s.heap.objs.size f cd) e) (fun _ s''=>CX outer H s E e s'') (fun e' s''=>CX outer H s E e' s'') s'
theorem cell_has {sc:Scope}{n:Nat}{x:Str}(h:sc.names.lookup x=some .cell):∃c,(cellsFrom n sc.names []).lookup x=some c:=by
 have q:=PySem.W.cellsFrom_some sc.names n [] (.inl h)
 exact Option.isSome_iff_exists.mp q
theorem inv_start {CX:CXT}{P:Program}{w:World}{K:PySem.W.Frag}{mg:Str→Option Value}{base:Heap}{N ps:List Str}{qual:Str}{scope:Scope}{f:Addr}{cd:Value}{A:Around}{outer:List Env}{s s1:Shared}{H:Hp}{E:XK}{us:List Value}{vs:List V}
  (S:FnScope N ps scope)(hd:A.handled=none)(e0:Env0 P w K mg base A outer s H)(hl:vs.length=ps.length)(r:Vals vs us)
  (x:InCallC s s.heap.objs.size (bindL (envOfC qual scope s.heap.objs.size f cd).kindOf (ps.zip us) fun _=>none) (cellsFrom (s.heap.objs.size+1) scope.names []) (bindC (envOfC qual scope s.heap.objs.size f cd).kindOf (ps.zip us) fun _=>none) s1) :
  Inv (cxOf CX P w K mg base N qual scope f cd A outer s H E) [] (start N vs) H s1:=by
 have hpl:ps.length≤N.length:=by have:=congrArg List.length S.pre;rw[List.length_take]at this;omega
 obtain⟨h1,tk,rfl,hk⟩:=x.done
 have noA:∀b:Addr,b∉(cxOf CX P w K mg base N qual scope f cd A outer s H E).ex:=fun b z=>absurd (show b∈([]:List Addr)from z) (by simp)
 refine⟨⟨e0.mod,S.kind,rfl,rfl,Nat.le_refl _,fun y z c h1 h2=>?_,fun y hy=>?_,fun y c _ h=>?_,fun _=>hd,Around.frames_deeper e0.frames,.inr ⟨rfl,rfl⟩,fun b z=>absurd z (noA b),e0.bs,e0.bsz,fun b _ _=>noA b,fun b z=>absurd z (noA b),e0.funs,e0.frf⟩,
  rfl,e0.bare,Un.kept hk,⟨_,x.toInCall.ns,fun i y v h1 h2 h3=>?_⟩,fun y c h=>⟨_,x.cell y c h⟩,e0.hok.fresh (Nat.le_refl _),fun y c h=>?_,fun p hp=>absurd (show p∈([]:List (Addr×Obj))from hp) (by simp),e0.hok.kept hk,?_⟩
 ·exact name_of_addr x.apart (PySem.mem_of_lookup h1) (PySem.mem_of_lookup h2)
 ·have hy:scope.names.lookup y=some .cell∨scope.names.lookup y=some .free:=hy
  rcases hy with hy|hy
  ·exact cell_has hy
  ·exact absurd rfl (S.nofree _ (PySem.mem_of_lookup hy))
 ·exact Nat.le_of_lt (x.above y c (PySem.mem_of_lookup h))
 ·have hi:i<vs.length:=by
   unfold start at h2
   by_cases hi:i<vs.length
   ·exact hi
   ·rw[List.getElem?_append_right (by simpa using hi)]at h2
    rw[List.getElem?_replicate]at h2
    split at h2<;>cases h2
  have ha:vs[i]?=some v:=by
   unfold start at h2
   rw[List.getElem?_append_left (by simpa using hi),List.getElem?_map]at h2
   cases e:vs[i]? with
   | none=>rw[e]at h2;cases h2
   | some a=>rw[e]at h2;cases h2;rfl
  obtain⟨u,hu,rv⟩:=r.get ha
  have hp:ps[i]?=some y:=by
   rw[←S.pre,List.getElem?_take_of_lt (by omega)];exact h1
  have ndP:ps.Nodup:=by rw[←S.pre];exact S.nd.sublist (List.take_sublist _ _)
  refine⟨u,rv,?_⟩
  rcases S.par y (List.mem_of_getElem? hp)with k|k
  ·exact .inl ⟨k,bindL_get ndP hp hu k⟩
  ·obtain⟨c,e⟩:=cell_has (n:=s.heap.objs.size+1) k
   refine .inr ⟨.inl k,c,e,?_⟩
   have q:=x.cell y c e
   rw[bindC_get ndP hp hu (by show scope.names.lookup y≠_;rw[k];decide)]at q
   exact q
 ·exact e0.hok.fresh (Nat.le_of_lt (x.above y c (PySem.mem_of_lookup h)))
 ·unfold start
  show _=N.length
  rw[List.length_append,List.length_map,List.length_replicate]
  omega
theorem fn_of {CX:CXT}{P:Program}{w:World}{K:PySem.W.Frag}{mg:Str→Option Value}{base:Heap}{k:Nat}{f:Addr}{name qual:Str}{params:Arguments}{body:List Stmt}{scope:Scope}{dV kV doc pm cdv ct oc:Value}{an od:Option Addr}
  {osl:Array (Option Value)}{N ps:List Str}{sp:Sp}(lk:K.lookup f=some ⟨oc,od,.func (PySem.W.fnOf name qual params body scope dV kV doc pm an cdv ct),osl⟩)(hcd:PySem.W.codeIn K cdv qual=true)(S:FnScope N ps scope)
  (len:∀vs H Q E,sp vs H Q E→vs.length=ps.length)
  (hbody:∀(A:Around)(outer:List Env)(s:Shared)(H:Hp)(vs:List V)(Q:VK)(E:XK),Room k (A.deeper (envOfC qual scope s.heap.objs.size f cdv))→sp vs H Q E →
   ∃t,PSs (cxOf CX P w K mg base N qual scope f cdv A outer s H E) body t∧t { nx:=fun _ H'=>Q .non H',rt:=Q } (start N vs) H) :
  FnOk P w K mg base CX (k+1) f (PySem.W.fnOf name qual params body scope dV kV doc pm an cdv ct) ps sp:=by
 refine⟨len,fun A outer s H args us vs Q E hr e0 hb r hsp=>?_⟩
 have hl:=len _ _ _ _ hsp
 have KX:K.In s.heap:=e0.mod.kin.keeps fun b o e=>(e0.bs b o e).1
 have lim:s.heap.NoLimit:=e0.mod.nolimit.keeps fun b o e=>(e0.bs b o e).1
 have hkind:∀y∈ps.zip us,scope.names.lookup y.1=some .local∨(scope.names.lookup y.1=some .cell∧((cellsFrom (s.heap.objs.size+1) scope.names []).lookup y.1).isSome=true):=fun⟨n,v⟩ hy=>by
  rcases S.par n (List.of_mem_zip hy).1 with q|q
  ·exact .inl q
  ·exact .inr ⟨q,PySem.W.cellsFrom_some _ _ _ (.inl q)⟩
 refine codeAny_call_function hr.depth (KX _ _ lk) rfl S.co S.gen rfl (PySem.W.codeRec_of KX hcd) (hb _ _ _ _ ?_)
 refine wpAny_newFunctionEnv_cells S.kind hkind fun env he s1 x=>?_
 subst he
 refine⟨lim.keeps x.toInCall.keep,codeAny_func ?_⟩
 obtain⟨t,ht,hq⟩:=hbody A outer s H vs Q E (hr.deeper _) hsp
 have I:Inv (cxOf CX P w K mg base N qual scope f cdv A outer s H E) [] (start N vs) H s1:=inv_start S hr.hd e0 hl r x
 refine wpAny_mono (ht [] s1 (start N vs) H _ I hq) (fun fl s' hs=>?_) fun e s' hs=>hs
 have fin:∀{σ':St}{H':Hp}{v:V}{u:Value},Inv (cxOf CX P w K mg base N qual scope f cdv A outer s H E) [] σ' H' s'→RelV v u→Q v H'→CE outer P w H s Q u s' :=
  fun {σ' H' v u} J rv q=>⟨v,H',J.os,J.bare,J.base,J.hok,rv,q⟩
 cases fl with
 | ret u =>
  obtain⟨v,σ',H',J,rv,q⟩:=hs
  exact fin J rv q
 | next =>
  obtain⟨σ',H',J,q⟩:=hs
  exact fin (v:=V.non) (u:=Value.none) J rfl q
 | brk =>
  obtain⟨_,_,_,q⟩:=hs
  exact False.elim q
 | cont =>
  obtain⟨_,_,_,q⟩:=hs
  exact False.elim q
end L2
namespace L2
open PySem PySem.Spec PyProof.Rows
section
variable {X:Cx}{x:Str}{p pos:Pos}{e:Expr}{es:List Expr}{t:TA}{id T:String}{r:List V→Hp→VK→Prop}
def tCB (r:List V→Hp→VK→Prop)(t:TA):TE:=fun σ H Q=>t σ H fun vs H1=>r vs H1 Q
theorem pe_callB (hc:CallR X (.builtin id) r)(hg:Gl X x)(hm:X.mg x=none)(hv:bootBuiltins x=some (.builtin id))(ha:PA X (e::es) t)(hn:x≠"__name__":=by decide)(hdb:(x==("__debug__" : Str))=false:=by decide)
  (he:starEach (e::es) X.env=(false,eval e X.env)::starEach es X.env:=by rfl)(hpl:(backTo pos (starEach es X.env)).any (·.1)=false:=by rfl):PE X (.Call (.Name x p) (e::es) [] pos) (tCB r t):=by
 intro pins s σ H Q I h
 refine wpAny_Call_Name_kw (ld_blt I hg hm hv ?_ hn hdb)
 exact PyProof.Rows.callWith_builtin1 (thn (ha pos pins s σ H _ I h) fun us s1 ⟨vs,H1,I1,r1,q1⟩=>hc pins s1 σ H1 vs us Q I1 r1 q1) he hpl
theorem pe_callTy (hc:CallR X (.type T) r)(hg:Gl X x)(hm:X.mg x=none)(hv:bootBuiltins x=some (.type T))(ha:PA X (e::es) t)(hn:x≠"__name__":=by decide)(hdb:(x==("__debug__" : Str))=false:=by decide)
  (he:starEach (e::es) X.env=(false,eval e X.env)::starEach es X.env:=by rfl)(hpl:(backTo pos (starEach es X.env)).any (·.1)=false:=by rfl):PE X (.Call (.Name x p) (e::es) [] pos) (tCB r t):=by
 intro pins s σ H Q I h
 refine wpAny_Call_Name_kw (ld_blt I hg hm hv ?_ hn hdb)
 exact PyProof.Rows.callWith_type1 (thn (ha pos pins s σ H _ I h) fun us s1 ⟨vs,H1,I1,r1,q1⟩=>hc pins s1 σ H1 vs us Q I1 r1 q1) he hpl
end
end L2
namespace HT
open PySem PyProof.Rows
section
open PySem.SeqAt
open PySem.AutoSeq1 (wpAny_loadPart')
open PySem.MeetsSeq PySem.MeetsSeq2 PySem.MeetsSeq3
end
section
variable {prog:Program}{w:World}{A:Around}{E:Value→Shared→Prop}{s:Shared}
theorem cat_tup {t b:Addr}{vs ws:List Value}{Q:Value→Shared→Prop}(ht:IsTup s.heap t vs.toArray)(hb:IsTup s.heap b ws.toArray)(hv:vs≠[])
  (h1:ws=[]→Q (.ref t) s)(h2:ws≠[]→Q (.ref s.heap.objs.size) { s with heap:=s.heap.push { cls:=.type "tuple",data:=.seq (vs++ws).toArray } })
  (hsz:vs.length+ws.length≤sizeLine):wpAny (model prog w) A (binaryOp .Add (.ref t) (.ref b)) Q E s:=by
 obtain⟨⟨cls,dd,data,sl⟩,ho,hc,n,hd⟩:=id ht
 obtain⟨⟨cls2,dd2,data2,sl2⟩,ho2,hc2,n2,hd2⟩:=id hb
 simp only at hc hd hc2 hd2
 subst hc hd hc2 hd2
 have e:vs.toArray++ws.toArray=(vs++ws).toArray:=by simp
 by_cases hw:ws=[]
 ·exact concat_meets ⟨_,ho,rfl⟩ ⟨_,ho2,rfl⟩ noFill_tuple_add seq_tuple_add PySem.F.slot_tuple_add PySem.F.entry_tuple_add (PySem.F.args_tuple_add_2 _ _)
   (tuple_addW1 t b vs.toArray ws.toArray n n2 dd dd2 sl sl2 (by simpa using hv) (by simp[hw])) ⟨ho,ho2,h1 hw⟩
 ·refine concat_meets ⟨_,ho,rfl⟩ ⟨_,ho2,rfl⟩ noFill_tuple_add seq_tuple_add PySem.F.slot_tuple_add PySem.F.entry_tuple_add (PySem.F.args_tuple_add_2 _ _)
   (tuple_addW2 t b vs.toArray ws.toArray n n2 dd dd2 sl sl2 (by simpa using hv) (by simpa using hw) (by rw[List.size_toArray,List.size_toArray];exact hsz)) ⟨ho,ho2,?_⟩
  rw[e]
  exact h2 hw
end
end HT
namespace L2
open PySem PySem.Spec PyProof.Rows
noncomputable abbrev TO:=St→Hp→(Option Int→Hp→Prop)→Prop
def PO (X:Cx)(e:Option Expr)(t:TO):Prop :=
 ∀(pins:List (Addr×Obj))(s:Shared)(σ:St)(H:Hp)(Q:Option Int→Hp→Prop),Inv X pins σ H s→t σ H Q →
  wpAny (model X.prog X.w) X.A (evalPart e X.env) (fun u s'=>∃o H',Inv X pins σ H' s'∧IsPart u o∧Q o H') X.xe s
noncomputable def tNoPart:TO:=fun _ H Q=>Q none H
noncomputable def tPart (t:TE):TO:=fun σ H Q=>t σ H fun x H1=>∃i,x=.int i∧Q (some i) H1
theorem intsAre_of {ns:List Int}:∀{us:List Value},Vals (ns.map V.int) us→IntsAre us ns:=by
 induction ns with
 | nil=>intro us r;rw[List.map_nil]at r;cases r;exact .nil
 | cons n ns ih =>
  intro us r
  rw[List.map_cons]at r
  cases r with
  | cons r1 r2 =>
   obtain⟨t,e⟩:=r1
   subst e
   exact .cons n t (ih r2)
section
variable {X:Cx}{e:Expr}{te:TE}{lo hi:Option Expr}{tl th:TO}{pos p2:Pos}
theorem po_none:PO X none tNoPart:=by
 intro pins s σ H Q I h
 rw[evalPart_none]
 exact wpAny_pure ⟨none,H,I,.none,h⟩
theorem po_some (h:PE X e te):PO X (some e) (tPart te):=by
 intro pins s σ H Q I hw
 rw[evalPart_some]
 refine thn (h pins s σ H _ I hw) fun u s1 ⟨x,H1,I1,r1,q1⟩=>?_
 obtain⟨i,rfl,q⟩:=q1
 obtain⟨t,rfl⟩:=r1
 exact⟨some i,H1,I1,.int i t,q⟩
def SlR (X:Cx)(r:V→Option Int→Option Int→Hp→VK→Prop):Prop :=
 ∀(pins:List (Addr×Obj))(s:Shared)(σ:St)(H:Hp)(x:V)(v vl vu:Value)(lo hi:Option Int)(sl:Addr)(Q:VK),Inv X pins σ H s→RelV x v→s.heap.IsSliceOf sl vl vu .none→IsPart vl lo→IsPart vu hi→r x lo hi H Q →
  ∃T id,typeLookup (.type T) "__getitem__"=pure (some (.builtin id))∧s.TypeIs v T∧wpAny (model X.prog X.w) X.A (getItem v (.ref sl)) (EP X pins σ Q) X.xe s
def tSl (r:V→Option Int→Option Int→Hp→VK→Prop)(te:TE)(tl th:TO):TE:=fun σ H Q=>te σ H fun x H1=>tl σ H1 fun l H2=>th σ H2 fun u H3=>r x l u H3 Q
theorem pe_slice {r:V→Option Int→Option Int→Hp→VK→Prop}(hr:SlR X r)(he:PE X e te)(hl:PO X lo tl)(hu:PO X hi th):PE X (.Subscript e (.Slice lo hi none p2) pos) (tSl r te tl th):=by
 intro pins s σ H Q I h
 refine Subscript_ (thn (he pins s σ H _ I h) fun v s1 ⟨x,H1,I1,r1,q1⟩=>?_)
 refine wpAny_Slice (thn (hl pins s1 σ H1 _ I1 q1) fun vl s2 ⟨l,H2,I2,pl,q2⟩=>thn (hu pins s2 σ H2 _ I2 q2) fun vu s3 ⟨u,H3,I3,pu,q3⟩=>?_)
 rw[evalPart_none]
 refine wpAny_pure ?_
 have I4:Inv X pins σ H3 { s3 with heap:=s3.heap.push { cls:=.type "slice",data:=.fields #[vl,vu,.none] } }:=I3.kept (t':=s3.toks) fun b ob q=>Heap.get?_push_of_some _ q
 obtain⟨T,id,hT,ht,hg⟩:=hr pins { s3 with heap:=s3.heap.push { cls:=.type "slice",data:=.fields #[vl,vu,.none] } } σ H3 x v vl vu l u s3.heap.objs.size Q I4 r1 (Heap.IsSliceOf.new ..) pl pu q3
 show wpAny (model X.prog X.w) X.A (subscriptTail e (.Slice lo hi none p2) v (.ref s3.heap.objs.size)) (EP X pins σ Q) X.xe { s3 with heap:=s3.heap.push { cls:=.type "slice",data:=.fields #[vl,vu,.none] } }
 exact tail_any (ops:=[.ref s3.heap.objs.size,v]) ht hT hg (by with_unfolding_all rfl)
def rCatT (K:PySem.W.Frag):R2:=fun x y H Q=>∃a b xs ys,x=.ref a∧y=.ref b∧SqT K H a xs∧SqT K H b ys∧xs≠[]∧xs.length+ys.length≤sizeLine ∧
 (ys=[]→Q (.ref a) H)∧(ys≠[]→∀p,H p=none→Q (.ref p) (upd H p (.tup (xs++ys))))
theorem Vals.nil_iff {xs:List V}{us:List Value}(r:Vals xs us):us=[]↔xs=[]:=by
 cases r with
 | nil=>simp
 | cons _ _=>simp
theorem op_catT:OpR X (binaryOp .Add) (rCatT X.K):=by
 intro pins s σ H x y v u Q I rx ry h
 obtain⟨a,b,xs,ys,rfl,rfl,ha,hb,hx,hz,q1,q2⟩:=h
 cases rx
 cases ry
 obtain⟨its,r1,p1,_⟩:=I.tuple ha
 obtain⟨its2,r2,p2,_⟩:=I.tuple hb
 refine HT.cat_tup p1 p2 (fun z=>hx (r1.nil_iff.mp z)) (fun z=>⟨.ref a,H,I,rfl,q1 (r2.nil_iff.mp z)⟩) (fun z=>?_) (by rw[←r1.length,←r2.length];exact hz)
 refine⟨.ref s.heap.objs.size,_,I.laid (t':=s.toks) (o:=.tup (xs++ys)) (fun b ob q=>Heap.get?_push_of_some _ q) (Nat.le_refl _) ?_,rfl,q2 (fun w=>z (r2.nil_iff.mpr w)) _ (I.hok.fresh (Nat.le_refl _))⟩
 exact⟨by rw[List.length_append];exact hz,_,r1.append r2,IsTup.new _ _,_,Heap.get?_push_size _ rfl,rfl⟩
end
end L2
namespace L2
open PySem PySem.Spec PyProof.Rows
noncomputable def ixN (n:Nat)(i:Int):Option Nat:=if 0≤i then (if i<n then some i.toNat else none)else if -(n:Int)≤i then some (i+n).toNat else none
noncomputable def atI {α:Type}(xs:List α)(i:Int):Option α:=(ixN xs.length i).bind fun j=>xs[j]?
theorem ixN_seq {n:Nat}{i:Int}{j:Nat}(h:ixN n i=some j):seqIndex? i n=some j∧j<n∧-(n:Int)≤i∧i<n:=by
 unfold ixN at h
 by_cases h0:0≤i
 ·rw[if_pos h0]at h
  by_cases h1:i<n
  ·rw[if_pos h1]at h
   have e:i.toNat=j:=Option.some.inj h
   exact⟨by rw[seqIndex_of h0 h1,e],by omega,by omega,h1⟩
  ·rw[if_neg h1]at h;cases h
 ·rw[if_neg h0]at h
  by_cases h1 : -(n:Int)≤i
  ·rw[if_pos h1]at h
   have e:(i+n).toNat=j:=Option.some.inj h
   exact⟨by rw[seqIndex_neg (by omega) h1,e],by omega,h1,by omega⟩
  ·rw[if_neg h1]at h;cases h
theorem atI_get {α:Type}{xs:List α}{i:Int}{v:α}(h:atI xs i=some v):∃j,seqIndex? i xs.length=some j∧xs[j]?=some v∧j<xs.length∧-(xs.length:Int)≤i∧i<xs.length:=by
 unfold atI at h
 cases e:ixN xs.length i with
 | none=>rw[e]at h;cases h
 | some j =>
  rw[e]at h
  obtain⟨h1,h2,h3,h4⟩:=ixN_seq e
  exact⟨j,h1,h,h2,h3,h4⟩
theorem atI_nat {α:Type}{xs:List α}{j:Nat}{v:α}(h:xs[j]?=some v):atI xs (j:Int)=some v:=by
 have hj:j<xs.length:=(List.getElem?_eq_some_iff.mp h).1
 have e:ixN xs.length (j:Int)=some j:=by
  unfold ixN
  rw[if_pos (by omega),if_pos (by omega)];simp
 unfold atI;rw[e];exact h
def PlainIx (b:Expr):Prop:=∀o i,subscripted b false o i=operate [o,i] (getItem o i)
def IxR (X:Cx)(r:R2):Prop :=
 ∀(value slice:Expr)(pins:List (Addr×Obj))(s:Shared)(σ:St)(H:Hp)(x y:V)(v u:Value)(Q:VK),Inv X pins σ H s→RelV x v→RelV y u→r x y H Q →
  subscripted slice false v u=operate [v,u] (getItem v u)→wpAny (model X.prog X.w) X.A (subscriptTail value slice v u) (EP X pins σ Q) X.xe s
def MtR (X:Cx)(id:String)(r:V→List V→Hp→VK→Prop):Prop :=
 ∀(pins:List (Addr×Obj))(s:Shared)(σ:St)(H:Hp)(x:V)(xs:List V)(v:Value)(us:List Value)(Q:VK),Inv X pins σ H s→RelV x v→Vals xs us→r x xs H Q →
  wpAny (model X.prog X.w) X.A (call (.builtin id) (v::us)) (EP X pins σ Q) X.xe s
section
variable {X:Cx}{a b:Expr}{ta tb:TE}{pos:Pos}
theorem pe_ix {r:R2}(hr:IxR X r)(ha:PE X a ta)(hb:PE X b tb)(hs:PlainIx b):PE X (.Subscript a b pos) (tOp r ta tb):=by
 intro pins s σ H Q I h
 exact Subscript_ (binT ha hb I h fun v u s2 x y H2 I2 rx ry q=>hr a b pins s2 σ H2 x y v u Q I2 rx ry q (hs _ _))
def rIxL (K:PySem.W.Frag):R2:=fun x y H Q=>∃p xs i v,x=.ref p∧y=.int i∧SqL K H p xs∧atI xs i=some v∧Q v H
def rIxT (K:PySem.W.Frag):R2:=fun x y H Q=>∃p xs i v,x=.ref p∧y=.int i∧SqT K H p xs∧atI xs i=some v∧Q v H
theorem ix_list:IxR X (rIxL X.K):=by
 intro value slice pins s σ H x y v u Q I rx ry h hs
 obtain⟨p,xs,i,z,rfl,rfl,hq,he,q⟩:=h
 cases rx
 obtain⟨t,rfl⟩:=ry
 obtain⟨its,r,pl,hz⟩:=I.list hq
 obtain⟨j,h1,h2,h3,h4,h5⟩:=atI_get he
 obtain⟨w,ew,rw'⟩:=r.get h2
 have hl:=r.length
 have hn:=line63
 have fin:EP X pins σ Q w s:=⟨z,H,I,rw',q⟩
 by_cases h0:0≤i
 ·have hj:i.toNat=j:=by
   rw[seqIndex_of h0 h5]at h1
   exact Option.some.inj h1
  exact item_listR pl.isList h0 (by omega) (by rw[hj];simpa using ew) fin hs
 ·have hj:(i+(its.toArray.size:Int)).toNat=j:=by
   rw[seqIndex_neg (by omega) h4]at h1
   rw[List.size_toArray,←hl]
   exact Option.some.inj h1
  exact subscriptTail_builtinR (x:=w) pl.isList.typeIs slot_list_getitem.lookup
   (wpAny_getItem_list_neg (Q:=fun r s'=>r=w∧EP X pins σ Q r s') pl.isList (by omega) (by rw[List.size_toArray]<;>omega) (by omega) (by rw[hj];simpa using ew) ⟨rfl,fin⟩) hs
theorem ix_tup:IxR X (rIxT X.K):=by
 intro value slice pins s σ H x y v u Q I rx ry h hs
 obtain⟨p,xs,i,z,rfl,rfl,hq,he,q⟩:=h
 cases rx
 obtain⟨t,rfl⟩:=ry
 obtain⟨its,r,pl,hz⟩:=I.tuple hq
 obtain⟨j,h1,h2,h3,h4,h5⟩:=atI_get he
 obtain⟨w,ew,rw'⟩:=r.get h2
 have hl:=r.length
 have hn:=line63
 have fin:EP X pins σ Q w s:=⟨z,H,I,rw',q⟩
 exact subscriptTail_builtinR (x:=w) pl.typeIs slot_tuple_getitem.lookup
  (getItem_tuple (j:=j) (Q:=fun r s'=>r=w∧EP X pins σ Q r s') pl (by omega) (by omega) (by rw[List.size_toArray,←hl];exact h1) (by simpa using ew) ⟨rfl,fin⟩) hs
theorem mapSeq_set (its:List Value)(n j:Nat)(u:Value):Obj.mapSeq (·.setIfInBounds j u) { cls:=.type "list",data:=.seq its.toArray n }={ cls:=.type "list",data:=.seq (its.set j u).toArray n }:=by
 simp[Obj.mapSeq]
theorem Inv.lst {pins:List (Addr×Obj)}{σ:St}{H:Hp}{s:Shared}{p:Addr}{xs:List V}(I:Inv X pins σ H s)(h:H p=some (.lst xs)) :
  ∃(its:List Value)(n:Nat),Vals xs its∧s.heap.get? p=some { cls:=.type "list",data:=.seq its.toArray n }∧xs.length≤sizeLine:=by
 obtain⟨z,its,n,r,e⟩:=I.hok p _ h
 exact⟨its,n,r,e,z⟩
theorem Inv.lstUpd {pins:List (Addr×Obj)}{σ:St}{H:Hp}{s:Shared}{p:Addr}{xs ys:List V}{its its':List Value}{n n':Nat}{f:Obj→Obj}(I:Inv X pins σ H s)(h:H p=some (.lst xs))
  (ho:s.heap.get? p=some { cls:=.type "list",data:=.seq its.toArray n })(hf:f { cls:=.type "list",data:=.seq its.toArray n }={ cls:=.type "list",data:=.seq its'.toArray n' })(r:Vals ys its')(hz:ys.length≤sizeLine)(t:Nat) :
  Inv X pins σ (upd H p (.lst ys)) { s with heap:=s.heap.update p f,toks:=t }:=by
 have e:(s.heap.update p f).get? p=some { cls:=.type "list",data:=.seq its'.toArray n' }:=by
  rw[Heap.get?_update_self f ho (by rw[hf]<;>rfl),hf]
 refine I.write (x:=p) (e:=p) (by rw[h];trivial) (.inl rfl) (fun b u hb q=>(Heap.get?_update_other _ _ (Ne.symm hb)).trans q) ⟨_,e⟩ ?_
 exact⟨hz,its',n',r,e⟩
def rSetL:V→V→V→Hp→(Hp→Prop)→Prop:=fun o i v H Q=>∃p xs k j,o=.ref p∧i=.int k∧H p=some (.lst xs)∧ixN xs.length k=some j∧Q (upd H p (.lst (xs.set j v)))
theorem set_list:PSet X rSetL:=by
 intro pins s σ H o i v ov iv u Q I ro ri rv h
 obtain⟨p,xs,k,j,rfl,rfl,hp,hj,q⟩:=h
 cases ro
 obtain⟨t,rfl⟩:=ri
 obtain⟨its,n,r,ho,hz⟩:=I.lst hp
 obtain⟨h1,h2,h3,h4⟩:=ixN_seq hj
 have hl:=r.length
 have hn:=line63
 have I':Inv X pins σ (upd H p (.lst (xs.set j v))) { s with heap:=s.heap.update p (Obj.mapSeq (·.setIfInBounds j u)) } :=
  I.lstUpd hp ho (mapSeq_set its n j u) (r.set rv j) (by rw[List.length_set];exact hz) s.toks
 by_cases h0:0≤k
 ·have hk:k.toNat=j:=by
   rw[seqIndex_of h0 h4]at h1
   exact Option.some.inj h1
  exact PySem.W.ki_setAt ho h0 (by omega) (by rw[List.size_toArray,←hl];exact h4) (by rw[hk];exact⟨_,I',q⟩)
 ·have hk:(k+(its.toArray.size:Int)).toNat=j:=by
   rw[seqIndex_neg (by omega) h3]at h1
   rw[List.size_toArray,←hl]
   exact Option.some.inj h1
  exact PySem.W.ki_setBack ho (by omega) (by rw[List.size_toArray,←hl];exact h3) (by omega) (by rw[hk];exact⟨_,I',q⟩)
noncomputable def flatV:V→Bool
 |.non=>true
 |.bl _=>true
 |.int _=>true
 |.str _=>true
 | _=>false
noncomputable def eqV:V→V→Bool
 |.non,.non=>true
 |.bl a,.bl b=>a==b
 |.bl a,.int b=>(if a then 1 else 0)==b
 |.int a,.bl b=>a==(if b then 1 else 0)
 |.int a,.int b=>a==b
 |.str a,.str b=>a==b
 | _,_=>false
theorem eqAt_V {A:Around}{s:Shared}{y x:V}{u v:Value}(ry:RelV y u)(rx:RelV x v)(fy:flatV y=true)(fx:flatV x=true):SeqAt.EqAt A s u v (eqV y x):=by
 cases y with
 | non =>
  cases ry
  cases x with
  | non=>cases rx;exact SeqAt.EqAt.same _
  | bl b=>cases rx;exact SeqAt.EqAt.none_bool b
  | int b=>obtain⟨t,rfl⟩:=rx;exact SeqAt.EqAt.none_int b t
  | str b=>obtain⟨t,rfl⟩:=rx;exact SeqAt.EqAt.none_str b t
  | _=>exact absurd (show false=true from fx) Bool.false_ne_true
 | bl a =>
  cases ry
  cases x with
  | non=>cases rx;exact SeqAt.EqAt.bool_none a
  | bl b=>cases rx;exact SeqAt.EqAt.bool_bool a b
  | int b=>obtain⟨t,rfl⟩:=rx;exact SeqAt.EqAt.bool_int a b t
  | str b=>obtain⟨t,rfl⟩:=rx;exact SeqAt.EqAt.bool_str a b t
  | _=>exact absurd (show false=true from fx) Bool.false_ne_true
 | int a =>
  obtain⟨t',rfl⟩:=ry
  cases x with
  | non=>cases rx;exact SeqAt.EqAt.int_none a t'
  | bl b=>cases rx;exact SeqAt.EqAt.int_bool a t' b
  | int b=>obtain⟨t,rfl⟩:=rx;exact SeqAt.EqAt.int_int a t' b t
  | str b=>obtain⟨t,rfl⟩:=rx;exact SeqAt.EqAt.int_str a t' b t
  | _=>exact absurd (show false=true from fx) Bool.false_ne_true
 | str a =>
  obtain⟨t',rfl⟩:=ry
  cases x with
  | non=>cases rx;exact SeqAt.EqAt.str_none a t'
  | bl b=>cases rx;exact SeqAt.EqAt.str_bool a t' b
  | int b=>obtain⟨t,rfl⟩:=rx;exact SeqAt.EqAt.str_int a t' b t
  | str b=>obtain⟨t,rfl⟩:=rx;exact SeqAt.EqAt.str_str a t' b t
  | _=>exact absurd (show false=true from fx) Bool.false_ne_true
 | _=>exact absurd (show false=true from fy) Bool.false_ne_true
noncomputable def eqU (x:V)(u:Value):Bool:=match u with
 |.none=>eqV .non x
 |.bool b=>eqV (.bl b) x
 |.int i _=>eqV (.int i) x
 |.str z _=>eqV (.str z) x
 | _=>false
theorem eqU_of {x y:V}{u:Value}(r:RelV y u)(f:flatV y=true):eqU x u=eqV y x:=by
 cases y with
 | non=>cases r;rfl
 | bl b=>cases r;rfl
 | int i=>obtain⟨t,rfl⟩:=r;rfl
 | str z=>obtain⟨t,rfl⟩:=r;rfl
 | _=>exact absurd (show false=true from f) Bool.false_ne_true
theorem any_eqU {x:V}:∀{xs:List V}{us:List Value},Vals xs us→xs.all flatV=true→us.any (eqU x)=xs.any fun y=>eqV y x
 | _,_,.nil,_=>rfl
 | y::xs,u::us,.cons r t,f=>by
  rw[List.all_cons,Bool.and_eq_true]at f
  rw[List.any_cons,List.any_cons,eqU_of r f.1,any_eqU t f.2]
theorem mem_eqAt {A:Around}{s:Shared}{x:V}{v:Value}(rx:RelV x v)(fx:flatV x=true):∀{xs:List V}{us:List Value},Vals xs us→xs.all flatV=true→∀u∈us,SeqAt.EqAt A s u v (eqU x u)
 | _,_,.nil,_=>fun u hu=>by cases hu
 | y::xs,u::us,.cons r t,f=>fun u' hu=>by
  rw[List.all_cons,Bool.and_eq_true]at f
  rcases List.mem_cons.mp hu with rfl|hu
  ·rw[eqU_of r f.1];exact eqAt_V r rx f.1 fx
  ·exact mem_eqAt rx fx t f.2 u' hu
noncomputable def inV (x:V)(xs:List V):Bool:=xs.any fun y=>eqV y x
def rIn (K:PySem.W.Frag)(neg:Bool):R2:=fun x y H Q=>∃p xs,y=.ref p∧(SqL K H p xs∨SqT K H p xs)∧flatV x=true∧xs.all flatV=true∧Q (.bl (if neg then !inV x xs else inV x xs)) H
theorem op_in_seq:OpR X (compareOp .In) (rIn X.K false):=by
 intro pins s σ H x y v u Q I rx ry h
 obtain⟨p,xs,rfl,hq,fx,fs,q⟩:=h
 cases ry
 rcases hq with hq|hq
 ·obtain⟨its,r,pl,hz⟩:=I.list hq
  refine SeqAt.in_listAt (eqU x) pl.isList (fun w hw=>mem_eqAt rx fx r fs w (by simpa using hw)) ⟨.bl _,H,I,rfl,?_⟩
  rw[show its.toArray.any (eqU x)=its.any (eqU x)by simp,any_eqU r fs]
  exact q
 ·obtain⟨its,r,pl,hz⟩:=I.tuple hq
  refine SeqAt.in_tupleAt (eqU x) pl (fun w hw=>mem_eqAt rx fx r fs w (by simpa using hw)) ⟨.bl _,H,I,rfl,?_⟩
  rw[show its.toArray.any (eqU x)=its.any (eqU x)by simp,any_eqU r fs]
  exact q
theorem op_notIn_str:OpR X (compareOp .NotIn) (fun x y H Q=>∃i j,x=.str i∧y=.str j∧Q (.bl (!(!(Builtin.Str.occurrences j i 0 j.length 1).isEmpty))) H):=by
 intro pins s σ H x y v u Q I rx ry h
 obtain⟨i,j,rfl,rfl,q⟩:=h
 obtain⟨t,rfl⟩:=rx
 obtain⟨t',rfl⟩:=ry
 exact notIn_str ⟨.bl _,H,I,rfl,q⟩
theorem call_len_seq:CallR X (.builtin "len") (fun xs H Q=>∃p ys,xs=[.ref p]∧(SqL X.K H p ys∨SqT X.K H p ys)∧Q (.int ys.length) H):=by
 intro pins s σ H xs us Q I r h
 obtain⟨p,ys,rfl,hq,q⟩:=h
 obtain⟨u,rfl,rx⟩:=vals1 r
 cases rx
 have hn:=line63
 rcases hq with hq|hq
 ·obtain⟨its,r',pl,hz⟩:=I.list hq
  have hlen:=r'.length
  exact Calls.call_len_list pl.isList (by simp only[List.size_toArray]<;>omega) ⟨.int ys.length,H,I.tok _,⟨s.toks+1,by rw[List.size_toArray,hlen]⟩,q⟩
 ·obtain⟨its,r',pl,hz⟩:=I.tuple hq
  have hlen:=r'.length
  exact len_tuple pl (by simp only[List.size_toArray]<;>omega) ⟨.int ys.length,H,I.tok _,⟨s.toks+1,by rw[List.size_toArray,hlen]⟩,q⟩
theorem call_tuple_of:CallR X (.type "tuple") (fun xs H Q=>∃p ys,xs=[.ref p]∧((SqL X.K H p ys∧∀l,H l=none→Q (.ref l) (upd H l (.tup ys)))∨(SqT X.K H p ys∧Q (.ref p) H))):=by
 intro pins s σ H xs us Q I r h
 obtain⟨p,ys,rfl,h⟩:=h
 obtain⟨u,rfl,rx⟩:=vals1 r
 cases rx
 rcases h with ⟨hq,q⟩|⟨hq,q⟩
 ·obtain⟨its,r',pl,hz⟩:=I.list hq
  have hlen:=r'.length
  refine call_tuple_list pl.isList (fun h' kp=>?_) (by simp only[List.size_toArray]<;>omega)
  have I1:Inv X pins σ H { s with heap:=h' }:=I.kept (t':=s.toks) kp
  have I2:Inv X pins σ (upd H h'.objs.size (.tup ys)) { s with heap:=h'.push { cls:=.type "tuple",data:=.seq its.toArray } } :=
   I1.laid (t':=s.toks) (fun b o e=>Heap.get?_push_of_some _ e) (Nat.le_refl _) (show ObjOk X.prog X.w _ _ _ (.tup ys)from ⟨hz,its,r',IsTup.new _ _,_,Heap.get?_push_size _ rfl,rfl⟩)
  exact⟨.ref h'.objs.size,_,I2,rfl,q _ (I1.hok.fresh (Nat.le_refl _))⟩
 ·obtain⟨its,r',pl,hz⟩:=I.tuple hq
  exact call_tuple_same pl ⟨.ref p,H,I,rfl,q⟩
def tyV (K:PySem.W.Frag)(T:String)(x:V)(H:Hp):Prop:=match x with
 |.str _=>T = "str"
 |.int _=>T = "int"
 |.ref p=>(T = "list"∧∃xs,SqL K H p xs)∨(T = "tuple"∧∃o,K.lookup p=some o∧o.cls=.type "tuple"∧o.dict=none) ∨
   (T = "dict"∧((∃kvs,H p=some (.dK kvs))∨∃kvs,H p=some (.dT kvs)))∨(T = "set"∧∃S n,H p=some (.set S n))
 | _=>False
theorem tyV_is {pins:List (Addr×Obj)}{σ:St}{H:Hp}{s:Shared}{T:String}{x:V}{v:Value}(I:Inv X pins σ H s)(r:RelV x v)(ty:tyV X.K T x H) :
  s.TypeIs v T∧∀a,v=.ref a→∃ob,s.heap.get? a=some ob∧ob.dict=none:=by
 cases x with
 | str z =>
  obtain⟨t,rfl⟩:=r
  cases (show T = "str" from ty)
  exact⟨typeIs_str s z t,fun _ e=>nomatch e⟩
 | int i =>
  obtain⟨t,rfl⟩:=r
  cases (show T = "int" from ty)
  exact⟨typeIs_int s i t,fun _ e=>nomatch e⟩
 | ref p =>
  cases r
  rcases ty with ⟨rfl,xs,hq⟩|⟨rfl,o,hk,hc,hd⟩|⟨rfl,hk⟩|⟨rfl,S,n,hk⟩
  ·obtain⟨its,_,pl,_⟩:=I.list hq
   refine⟨pl.isList.typeIs,fun a e=>?_⟩
   cases e
   obtain⟨o,n,e,c,hd,_⟩:=pl
   exact⟨o,e,hd⟩
  ·refine⟨⟨o,I.kIn p o hk,hc⟩,fun a e=>?_⟩
   cases e
   exact⟨o,I.kIn _ o hk,hd⟩
  ·have z:∃o,s.heap.get? p=some o∧o.ExactDict:=by
    rcases hk with ⟨kvs,hk⟩|⟨kvs,hk⟩
    ·obtain⟨_,_,_,_,o,_,_,e,ex,_⟩:=I.hok p _ hk
     exact⟨o,e,ex⟩
    ·obtain⟨_,_,_,_,o,_,_,e,ex,_⟩:=I.hok p _ hk
     exact⟨o,e,ex⟩
   obtain⟨o,e,ex⟩:=z
   refine⟨⟨o,e,ex.1⟩,fun a e2=>?_⟩
   cases e2
   exact⟨o,e,ex.2.1⟩
  ·obtain⟨o,_,_,_,e,ex,_⟩:=I.hok p _ hk
   refine⟨⟨o,e,ex.1⟩,fun a e2=>?_⟩
   cases e2
   exact⟨o,e,ex.2.1⟩
 | _=>exact False.elim ty
def tBM (K:PySem.W.Frag)(T:String)(r:V→List V→Hp→VK→Prop)(to:TE)(t:TA):TE:=fun σ H Q=>to σ H fun x H1=>tyV K T x H1∧t σ H1 fun xs H2=>r x xs H2 Q
variable {o e:Expr}{es:List Expr}{to:TE}{t:TA}{name:Str}{apos cpos:Pos}{T id:String}{r:V→List V→Hp→VK→Prop}
theorem pe_bm (pa:PlainAttrs T)(slot:Slot T name id)(hty:typeOf (.builtin id)=pure (.type "method_descriptor"))(hm:MtR X id r)(ho:PE X o to)(ha:PA X (e::es) t)
  (hbase:attributeBase o name X.env (eval o X.env)=eval o X.env:=by rfl)
  (hfew:((backTo cpos (starEach (e::es) X.env)).all (fun x=>!x.1)&&(backToKw cpos (keywordEach [] X.env)).all (fun x=>x.1.isSome)
   && decide ((e::es).length+([]:List Keyword).length+(if ([]:List Keyword).isEmpty then 0 else 1)<30))=true:=by rfl)
  (hline:(apos.endLine==cpos.line)=true:=by rfl)(hs:starEach (e::es) X.env=(false,eval e X.env)::starEach es X.env:=by rfl)(hplain:(backTo cpos (starEach es X.env)).any (·.1)=false:=by rfl) :
  PE X (.Call (.Attribute o name apos) (e::es) [] cpos) (tBM X.K T r to t):=by
 intro pins s σ H Q I h
 refine wpAny_Call_method_late hbase hfew hline rfl (thn (ho pins s σ H _ I h) fun v s1 ⟨x,H1,I1,r1,ty,q1⟩=>?_)
 obtain⟨h1,h2⟩:=tyV_is I1 r1 ty
 refine⟨T,id,pa,slot,hty,h1,h2,?_⟩
 have hA:=ha cpos pins s1 σ H1 _ I1 q1
 rw[hs]at hA ⊢
 refine Calls.callWith_builtin (by show(false||(backTo cpos (starEach es X.env)).any (·.1))=false;rw[hplain]<;>rfl) (Calls.evalArgs_plain ?_)
 exact thn hA fun us s2 ⟨vs,H2,I2,r2,q2⟩=>hm pins s2 σ H2 x vs v us Q I2 r1 r2 q2
end
end L2
namespace L2
open PySem PySem.Spec PyProof.Rows
def MtM (X:Cx)(id:String)(r:V→List V→Hp→VK→Prop):Prop :=
 ∀(pins:List (Addr×Obj))(s:Shared)(σ:St)(H:Hp)(x:V)(xs:List V)(v:Value)(us:List Value)(Q:VK),Inv X pins σ H s→RelV x v→Vals xs us→r x xs H Q →
  wpAny (model X.prog X.w) X.A (call (.builtin id) (v::us)) (EP X pins σ Q) X.xe s
theorem Vals.one:∀{x:V}{us:List Value},Vals [x] us→∃u,us=[u]∧RelV x u
 | _,_,.cons r .nil=>⟨_,rfl,r⟩
theorem Vals.two:∀{x y:V}{us:List Value},Vals [x,y] us→∃u v,us=[u,v]∧RelV x u∧RelV y v
 | _,_,_,.cons r (.cons q .nil)=>⟨_,_,rfl,r,q⟩
theorem Vals.rep {xs:List V}{us:List Value}(h:Vals xs us):∀k:Nat,Vals (List.replicate k xs).flatten (List.replicate k us).flatten
 | 0=>.nil
 | k+1=>by
  rw[List.replicate_succ,List.replicate_succ,List.flatten_cons,List.flatten_cons]
  exact Vals.append h (Vals.rep h k)
theorem foldl_rep (its:List Value):∀(k:Nat)(acc:List Value),
  List.foldl (fun x1 x2=>x1++x2) acc.toArray (List.replicate k its.toArray)=(acc++(List.replicate k its).flatten).toArray
 | 0,acc=>by simp
 | k+1,acc=>by
  have e:acc.toArray++its.toArray=(acc++its).toArray:=by simp
  have e2:(acc++its)++(List.replicate k its).flatten=acc++(List.replicate (k+1) its).flatten:=by
   rw[List.replicate_succ,List.flatten_cons,List.append_assoc]
  rw[←e2,←foldl_rep its k (acc++its),←e,List.replicate_succ,List.foldl_cons]
section
variable {X:Cx}{pins:List (Addr×Obj)}{σ:St}{H:Hp}{s:Shared}{l b:Addr}{xs ys zs:List V}
theorem Inv.lset {its its':List Value}{n:Nat}{f:Array Value→Array Value}{t':Nat}(I:Inv X pins σ H s)(hH:H l=some (.lst xs))
  (e:s.heap.get? l=some { cls:=.type "list",data:=.seq its.toArray n })(hf:f its.toArray=its'.toArray)(hv:Vals ys its')(hz:ys.length≤sizeLine) :
  Inv X pins σ (upd H l (.lst ys)) { s with heap:=s.heap.update l (Obj.mapSeq f),toks:=t' }:=by
 have q:=PySem.IsL.update e f
 rw[hf]at q
 refine I.write (x:=l) (e:=l) (by rw[hH];exact trivial) (.inl rfl) (fun b' u hb hu=>(Heap.get?_update_other s.heap (Obj.mapSeq f) (Ne.symm hb)).trans hu) ⟨_,q⟩ ?_
 exact⟨hz,its',_,hv,q⟩
theorem Inv.lnew {its:List Value}{t':Nat}(I:Inv X pins σ H s)(hv:Vals ys its)(hz:ys.length≤sizeLine) :
  Inv X pins σ (upd H s.heap.objs.size (.lst ys)) { s with heap:=s.heap.push { cls:=.type "list",data:=.seq its.toArray },toks:=t' } :=
 I.laid (fun _ _ q=>Heap.get?_push_of_some _ q) (Nat.le_refl _) ⟨hz,its,0,hv,Heap.get?_push_size _ rfl⟩
theorem Inv.fresh (I:Inv X pins σ H s):H s.heap.objs.size=none:=I.hok.fresh (Nat.le_refl _)
theorem Inv.lstM (I:Inv X pins σ H s)(hH:H l=some (.lst xs)):xs.length≤sizeLine∧∃(its:List Value)(n:Nat),Vals xs its∧xs.length=its.length∧s.heap.get? l=some { cls:=.type "list",data:=.seq its.toArray n }:=by
 obtain⟨z,its,n,r,e⟩:=I.hok l _ hH
 exact⟨z,its,n,r,r.length,e⟩
theorem notLongL {n:Nat}(h:n≤sizeLine):Builtin.List.listTooLong n=false:=by
 unfold Builtin.List.listTooLong
 exact decide_eq_false (by omega)
end
section
variable {X:Cx}
def rAppend:V→List V→Hp→VK→Prop:=fun x vs H Q=>∃l xs y,x=.ref l∧vs=[y]∧H l=some (.lst xs)∧xs.length<sizeLine∧Q .non (upd H l (.lst (xs++[y])))
theorem mt_append:MtM X "list.append" rAppend:=by
 intro pins s σ H x vs v us Q I rx rv h
 obtain⟨l,xs,y,rfl,rfl,hH,hz,q⟩:=h
 cases rx
 obtain⟨u,rfl,ru⟩:=rv.one
 obtain⟨z,its,n,r,hl,e⟩:=I.lstM hH
 refine call_meets F.slot_list_append ⟨_,e,rfl⟩ F.entry_list_append (F.args_list_append_2 _ _) (PySem.list_append l its.toArray n u (by rw[List.size_toArray];omega)) ⟨e,?_⟩
 refine⟨.non,_,I.lset (its':=its++[u]) hH e (by simp) (r.append (.cons ru .nil)) ?_,rfl,q⟩
 rw[List.length_append,List.length_singleton]
 omega
def rCat:R2:=fun x y H Q=>∃l b xs zs,x=.ref l∧y=.ref b∧H l=some (.lst xs)∧H b=some (.lst zs)∧xs.length+zs.length≤sizeLine∧∀p,H p=none→Q (.ref p) (upd H p (.lst (xs++zs)))
theorem op_cat:OpR X (binaryOp .Add) rCat:=by
 intro pins s σ H x y v u Q I rx ry h
 obtain⟨l,b,xs,zs,rfl,rfl,hH,hB,hz,q⟩:=h
 cases rx
 cases ry
 obtain⟨z,its,n,r,hl,e⟩:=I.lstM hH
 obtain⟨z2,its2,n2,r2,hl2,e2⟩:=I.lstM hB
 refine PySem.P.add_list e e2 ?_ (by rw[List.size_toArray,List.size_toArray];omega)
 have ea:its.toArray++its2.toArray=(its++its2).toArray:=by simp
 rw[ea]
 exact⟨.ref _,_,I.lnew (t':=s.toks) (r.append r2) (by rw[List.length_append];omega),rfl,q _ I.fresh⟩
def rRep:R2:=fun x y H Q=>∃l k xs,x=.ref l∧y=.int k∧H l=some (.lst xs)∧-(2 ^ 63)≤k∧k<2 ^ 63∧xs.length*k.toNat≤sizeLine ∧
 ∀p,H p=none→Q (.ref p) (upd H p (.lst (List.replicate k.toNat xs).flatten))
theorem len_rep {α:Type}(xs:List α)(k:Nat):(List.replicate k xs).flatten.length=k*xs.length:=by
 induction k with
 | zero=>simp
 | succ k ih=>rw[List.replicate_succ,List.flatten_cons,List.length_append,ih,Nat.succ_mul,Nat.add_comm]
theorem op_rep:OpR X (binaryOp .Mult) rRep:=by
 intro pins s σ H x y v u Q I rx ry h
 obtain⟨l,k,xs,rfl,rfl,hH,h1,h2,hz,q⟩:=h
 cases rx
 obtain⟨t,rfl⟩:=ry
 obtain⟨z,its,n,r,hl,e⟩:=I.lstM hH
 have hlen:its.toArray.size*k.toNat≤sizeLine:=by rw[List.size_toArray,←hl];exact hz
 have hcap:¬its.toArray.size*k.toNat>(2 ^ 63-1) / 8:=by
  have:(sizeLine:Nat)≤(2 ^ 63-1) / 8:=by decide
  omega
 have hfit:¬(!Builtin.List.listFitsIndex k)=true:=by
  rw[fitsIndex_both h1 h2]
  exact Bool.false_ne_true
 have hlong:¬Builtin.List.listTooLong (its.toArray.size*k.toNat)=true:=by
  rw[notLongL hlen]
  exact Bool.false_ne_true
 have hnew:List.foldl (fun x1 x2=>x1++x2) #[] (List.replicate (if its.toArray.isEmpty=true then 0 else k.toNat) its.toArray)=(List.replicate k.toNat its).flatten.toArray:=by
  have f0:∀m:Nat,List.foldl (fun x1 x2=>x1++x2) #[] (List.replicate m its.toArray)=(List.replicate m its).flatten.toArray:=fun m=>by
   have:=foldl_rep its m []
   rw[List.nil_append]at this
   exact this
  rw[f0]
  cases its with
  | nil=>simp
  | cons a r'=>rw[if_neg (by simp)]
 refine wpAny_binaryOp_repeat_ref (T:="list") (U:="int") (by decide) ⟨_,e,rfl⟩ (fun s'=>typeIs_int s' k t) noFill_list_mul F.fills_int_mul F.slot_int_rmul repeat_list F.slot_int_index.lookup
  (call_meets F.slot_int_rmul (typeIs_int s k t) F.entry_int_rmul (F.args_int_rmul_2 _ _) (int___rmul___int_list k t l its.toArray n)
   ⟨e,rfl,⟨_,e,rfl⟩,call_meets F.slot_list_mul ⟨_,e,rfl⟩ F.entry_list_mul (F.args_list_mul_2 _ _) (AutoListH.list___mul___list_int_3 l its.toArray n k t hfit hcap hlong) ⟨e,?_⟩⟩)
 rw[hnew]
 exact⟨.ref _,_,I.lnew (t':=s.toks) (r.rep k.toNat) (by rw[len_rep,Nat.mul_comm];exact hz),rfl,q _ I.fresh⟩
end
section
variable {prog:Program}{w:World}{A:Around}{E:Value→Shared→Prop}{s:Shared}
end
section
variable {X:Cx}
end
end L2
namespace Att
open PySem PySem.W PySem.Calls PyProof.Rows
theorem ints_of_wellAll {P:Params}{h:Heap}:∀(ns:List Int)(vs:List Value),WellAll P h vs (ns.map WData.int)→IntsAre vs ns:=by
 intro ns
 induction ns with
 | nil =>
  intro vs w
  rw[List.map_nil]at w
  cases w
  exact .nil
 | cons n ns ih =>
  intro vs w
  rw[List.map_cons]at w
  cases w with
  | cons a b =>
   cases a
   exact .cons _ _ (ih _ b)
theorem script_of {l:OpenLaw}{n:Nat}(hn:l.most=some n){P:Params}{h:Heap}{args:List WData}{vals:List Value}
  (hpre:l.row.toRowW.claim.pre args=true)(hwl:WellAll P h vals args) :
  ∃a vs ns,vals=[Value.ref a]∧args=[WData.list (ns.map WData.int)]∧h.get? a=some { cls:=.type "list",data:=.seq vs.toArray }∧IntsAre vs ns∧ns.length≤n:=by
 have hsh:WShape.hasAll [] args [.list .int]=true:=(pre_splitW hpre).1
 have hc:l.pre.holds [] { args:=args }=true:=(pre_splitW hpre).2
 obtain⟨d,r,rfl,h1,h2⟩:=hasAllW_cons hsh
 obtain rfl:=hasAllW_nil h2
 obtain⟨xs,rfl,h3⟩:=hasW_list h1
 obtain⟨ns,rfl⟩:=items_int h3
 have hlen:ns.length≤n:=by
  unfold OpenLaw.pre at hc
  have h4:(WTm.not (.lt (.lit (.int (n:Int))) (.len (.arg 0)))).holds [] { args:=[.list (ns.map .int)] }=true:=by
   have h4:=(holds_andW hc).1
   rw[hn]at h4
   exact h4
  have h5:=condW_of h4 (w_not (w_lt w_lit (w_len_list (w_arg rfl))))
  rw[List.length_map]at h5
  refine Nat.le_of_not_lt fun q=>?_
  have q':(n:Int)<((ns.length:Nat):Int):=by omega
  first
   |(rw[decide_eq_true q']at h5;exact absurd h5 (by decide))
   |(simp at h5;omega)
 cases hwl with
 | cons w1 w2 =>
  cases w2
  cases w1 with
  | list ho hall=>exact⟨_,_,ns,rfl,rfl,ho,ints_of_wellAll ns _ hall,hlen⟩
theorem post_true (l:OpenLaw)(args:List WData):l.row.toRowW.claim.post args (.bool true) args=true :=
 postW_of (r:=l.row.toRowW) (X:=(true==true))
  (show WShape.has [] (.bool true) .bool=true by first|rfl|decide|simp[WShape.has,WShape.arms,WShape.armsAll])
  (show(WTm.eq .res (.lit (.bool true))).value [] { args:=args,res:=some (.bool true),after:=args }=some (.bool (true==true))from w_eq_bool (w_res rfl) w_lit) rfl
theorem attach_call {l:OpenLaw}{n:Nat}{q:Program}{loose:List Str}{XP:(Str→Option Value)→Heap→Prop}{YP:World→Heap→Prop}{d:DefRec}
  (hn:l.most=some n)(hdf:d.params.defaults=[])
  (call:∀(w:World)(s₀ s₁:Shared)(mg mb:Str→Option Value)(fa:Addr)(o:Obj)(pm cd doc:Value)(a:Addr)(vs:List Value)(ns:List Int),
   Ground q loose [] XP w s₀ mg mb s₁.heap→YP w s₁.heap →
   s₁.heap.get? fa=some o→o.data=.func (docDef d.name d.params d.body d.scope pm cd doc)→s₁.heap.CodeRec cd d.name→mg d.name=some (.ref fa) →
   s₁.heap.get? a=some { cls:=.type "list",data:=.seq vs.toArray }→IntsAre vs ns→ns.length≤n→s₁.gens=#[] →
   codeAny (model l.prog w) callerA (.call (.ref fa) ⟨[.ref a],[]⟩) (fun r s'=>r=.ok (.ret (.bool true))∧OldK s₁.heap s'.heap∧s'.os=s₁.os∧AllBare s'.gens) s₁) :
  WalkO q loose XP YP l.row.toRowW d [] (fun f vs=>PySem.call f vs):=by
 intro w s₀ s₁ mg mb G Y fa o pm cd doc dV kV ho hd hcd hD hmg hg args vals as hpre hlay hrd hwl hlo
 obtain rfl:dV=.none:=Dflts.none hD hdf
 obtain rfl:kV=.none:=Dflts.noKw hD
 obtain⟨a,vs,ns,rfl,rfl,hobj,hints,hlen⟩:=script_of hn hpre hwl
 refine enter_call (codeAny_mono (call w s₀ s₁ mg mb fa o pm cd doc a vs ns G Y ho (fd_plain hd) hcd hmg hobj hints hlen hg) fun r s' hq=>?_)
 obtain⟨rfl,h2,h3,h4⟩:=hq
 exact⟨.inl ⟨.bool true,.bool true,[],rfl,fun _=>rfl,.bool true,post_true l _,fun _=>⟨List.Pairwise.nil,fun _ hm=>(nomatch hm)⟩⟩,h2,h3,h4⟩
section
variable {prog:Program}{w:World}{A:Around}{E:Value→Shared→Prop}{s:Shared}{K:Frag}
end
end Att
namespace L2
open PySem PySem.Spec PyProof.Rows
theorem vals_ints:∀{vs:List Value}{ns:List Int},IntsAre vs ns→Vals (ns.map V.int) vs
 | _,_,.nil=>.nil
 | _,_,.cons n t h=>.cons ⟨t,rfl⟩ (vals_ints h)
def Only (H:Hp):Prop:=∀b,H b=none∨∃o xs,H b=some (.frz o (.lst xs))
theorem law_call {P:Program}{w:World}{K:PySem.W.Frag}{mg mb:Str→Option Value}{CX:CXT}{k:Nat}{fa a:Addr}{fd:FuncData}{x:Str}{sp:Sp}{s₁:Shared}{vs:List Value}{ns:List Int}
  (KX:K.In s₁.heap)(hns:s₁.heap.Ns mainGlobals mg)(hb:s₁.heap.Ns builtinsNs mb)(hbb:∀x:Str,x≠"__name__"→mb x=bootBuiltins x)(hlim:s₁.heap.NoLimit)(hg:s₁.gens=#[])
  (ha:s₁.heap.get? a=some { cls:=.type "list",data:=.seq vs.toArray })(hi:IntsAre vs ns)(hl:ns.length≤sizeLine)(hr:Room k callerA)
  (F:∀base:Heap,K.In base→base.Ns mainGlobals mg→FnOk P w K mg base CX k fa fd [x] sp)(hbind:∀(s:Shared)(u:Value),BindsTo s fd ⟨[u],[]⟩ [(x,u)])
  (hsp:∀H:Hp,Only H→SqL K H a (ns.map V.int)→sp [.ref a] H (fun v _=>v=.bl true) fun _ _ _=>False)
  (hCX:∀H e s',CX [] H s₁ (fun _ _ _=>False) e s'→False) :
  codeAny (model P w) callerA (.call (.ref fa) ⟨[.ref a],[]⟩) (fun r s'=>r=.ok (.ret (.bool true))∧OldK s₁.heap s'.heap∧s'.os=s₁.os∧AllBare s'.gens) s₁:=by
 have rv:=vals_ints hi
 have lenV:=hi.length
 -- from an abstract heap in which nothing but the script may be tracked
 have core:∀H:Hp,Only H→SqL K H a (ns.map V.int)→HOk P w H s₁.heap→(∀b,H b≠none→b=a)→(H a≠none→K.lookup a=none) →
   codeAny (model P w) callerA (.call (.ref fa) ⟨[.ref a],[]⟩) (fun r s'=>r=.ok (.ret (.bool true))∧OldK s₁.heap s'.heap∧s'.os=s₁.os∧AllBare s'.gens) s₁:=by
  intro H hO hS hok hA hK
  have base_of:∀{b:Addr}{o:Obj},s₁.heap.get? b=some o→H b=none→(hidT s₁.heap H).get? b=some o:=fun e n=>hidT_get e n
  have noA:∀{b:Addr}{o:Obj}{es:Array DictEntry}{ep:Nat},s₁.heap.get? b=some o→o.data=.dict es ep→H b=none:=fun {b o es ep} e d=>by
   cases q:H b with
   | none=>rfl
   | some u =>
    have e':b=a:=hA b (by rw[q];simp)
    subst e'
    rw[ha]at e;cases e
    have d':Data.seq vs.toArray _=Data.dict es ep:=d
    cases d'
  have nsK:∀{b:Addr}{m:Str→Option Value},s₁.heap.Ns b m→(hidT s₁.heap H).Ns b m:=fun {b m} ⟨o,es,ep,e,d,r⟩=>⟨o,es,ep,base_of e (noA e d),d,r⟩
  have hKb:K.In (hidT s₁.heap H):=fun b o e=>base_of (KX b o e) (by
   cases q:H b with
   | none=>rfl
   | some u =>
    have e':b=a:=hA b (by rw[q];simp)
    subst e'
    rw[hK (by rw[q];simp)]at e;cases e)
  have hM:Mod K mg (hidT s₁.heap H):=⟨hKb,nsK hns,⟨mb,nsK hb,hbb⟩,let ⟨mc,h1,h2⟩:=hlim;⟨mc,nsK h1,h2⟩⟩
  have e0:Env0 P w K mg (hidT s₁.heap H) callerA [] s₁ H:=⟨rfl,hM,fun b o e=>of_hidT e,Nat.le_of_eq (hidT_size _ _),trivial,fun b hb=>absurd (show b∈([]:List Addr)from hb) (by simp),hok,.of_eq hg⟩
  refine codeAny_mono ((F _ hKb (nsK hns)).run callerA [] s₁ H ⟨[.ref a],[]⟩ [.ref a] [.ref a] _ _ hr e0 (hbind s₁ (.ref a)) (.cons rfl .nil) (hsp H hO hS)) fun r s' h=>?_
  cases r with
  | error e=>exact(hCX H e s' h).elim
  | ok fl =>
   cases fl with
   | next=>exact False.elim h
   | brk=>exact False.elim h
   | cont=>exact False.elim h
   | ret u =>
    obtain⟨v,H',os,bare,un,hok',r',q⟩:=h
    have q':v=.bl true:=q
    subst q'
    obtain rfl:u=Value.bool true:=r'
    refine⟨rfl,OldK.of_keep fun b o e=>?_,os,bare⟩
    cases q:H b with
    | none=>exact un.keep b o e q (by intro z;exact absurd (show b∈([]:List Addr)from z) (by simp)) (by simp)
    | some u =>
     rcases hO b with z|⟨ob,xs,z⟩
     ·rw[q]at z;cases z
     ·have z2:=un.frzs b ob _ z
      obtain⟨e1,_⟩:=hok b _ z
      obtain⟨e2,_⟩:=hok' b _ z2
      rw[e]at e1;cases e1
      exact e2
 cases hk:K.lookup a with
 | some o =>
  -- the script is one of the module's own objects
  have e:=KX a o hk
  rw[ha]at e
  cases e
  refine core (fun _=>none) (fun _=>.inl rfl) (.inr ⟨_,vs.toArray,_,hk,rfl,rfl,rfl,by rw[List.size_toArray,lenV];exact hl,by simpa using rv⟩) (fun b u z=>by have z':(none:Option HO)=some u:=z;cases z') (fun b z=>absurd rfl z) fun z=>absurd rfl z
 | none =>
  refine core (fun b=>if b=a then some (.frz { cls:=.type "list",data:=.seq vs.toArray } (.lst (ns.map V.int)))else none) (fun b=>?_) (.inl (.inr ⟨{ cls:=.type "list",data:=.seq vs.toArray },if_pos rfl⟩)) (fun b u z=>?_) (fun b z=>?_) fun _=>hk
  ·by_cases hb:b=a
   ·exact .inr ⟨_,_,if_pos hb⟩
   ·exact .inl (if_neg hb)
  ·by_cases hb:b=a
   ·have z':=(if_pos hb).symm.trans z
    cases z'
    subst hb
    exact⟨ha,by rw[List.length_map];exact hl,vs,_,rv,ha⟩
   ·have z':=(if_neg hb).symm.trans z
    cases z'
  ·by_cases hb:b=a
   ·exact hb
   ·exact absurd (if_neg hb) z
end L2
namespace L2
open PySem PySem.Spec PyProof.Rows
theorem walk_of {l:PySem.W.OpenLaw}{n k:Nat}{q:Program}{loose:List Str}{XP:(Str→Option Value)→Heap→Prop}{YP:World→Heap→Prop}{d:DefRec}{K:Params→PySem.W.Frag}{CX:World→CXT}{sp:World→Sp}{x:Str}
  (hn:l.most=some n)(hn2:n≤sizeLine)(hdf:d.params.defaults=[])(hr:Room k callerA)
  (hY:∀(w:World)(h:Heap),YP w h→(K w.params).In h)
  (F:∀(w:World)(mg:Str→Option Value)(fa:Addr)(h:Heap),(K w.params).In h→h.Ns mainGlobals mg→mg d.name=some (.ref fa) →
   ∃fd:FuncData,(∀(s:Shared)(u:Value),BindsTo s fd ⟨[u],[]⟩ [(x,u)]) ∧
    ∀base:Heap,(K w.params).In base→base.Ns mainGlobals mg→FnOk l.prog w (K w.params) mg base (CX w) k fa fd [x] (sp w))
  (hsp:∀(w:World)(H:Hp)(a:Addr)(ns:List Int),ns.length≤n→Only H→SqL (K w.params) H a (ns.map V.int)→sp w [.ref a] H (fun v _=>v=.bl true) fun _ _ _=>False)
  (hCX:∀(w:World)(H:Hp)(s:Shared)(e:Value)(s':Shared),CX w [] H s (fun _ _ _=>False) e s'→False) :
  PySem.W.WalkO q loose XP YP l.row.toRowW d [] (fun f vs=>PySem.call f vs):=by
 refine Att.attach_call hn hdf fun w s₀ s₁ mg mb fa o pm cd doc a vs ns G Y ho hd hcd hmg hobj hints hlen hg=>?_
 have KX:=hY w _ Y
 obtain⟨fd,hb,hF⟩:=F w mg fa _ KX G.T.g hmg
 exact law_call KX G.T.g G.T.b G.T.builtins G.T.nolimit hg hobj hints (Nat.le_trans hlen hn2) hr hF hb (fun H hO hS=>hsp w H a ns hlen hO hS) fun H e s'=>hCX w H s₁ e s'
end L2
namespace L2
open PySem PySem.Spec PyProof.Rows
noncomputable def inClass (s:Stmt)(j:Nat):Stmt:=match s with
 |.ClassDef _ _ _ body _ _ _ _ _ _ _=>body.getD j (.Pass ⟨0,0,0,0⟩)
 | _=>.Pass ⟨0,0,0,0⟩
noncomputable def defArgs (s:Stmt):Arguments:=match s with
 |.FunctionDef _ a _ _ _ _ _ _ _ _=>a
 | _=>{ posonlyargs:=[],args:=[],vararg:=none,kwonlyargs:=[],kw_defaults:=[],kwarg:=none,defaults:=[] }
noncomputable def defBody (s:Stmt):List Stmt:=match s with
 |.FunctionDef _ _ b _ _ _ _ _ _ _=>b
 | _=>[]
noncomputable def defScope (s:Stmt):Scope:=match s with
 |.FunctionDef _ _ _ _ _ _ sc _ _ _=>sc
 | _=>{ kind:=.function,names:=[],isGenerator:=false,isCoroutine:=false }
noncomputable abbrev CX0:CXT:=fun _ _ _ _ _ _=>False
noncomputable abbrev E0:XK:=fun _ _ _=>False
theorem pass0 {X:Cx}:Passes CX0 X E0:=fun _ _ _ _ _ _ _ h=>h.elim
structure Fun (K:PySem.W.Frag)(x qual:Str)(st:Stmt)(f:Addr)(fd:FuncData):Prop where
 ex:∃(oc:Value)(od:Option Addr)(kV doc pm:Value)(an:Option Addr)(cdv ct:Value)(osl:Array (Option Value)),
  fd=PySem.W.fnOf x qual (defArgs st) (defBody st) (defScope st) .none kV doc pm an cdv ct∧K.lookup f=some ⟨oc,od,.func fd,osl⟩∧PySem.W.codeIn K cdv qual=true
 kp:PySem.W.keepIn K (.ref f)=true
section
variable {P:Program}{w:World}{K:PySem.W.Frag}{mg:Str→Option Value}{base:Heap}
theorem Fun.ok {x qual:Str}{st:Stmt}{f:Addr}{fd:FuncData}{N ps:List Str}{k:Nat}{sp:Sp}(F:Fun K x qual st f fd)(S:FnScope N ps (defScope st))(len:∀vs H Q E,sp vs H Q E→vs.length=ps.length)
  (hbody:∀(cdv:Value)(A:Around)(outer:List Env)(s:Shared)(H:Hp)(vs:List V)(Q:VK)(E:XK),Room k (A.deeper (envOfC qual (defScope st) s.heap.objs.size f cdv))→sp vs H Q E →
   ∃t,PSs (cxOf CX0 P w K mg base N qual (defScope st) f cdv A outer s H E).nox (defBody st) t∧t { nx:=fun _ H'=>Q .non H',rt:=Q } (start N vs) H):FnOk P w K mg base CX0 (k+1) f fd ps sp:=by
 obtain⟨oc,od,kV,doc,pm,an,cdv,ct,osl,rfl,lk,hcd⟩:=F.ex
 refine fn_of lk hcd S len fun A outer s H vs Q E hr hsp=>?_
 obtain⟨t,h,q⟩:=hbody cdv A outer s H vs Q E hr hsp
 exact⟨t,h.nox,q⟩
theorem Fun.binds {x qual:Str}{st:Stmt}{f:Addr}{fd:FuncData}{ps:List Str}(F:Fun K x qual st f fd)
  (h:∀(kV doc pm:Value)(an:Option Addr)(cdv ct:Value)(us:List Value),us.length=ps.length→bindArgs (PySem.W.fnOf x qual (defArgs st) (defBody st) (defScope st) .none kV doc pm an cdv ct) ⟨us,[]⟩=pure (ps.zip us)):Binds K fd ps []:=by
 obtain⟨oc,od,kV,doc,pm,an,cdv,ct,osl,rfl,lk,hcd⟩:=F.ex
 exact .all (h kV doc pm an cdv ct)
theorem fun_mk {x qual:Str}{st:Stmt}{f:Addr}{oc:Value}{od an:Option Addr}{osl:Array (Option Value)}{kV doc pm cdv ct:Value}(l:K.lookup f=some ⟨oc,od,.func (PySem.W.fnOf x qual (defArgs st) (defBody st) (defScope st) .none kV doc pm an cdv ct),osl⟩)
  (c:PySem.W.codeIn K cdv qual=true)(k:PySem.W.keepIn K (.ref f)=true):Fun K x qual st f (PySem.W.fnOf x qual (defArgs st) (defBody st) (defScope st) .none kV doc pm an cdv ct):=⟨⟨oc,od,kV,doc,pm,an,cdv,ct,osl,rfl,l,c⟩,k⟩
end
section
variable {X:Cx}
theorem pv (i:Nat){x:Str}{pos:Pos}(hN:X.N[i]?=some x:=by rfl)(hv:Vis X.env.scope x:=by first|exact Or.inl rfl|exact Or.inr (Or.inl rfl)|exact Or.inr (Or.inr rfl))(hd:(x==("__debug__" : Str))=false:=by decide)
  (hcd:(x==("__classdict__" : Str))=false:=by decide):PE X (.Name x pos) (tVar i):=pe_var hN hv hd hcd
end
theorem iteF {A B:Prop}(h:B):if false=true then A else B:=by
 rw[if_neg Bool.false_ne_true]
 exact h
theorem iteT {A B:Prop}(h:A):if true=true then A else B:=by
 rw[if_pos rfl]
 exact h
theorem ite2 {c A B:Prop} [Decidable c](h1:c→A)(h2:¬c→B):if c then A else B:=by
 by_cases h:c
 ·rw[if_pos h]
  exact h1 h
 ·rw[if_neg h]
  exact h2 h
def Same (H H':Hp):Prop:=∀b o,H b=some o→H' b=some o
theorem Same.refl (H:Hp):Same H H:=fun _ _ h=>h
theorem Same.trans {H H1 H2:Hp}(a:Same H H1)(b:Same H1 H2):Same H H2:=fun c o h=>b c o (a c o h)
theorem Same.seq {K:PySem.W.Frag}{H H':Hp}{a:Addr}{xs:List V}(e:Same H H')(h:SqL K H a xs):SqL K H' a xs:=by
 rcases h with (h|⟨o,h⟩)|h
 ·exact .inl (.inl (e _ _ h))
 ·exact .inl (.inr ⟨o,e _ _ h⟩)
 ·exact .inr h
end L2
set_option maxRecDepth 100000
namespace L3
open PySem
noncomputable def closL (cells:List (Str×Addr)):List (Str×NameKind)→List (Str×Addr)→List (Str×Addr)
 | [],cs=>cs
 |(n,k)::r,cs=>closL cells r (if k == .free then (match cells.lookup n with|some c=>(n,c)::cs|none=>cs)else cs)
theorem closureFor_eq {scope:Scope}{env:Env}(h:∀x∈scope.names,x.2=.free→(env.cells.lookup x.1).isSome=true):closureFor scope env=pure (closL env.cells scope.names []):=by
 unfold closureFor
 dsimp only
 generalize scope.names=names at h ⊢
 generalize ([]:List (Str×Addr))=cs
 induction names generalizing cs with
 | nil=>rfl
 | cons x r ih =>
  obtain⟨n,k⟩:=x
  have ih':=fun cs=>ih (fun y hy=>h y (List.mem_cons_of_mem _ hy)) cs
  rw[List.forIn_cons]
  by_cases hk:(k==NameKind.free)=true
  ·have hs:=h (n,k) List.mem_cons_self (by simpa using hk)
   obtain⟨c,hc⟩:=Option.isSome_iff_exists.mp hs
   have hc':env.cells.lookup n=some c:=hc
   have e1:cellOf env n=pure c:=by unfold cellOf;rw[hc']
   simp only[hk,if_true,e1,closL,hc']
   exact ih' _
  ·have hk':(k==NameKind.free)=false:=by simpa using hk
   simp only[hk',Bool.false_eq_true,if_false,closL]
   exact ih' _
theorem closL_lookup {cells:List (Str×Addr)}{x:Str}{c:Addr}:∀{names:List (Str×NameKind)}{cs:List (Str×Addr)},(∀c,cs.lookup x=some c→cells.lookup x=some c)→(closL cells names cs).lookup x=some c→cells.lookup x=some c
 | [],_,h,e=>h c e
 |(n,k)::r,cs,h,e=>by
  unfold closL at e
  refine closL_lookup (names:=r) (fun c' e'=>?_) e
  by_cases hk:(k==NameKind.free)=true
  ·rw[if_pos hk]at e'
   cases hc:cells.lookup n with
   | none=>rw[hc]at e';exact h c' e'
   | some d =>
    rw[hc]at e'
    by_cases hx:(x==n)=true
    ·have:x=n:=by simpa using hx
     subst this
     simp only[List.lookup_cons,beq_self_eq_true]at e'
     cases e'
     exact hc
    ·have hx':(x==n)=false:=by simpa using hx
     simp only[List.lookup_cons,hx']at e'
     exact h c' e'
  ·rw[if_neg hk]at e'
   exact h c' e'
theorem closL_keep {cells:List (Str×Addr)}{x:Str}:∀{names:List (Str×NameKind)}{cs:List (Str×Addr)},(∃c,cs.lookup x=some c)→∃c,(closL cells names cs).lookup x=some c
 | [],_,h=>h
 |(n,k)::r,cs,h=>by
  unfold closL
  refine closL_keep (names:=r) ?_
  by_cases hk:(k==NameKind.free)=true
  ·rw[if_pos hk]
   cases hc:cells.lookup n with
   | none=>exact h
   | some d =>
    by_cases hx:(x==n)=true
    ·exact⟨d,by simp only[List.lookup_cons,hx]⟩
    ·have hx':(x==n)=false:=by simpa using hx
     simp only[List.lookup_cons,hx']
     exact h
  ·rw[if_neg hk];exact h
theorem closL_has {cells:List (Str×Addr)}{x:Str}{d:Addr}(hd:cells.lookup x=some d):∀{names:List (Str×NameKind)}{cs:List (Str×Addr)},(x,NameKind.free)∈names→∃c,(closL cells names cs).lookup x=some c
 | [],_,h=>nomatch h
 |(n,k)::r,cs,h=>by
  unfold closL
  rcases List.mem_cons.mp h with e|e
  ·cases e
   refine closL_keep (names:=r) ⟨d,?_⟩
   rw[if_pos (by rfl),hd]
   simp only[List.lookup_cons,beq_self_eq_true]
  ·exact closL_has hd e
end L3
namespace L3
open PySem
open Sem (wp)
section
variable {prog:Program}{w:World}{A:Around}{R:Result→Shared→Prop}{s:Shared}
noncomputable abbrev testsOf (ifs:List Expr)(env:Env):Sem Bool:=forIn ifs true fun c r=>if r=true then do let ok ←isTrue c env (eval c env);pure (ForInStep.yield ok)else pure (ForInStep.yield r)
theorem comp_loop {elt tg iter:Expr}{ifs:List Expr}{scope:Scope}{pos:Pos}{it acc:Value}{env:Env}(I:Nat→Shared→Prop)
  (turn:∀n s,I n s→wpAny (model prog w) A (pyNext it) (fun r s1=>match r with
   | none=>R (.ok .next) s1
   | some v=>wpAny (model prog w) A (letOwnedTupleGo tg it v) (fun _ s2=>wpAny (model prog w) A (assign tg env v) (fun _ s3=>wpAny (model prog w) A (testsOf ifs env) (fun ok s4 =>
     if ok=true then wpAny (model prog w) A (eval elt env) (fun x s5=>wpAny (model prog w) A (call (.builtin "list.append") [acc,x]) (fun _ s6=>∃m,m<n∧I m s6) (fun _ _=>False) s5) (fun _ _=>False) s4
     else ∃m,m<n∧I m s4) (fun _ _=>False) s3) (fun _ _=>False) s2) (fun _ _=>False) s1) (fun _ _=>False) s)
  (n:Nat)(h:I n s):codeAny (model prog w) A (.compLoop (.ListComp elt [⟨tg,iter,ifs,0⟩] scope pos) 0 it acc env) R s:=by
 refine codeAny_loop rfl I (fun n s hI=>?_) n h
 show wpAny _ A ((compTurn (.ListComp elt [⟨tg,iter,ifs,0⟩] scope pos) 0 it acc env).onRaise (fun x=>do noteFrame x env;theTreesLotGoes x)) _ _ s
 refine wpAny_noted ?_
 rw[compTurn_list]
 refine wpAny_bind (wpAny_standAt (wpAny_bind (wpAny_mono (turn n s hI) (fun r s1 h1=>?_) fun _ _ z=>z.elim)))
 cases r with
 | none=>exact wpAny_pure h1
 | some v =>
  refine wpAny_bind (wpAny_mono h1 (fun _ s2 h2=>?_) fun _ _ z=>z.elim)
  refine wpAny_bind (wpAny_mono h2 (fun _ s3 h3=>wpAny_bind (wpAny_mono h3 (fun ok s4 h4=>?_) fun _ _ z=>z.elim)) fun _ _ z=>z.elim)
  cases ok with
  | false=>exact wpAny_pure ⟨rfl,h4⟩
  | true =>
   refine wpAny_bind (wpAny_bind (wpAny_mono h4 (fun x s5 h5=>wpAny_bind (wpAny_mono h5 (fun _ s6 h6=>wpAny_pure (wpAny_pure ⟨rfl,h6⟩)) fun _ _ z=>z.elim)) fun _ _ z=>z.elim))
end
end L3
namespace L3
open PySem
noncomputable def compOk (sc0 scope:Scope)(N N':List Str)(sh:List Nat):Bool :=
 (scope.kind == .function)&&(scope.names.all fun y=>y.2 != .cell&&((y.2 != .local||scope.names.lookup y.1==some .local)&&(y.2 != .free||sc0.names.lookup y.1==some .cell))) &&
  ((N'.take N.length==N)&&N.zipIdx.all fun p=>scope.names.lookup p.1!=some .local||sh.contains p.2)
structure CompParts (sc0 scope:Scope)(N N':List Str)(sh:List Nat):Prop where
 kind:scope.kind=.function
 cell:∀y∈scope.names,y.2≠.cell
 loc:∀y∈scope.names,y.2=.local→scope.names.lookup y.1=some .local
 free:∀y∈scope.names,y.2=.free→sc0.names.lookup y.1=some .cell
 pre:N'.take N.length=N
 shad:∀(i:Nat)(x:Str),N[i]?=some x→scope.names.lookup x=some .local→i∈sh
theorem compOk_parts {sc0 scope:Scope}{N N':List Str}{sh:List Nat}(h:compOk sc0 scope N N' sh=true):CompParts sc0 scope N N' sh:=by
 unfold compOk at h
 rw[Bool.and_eq_true,Bool.and_eq_true,Bool.and_eq_true]at h
 obtain⟨⟨h1,h2⟩,h3,h4⟩:=h
 rw[List.all_eq_true]at h2 h4
 have q:∀y∈scope.names,y.2≠.cell∧(y.2=.local→scope.names.lookup y.1=some .local)∧(y.2=.free→sc0.names.lookup y.1=some .cell):=fun y hy=>by
  have:=h2 y hy
  rw[Bool.and_eq_true,Bool.and_eq_true]at this
  obtain⟨a,b,c⟩:=this
  refine⟨by simpa using a,fun e=>?_,fun e=>?_⟩
  ·rw[e]at b;simpa using b
  ·rw[e]at c;simpa using c
 refine⟨by simpa using h1,fun y hy=>(q y hy).1,fun y hy=>(q y hy).2.1,fun y hy=>(q y hy).2.2,by simpa using h3,fun i x e l=>?_⟩
 have:=h4 (x,i) (by rw[List.mem_zipIdx_iff_getElem?];simpa using e)
 simp only[l]at this
 simpa using this
theorem relab_inv {env:Env}{x:Str}{k:NameKind}:∀{names:List (Str×NameKind)},(names.map fun(n,k)=>if (k==NameKind.free&&env.scope.kind == .function&&env.kindOf n==some .cell)then (n,NameKind.cell)else (n,k)).lookup x=some k →
  ∃k0,names.lookup x=some k0∧(k=k0∨(k0=.free∧k=.cell))
 | [],h=>by simp at h
 |(n,k1)::r,h=>by
  have ih:=@relab_inv env x k r
  rw[List.map_cons]at h
  dsimp only at h
  by_cases hx:(x==n)=true
  ·refine⟨k1,by simp only[List.lookup_cons,hx],?_⟩
   by_cases hc:(k1==NameKind.free&&env.scope.kind == .function&&env.kindOf n==some .cell)=true
   ·rw[if_pos hc]at h
    simp only[List.lookup_cons,hx]at h
    have:k1=.free:=by
     rw[Bool.and_eq_true,Bool.and_eq_true]at hc
     simpa using hc.1.1
    exact .inr ⟨this,(Option.some.inj h).symm⟩
   ·rw[if_neg hc]at h
    simp only[List.lookup_cons,hx]at h
    exact .inl (Option.some.inj h).symm
  ·have hx':(x==n)=false:=by simpa using hx
   by_cases hc:(k1==NameKind.free&&env.scope.kind == .function&&env.kindOf n==some .cell)=true
   ·rw[if_pos hc]at h
    simp only[List.lookup_cons,hx']at h ⊢
    exact ih h
   ·rw[if_neg hc]at h
    simp only[List.lookup_cons,hx']at h ⊢
    exact ih h
theorem mem_of_look {x:Str}{k:NameKind}:∀{names:List (Str×NameKind)},names.lookup x=some k→(x,k)∈names
 | [],h=>by simp at h
 |(n,k1)::r,h=>by
  by_cases hx:(x==n)=true
  ·have e:x=n:=by simpa using hx
   subst e
   simp only[List.lookup_cons,beq_self_eq_true]at h
   cases h
   exact List.mem_cons_self
  ·have hx':(x==n)=false:=by simpa using hx
   simp only[List.lookup_cons,hx']at h
   exact List.mem_cons_of_mem _ (mem_of_look h)
noncomputable def blank {α:Type}(sh:List Nat)(σ:List (Option α)):List (Option α):=sh.foldl (fun σ i=>σ.set i none) σ
theorem blank_length {α:Type}:∀(sh:List Nat)(σ:List (Option α)),(blank sh σ).length=σ.length
 | [],_=>rfl
 | j::sh,σ=>by
  show(blank sh (σ.set j none)).length=_
  rw[blank_length sh,List.length_set]
theorem blank_get {α:Type}{i:Nat}{v:α}:∀{sh:List Nat}{σ:List (Option α)},(blank sh σ)[i]?=some (some v)→i∉sh∧σ[i]?=some (some v)
 | [],σ,h=>⟨by simp,h⟩
 | j::sh,σ,h=>by
  have h':(blank sh (σ.set j none))[i]?=some (some v):=h
  obtain⟨h1,h2⟩:=blank_get h'
  by_cases e:j=i
  ·subst e
   rw[List.getElem?_set]at h2
   simp at h2
  ·rw[List.getElem?_set_ne e]at h2
   exact⟨fun z=>(List.mem_cons.mp z).elim (fun q=>e q.symm) h1,h2⟩
end L3
namespace L3
open PySem
open Sem (wp)
section
variable {prog:Program}{w:World}{A:Around}{E:Value→Shared→Prop}{s:Shared}
structure AtT (it t:Addr)(xs:Array Value)(i:Nat)(h:Heap):Prop where
 iter:h.IsTupleIter it t i
 tup:h.IsTuple t xs
theorem AtT.move {it t b:Addr}{xs:Array Value}{i:Nat}{h h':Heap}(a:AtT it t xs i h)(k:Heap.ExtBut b h h')(h1:it≠b)(h2:t≠b):AtT it t xs i h':=⟨a.iter.extBut k h1,a.tup.extBut k h2⟩
theorem AtT.keeps {it t:Addr}{xs:Array Value}{i:Nat}{h h':Heap}(a:AtT it t xs i h)(k1:∀o,h.get? it=some o→h'.get? it=some o)(k2:∀o,h.get? t=some o→h'.get? t=some o):AtT it t xs i h' :=
 ⟨a.iter.at k1,let ⟨o,ho,r⟩:=a.tup;⟨o,k2 o ho,r⟩⟩
theorem tnext_item {it t:Addr}{i:Nat}{xs:Array Value}{x:Value}{Q:Value→Shared→Prop}(a:AtT it t xs i s.heap)(hne:t≠it)(hx:xs[i]?=some x)
  (hQ:∀h',AtT it t xs (i+1) h'→Heap.SameBut it s.heap h'→Q x { s with heap:=h' }):wpAny (model prog w) A (Builtin.SmallTypes.nextOf (.ref it)) Q E s:=by
 obtain⟨hit,ht⟩:=a
 have ht0:=ht
 obtain⟨o,ho,hc,hd⟩:=id hit
 obtain⟨ol,hol,_,nl,hdl⟩:=ht
 unfold Builtin.SmallTypes.nextOf
 refine wpAny_bind (wpAny_callSpecial?_slot (name:=Str.ofString "__next__") hit.typeIs F.slot_tuple_iterator_next (wpAny_call_entry F.slot_tuple_iterator_next hit.typeIs F.entry_tuple_iterator_next ?_ (F.args_tuple_iterator_next_1 _)))
 show wpAny _ _ (field (.ref it) 0 >>= _) _ _ s
 refine wpAny_bind (wpAny_field ho hd (x:=.ref t) rfl ?_)
 show wpAny _ _ (if (Value.ref t==Value.none)=true then _ else _) _ _ s
 rw[if_neg (show ¬((Value.ref t==Value.none)=true)from Bool.false_ne_true)]
 show wpAny _ _ (field (.ref it) 1 >>= _) _ _ s
 refine wpAny_bind (wpAny_field ho hd (x:=.int i 0) rfl ?_)
 show wpAny _ _ (seqItems? (.ref t) >>= _) _ _ s
 refine wpAny_bind (wpAny_seqItems hol hdl ?_)
 simp only[Int.toNat_natCast,hx]
 refine wpAny_bind (wpAny_setField ho hd (by simp) (wpAny_pure ⟨x,rfl,wpAny_pure (hQ _ ⟨?_,ht0.extBut (Heap.SameBut.update ..).extBut hne⟩ (Heap.SameBut.update ..))⟩))
 refine⟨_,Heap.get?_update_self _ ho (Obj.isFreed_of_fields (Obj.data_mapFields hd _)),(Obj.cls_mapFields ..).trans hc,?_⟩
 rw[Obj.data_mapFields hd];simp[rawInt]
theorem tnext_end {it t:Addr}{i:Nat}{xs:Array Value}{Q:Value→Shared→Prop}(hh:A.handled=none)(a:AtT it t xs i s.heap)(hx:xs[i]?=none)
  (hE:∀h' e,Heap.ExtBut it s.heap h'→(∃o,h'.get? e=some o∧o.cls=.type "StopIteration")→E (.ref e) { s with heap:=h' }):wpAny (model prog w) A (Builtin.SmallTypes.nextOf (.ref it)) Q E s:=by
 obtain⟨hit,ht⟩:=a
 obtain⟨o,ho,hc,hd⟩:=id hit
 obtain⟨ol,hol,_,nl,hdl⟩:=ht
 unfold Builtin.SmallTypes.nextOf
 refine wpAny_bind (wpAny_callSpecial?_slot (name:=Str.ofString "__next__") hit.typeIs F.slot_tuple_iterator_next (wpAny_call_entry F.slot_tuple_iterator_next hit.typeIs F.entry_tuple_iterator_next ?_ (F.args_tuple_iterator_next_1 _)))
 show wpAny _ _ (field (.ref it) 0 >>= _) _ _ s
 refine wpAny_bind (wpAny_field ho hd (x:=.ref t) rfl ?_)
 show wpAny _ _ (if (Value.ref t==Value.none)=true then _ else _) _ _ s
 rw[if_neg (show ¬((Value.ref t==Value.none)=true)from Bool.false_ne_true)]
 show wpAny _ _ (field (.ref it) 1 >>= _) _ _ s
 refine wpAny_bind (wpAny_field ho hd (x:=.int i 0) rfl ?_)
 show wpAny _ _ (seqItems? (.ref t) >>= _) _ _ s
 refine wpAny_bind (wpAny_seqItems hol hdl ?_)
 simp only[Int.toNat_natCast,hx]
 refine wpAny_bind (wpAny_rule (wpAny_bind (wpAny_setField ho hd (by simp) ?_)))
 show wpAny _ _ (newExc (.type "StopIteration") [] >>= _) _ _ _
 refine wpAny_bind ?_
 simp only[newExc,newTuple]
 refine wpAny_bind (wpAny_newObj_type ?_ (by size_fits))
 refine wpAny_bind (m:=firstArgMember _ _) (wpAny_of_eq (a:=Value.none) (by first|rfl|(simp only[firstArgMember];rfl)) ?_)
 refine wpAny_newObj_type ?_ (by size_fits)
 simp only[raiseNew]
 refine wpAny_bind (wpAny_handled ?_)
 first|rw[show A.in1.handled=none from hh]|rw[hh]
 refine wpAny_bind (wpAny_pure (wpAny_throw ?_))
 exact hE _ _ (((Heap.SameBut.update ..).extBut.push _).push _) ⟨_,Heap.get?_push_size _ rfl,rfl⟩
theorem enumT_next {e it t:Addr}{i:Nat}{xs:Array Value}{x old:Value}{Q:Value→Shared→Prop}(he:IsEnum s.heap e it i old)(a:AtT it t xs i s.heap)(hx:xs[i]?=some x)(hne:e≠it)(hte:t≠e)(hti:t≠it)
  (hQ:∀h',IsEnumOut h' e it ((i:Int)+1) x s.heap.objs.size→AtT it t xs (i+1) h'→h'.get? s.heap.objs.size=some { cls:=.type "tuple",data:=.seq #[.int i s.toks,x] }→h'.objs.size=s.heap.objs.size+1 →
   (∀b o,b≠e→b≠it→s.heap.get? b=some o→h'.get? b=some o)→Q (.ref s.heap.objs.size) { s with heap:=h',toks:=s.toks+1 }) :
  wpAny (model prog w) A (Builtin.«enumerate.__next__» ⟨[.ref e],[]⟩) (fun fin s'=>∃v,fin=.done (.ret v)∧Q v s') E s:=by
 obtain⟨hp,g,d,tk,os⟩:=s
 show wpAny _ _ (field (.ref e) 2 >>= _) _ _ _
 refine wpAny_bind (wpAny_field he rfl (x:=.ref it) rfl ?_)
 refine wpAny_bind (tnext_item a hti hx fun h1 a1 k1=>?_)
 replace k1:Heap.SameBut it hp h1:=k1
 have e1:IsEnum h1 e it i old:=(k1.2 e hne).trans he
 show wpAny _ _ (field (.ref e) 3 >>= _) _ _ ⟨h1,g,d,tk,os⟩
 refine wpAny_bind (wpAny_field e1 rfl (x:=rawInt i) rfl ?_)
 show wpAny _ _ (field (.ref e) 4 >>= _) _ _ ⟨h1,g,d,tk,os⟩
 refine wpAny_bind (wpAny_field e1 rfl (x:=.none) rfl ?_)
 show wpAny _ _ (mkInt i >>= _) _ _ ⟨h1,g,d,tk,os⟩
 refine wpAny_bind (wpAny_mkInt ?_)
 show wpAny _ _ (setField (.ref e) 3 (rawInt ((i:Int)+1)) >>= _) _ _ ⟨h1,g,d,tk+1,os⟩
 refine wpAny_bind (wpAny_setField_rec e1 (by simp) fun h2 e2 k2=>?_)
 replace k2:Heap.SameBut e h1 h2:=k2
 replace e2:IsEnum h2 e it ((i:Int)+1) old:=e2
 show wpAny _ _ (setField (.ref e) 4 .none >>= _) _ _ ⟨h2,g,d,tk+1,os⟩
 refine wpAny_bind (wpAny_setField_rec e2 (by simp) fun h3 e3 k3=>?_)
 replace k3:Heap.SameBut e h2 h3:=k3
 replace e3:IsEnum h3 e it ((i:Int)+1) old:=e3
 show wpAny _ _ (newTuple [.int i tk,x] >>= _) _ _ ⟨h3,g,d,tk+1,os⟩
 refine wpAny_bind (wpAny_newTuple ?_)
 have e4:IsEnum (h3.push { cls:=.type "tuple",data:=.seq #[.int i tk,x] }) e it ((i:Int)+1) old:=Heap.get?_push_of_some _ e3
 generalize q4:h3.push { cls:=.type "tuple",data:=.seq #[.int i tk,x] }=h4 at e4
 have sz:h3.objs.size=hp.objs.size:=by rw[k3.1,k2.1,k1.1]
 have el:e<hp.objs.size:=Heap.lt_size he
 have t4:h4.get? hp.objs.size=some { cls:=.type "tuple",data:=.seq #[.int i tk,x] }:=by rw[←q4,←sz];exact Heap.get?_push_size _ rfl
 have z4:h4.objs.size=hp.objs.size+1:=by rw[←q4,Heap.size_push,sz]
 have k4:∀b o,b≠e→b≠it→hp.get? b=some o→h4.get? b=some o:=fun b o n1 n2 hb=>by
  rw[←q4];exact Heap.get?_push_of_some _ (k3.extBut b o n1 (k2.extBut b o n1 (k1.extBut b o n2 hb)))
 have a4:AtT it t xs (i+1) h4:=by
  rw[←q4]
  exact((a1.move k2.extBut hne.symm hte).move k3.extBut hne.symm hte).keeps (fun o ho=>Heap.get?_push_of_some _ ho) fun o ho=>Heap.get?_push_of_some _ ho
 show wpAny _ _ (Builtin.SmallTypes.ownedTupleIsFree (.ref e) >>= _) _ _ ⟨h4,g,d,tk+1,os⟩
 rw[sz]
 clear q4 e3 k3 e2 k2 e1 k1 a1 sz h3 h2 h1
 refine wpAny_bind ?_
 unfold Builtin.SmallTypes.ownedTupleIsFree
 refine wpAny_bind (wpAny_field e4 rfl (x:=.none) rfl (wpAny_pure ?_))
 simp only[if_true]
 refine wpAny_bind (wpAny_rule ?_)
 refine wpAny_bind (wpAny_field e4 rfl (x:=old) rfl ?_)
 refine wpAny_bind (wpAny_setField_rec e4 (by simp) fun h5 e5 k5=>?_)
 replace k5:Heap.SameBut e h4 h5:=k5
 replace e5:IsEnum h5 e it ((i:Int)+1) x:=e5
 show wpAny _ _ (Builtin.SmallTypes.ownedTupleHandOut (.ref e) (.ref hp.objs.size) >>= _) _ _ ⟨h5,g,d,tk+1,os⟩
 refine wpAny_bind ?_
 unfold Builtin.SmallTypes.ownedTupleHandOut
 refine wpAny_bind (wpAny_setField_rec e5 (by simp) fun h6 e6 k6=>?_)
 replace k6:Heap.SameBut e h5 h6:=k6
 replace e6:IsEnumOut h6 e it ((i:Int)+1) x hp.objs.size:=e6
 refine wpAny_setField_rec e6 (by simp) fun h7 e7 k7=>?_
 replace k7:Heap.SameBut e h6 h7:=k7
 replace e7:IsEnumOut h7 e it ((i:Int)+1) x hp.objs.size:=e7
 have up:∀b o,b≠e→h4.get? b=some o→h7.get? b=some o:=fun b o n q=>k7.extBut b o n (k6.extBut b o n (k5.extBut b o n q))
 refine wpAny_bind (wpAny_letGo (wpAny_pure ⟨_,rfl,hQ h7 e7 (a4.keeps (fun o q=>up _ o hne.symm q) fun o q=>up _ o hte q) (up _ _ (Nat.ne_of_gt el) t4) ?_ fun b o n1 n2 q=>up b o n1 (k4 b o n1 n2 q)⟩))
 rw[k7.1,k6.1,k5.1,z4]
theorem enumT_pyNext {e it t:Addr}{i:Nat}{xs:Array Value}{x old:Value}{Q:Option Value→Shared→Prop}(he:IsEnum s.heap e it i old)(a:AtT it t xs i s.heap)(hx:xs[i]?=some x)(hne:e≠it)(hte:t≠e)(hti:t≠it)
  (hQ:∀h',IsEnumOut h' e it ((i:Int)+1) x s.heap.objs.size→AtT it t xs (i+1) h'→h'.get? s.heap.objs.size=some { cls:=.type "tuple",data:=.seq #[.int i s.toks,x] }→h'.objs.size=s.heap.objs.size+1 →
   (∀b o,b≠e→b≠it→s.heap.get? b=some o→h'.get? b=some o)→Q (some (.ref s.heap.objs.size)) { s with heap:=h',toks:=s.toks+1 }) :
  wpAny (model prog w) A (pyNext (.ref e)) Q E s:=by
 have hT:s.TypeIs (.ref e) "enumerate":=⟨_,he,rfl⟩
 unfold pyNext
 exact wpAny_bind (wpAny_attempt (wpAny_callSpecial?_slot (name:=Str.ofString "__next__") hT F.slot_enumerate_next (wpAny_call_entry F.slot_enumerate_next hT F.entry_enumerate_next
  (enumT_next he a hx hne hte hti fun h' p1 p2 p3 p4 p5=>wpAny_pure (hQ h' p1 p2 p3 p4 p5)) (F.args_enumerate_next_1 _))))
theorem enumT_pyEnd {e it t:Addr}{i:Nat}{xs:Array Value}{old:Value}{Q:Option Value→Shared→Prop}(hh:A.handled=none)(he:IsEnum s.heap e it i old)(a:AtT it t xs i s.heap)(hx:xs[i]?=none)
  (hQ:∀h',Heap.ExtBut it s.heap h'→Q none { s with heap:=h' }):wpAny (model prog w) A (pyNext (.ref e)) Q E s:=by
 have hT:s.TypeIs (.ref e) "enumerate":=⟨_,he,rfl⟩
 unfold pyNext
 refine wpAny_bind (wpAny_attempt (wpAny_callSpecial?_slot (name:=Str.ofString "__next__") hT F.slot_enumerate_next (wpAny_call_entry F.slot_enumerate_next hT F.entry_enumerate_next ?_ (F.args_enumerate_next_1 _))))
 show wpAny _ _ (field (.ref e) 2 >>= _) _ _ _
 refine wpAny_bind (wpAny_field he rfl (x:=.ref it) rfl ?_)
 refine wpAny_bind (tnext_end hh a hx fun h' x he' hx'=>?_)
 obtain⟨o,ho,hc⟩:=hx'
 exact wpAny_bind (wpAny_isInstance (T:="StopIteration") (b:=true) ⟨o,ho,hc⟩ isSubtype_stop (wpAny_pure (hQ _ he')))
end
end L3
namespace L3
open PySem
open Sem (wp)
open AutoSeq1 (wpAny_loadPart')
set_option maxRecDepth 100000
noncomputable abbrev tupIt (t:Addr):Obj:={ cls:=.type "tuple_iterator",data:=.fields #[.ref t,.int 0 0] }
theorem enumT_new (t:Addr)(xs:Array Value)(n:Nat)(dct:Option Addr)(sl:Array (Option Value)) :
  Meets (Builtin.«enumerate.__new__» ⟨[.type "enumerate",.ref t],[]⟩) (fun _ R s=>s.heap.get? t=some { cls:=.type "tuple",dict:=dct,data:=.seq xs n,slots:=sl } ∧
   R (.ok (.ret (.ref (s.heap.push (tupIt t)).objs.size))) { s with heap:=(s.heap.push (tupIt t)).push { cls:=.type "enumerate",data:=.fields #[.none,.bool false,.ref s.heap.objs.size,rawInt 0,.none,.none] } }) :=
 .of_wp fun prog w A R s h=>by
  obtain⟨hp,g,d,tk,os⟩:=s;obtain⟨ht,h⟩:=h
  have hsub:=sub_enumerate
  have hT:Heap.IsTuple (Shared.heap ⟨hp,g,d,tk,os⟩) t xs:=⟨_,ht,rfl,n,rfl⟩
  wp_walk using wpAny_loadPart' ht
  refine wpAny_stack_any fun st=>wpAny_pure ?_
  split
  ·rename_i c _ _ _ _ _
   cases (c==Value.type "enumerate")
   ·wp_walk using wpAny_loadPart' ht,wpAny_pyIter_tuple hT
    exact⟨_,rfl,h⟩
   ·wp_walk using wpAny_loadPart' ht,wpAny_pyIter_tuple hT
    exact⟨_,rfl,h⟩
  ·wp_walk using wpAny_loadPart' ht,wpAny_pyIter_tuple hT
   exact⟨_,rfl,h⟩
section
variable {prog:Program}{w:World}{A:Around}{E:Value→Shared→Prop}{s:Shared}
theorem call_enumT {t:Addr}{xs:Array Value}{Q:Value→Shared→Prop}(hT:s.heap.IsTuple t xs)
  (h:∀h',IsEnum h' (s.heap.objs.size+1) s.heap.objs.size 0 .none→AtT s.heap.objs.size t xs 0 h'→h'.objs.size=s.heap.objs.size+2→(∀b o,s.heap.get? b=some o→h'.get? b=some o) →
   Q (.ref (s.heap.objs.size+1)) { s with heap:=h' }):wpAny (model prog w) A (call (.type "enumerate") [.ref t]) Q E s:=by
 have hT0:=hT
 obtain⟨⟨c,dct,dt,sl⟩,hl,hc,n,hd⟩:=hT
 replace hc:c=.type "tuple":=hc
 replace hd:dt=.seq xs n:=hd
 subst hc hd
 refine callType_new F.called_enumerate (by decide) (F.typeCall_enumerate_1 _) (F.newCall_enumerate_1 _) (fun obj=>F.args_object_init_2 obj _) F.entry_enumerate_new (enumT_new t xs n dct sl) ⟨hl,?_⟩
 have hz:(s.heap.push (tupIt t)).objs.size=s.heap.objs.size+1:=Heap.size_push ..
 show _∧_
 rw[hz]
 have he:IsEnum ((s.heap.push (tupIt t)).push { cls:=.type "enumerate",data:=.fields #[.none,.bool false,.ref s.heap.objs.size,rawInt 0,.none,.none] }) (s.heap.objs.size+1) s.heap.objs.size 0 .none:=by
  have q:=Heap.get?_push_size (s.heap.push (tupIt t)) (o:={ cls:=.type "enumerate",data:=.fields #[.none,.bool false,.ref s.heap.objs.size,rawInt 0,.none,.none] }) rfl
  rw[hz]at q;exact q
 exact⟨⟨_,he,rfl⟩,h _ he ⟨⟨_,Heap.get?_push_of_some _ (Heap.get?_push_size _ rfl),rfl,rfl⟩,(hT0.push _).push _⟩ (by rw[Heap.size_push,hz]) fun b o x=>Heap.get?_push_of_some _ (Heap.get?_push_of_some _ x)⟩
structure ZipAt (z TI TO i1 i2 t1 t2:Addr)(xs ys:Array Value)(i:Nat)(f0:Value)(h:Heap):Prop where
 z:IsZip h z TI TO f0
 TI:IsPair h TI (.ref i1) (.ref i2)
 TO:∃a b,IsPair h TO a b
 one:AtT i1 t1 xs i h
 two:AtT i2 t2 ys i h
theorem ZipAt.keeps {z TI TO i1 i2 t1 t2:Addr}{xs ys:Array Value}{i:Nat}{f0:Value}{h h':Heap}(Z:ZipAt z TI TO i1 i2 t1 t2 xs ys i f0 h)(k:∀b∈[z,TI,TO,i1,i2],∀o,h.get? b=some o→h'.get? b=some o)
  (k1:∀o,h.get? t1=some o→h'.get? t1=some o)(k2:∀o,h.get? t2=some o→h'.get? t2=some o):ZipAt z TI TO i1 i2 t1 t2 xs ys i f0 h' :=
 ⟨k z (by simp) _ Z.z,k TI (by simp) _ Z.TI,let ⟨a,b,q⟩:=Z.TO;⟨a,b,k TO (by simp) _ q⟩,Z.one.keeps (k i1 (by simp)) k1,Z.two.keeps (k i2 (by simp)) k2⟩
end
end L3
namespace L3
open PySem PyProof.Rows
section
variable {prog:Program}{w:World}{A:Around}{E:Value→Shared→Prop}{s:Shared}
end
end L3
namespace L3
open PySem
theorem bt_len:bootBuiltins "len"=some (.builtin "len"):=by decide +kernel
theorem bt_tuple:bootBuiltins "tuple"=some (.type "tuple"):=by decide +kernel
theorem bt_isinstance:bootBuiltins "isinstance"=some (.builtin "isinstance"):=by decide +kernel
theorem bt_min:bootBuiltins "min"=some (.builtin "min"):=by decide +kernel
theorem bt_max:bootBuiltins "max"=some (.builtin "max"):=by decide +kernel
theorem bt_str:bootBuiltins "str"=some (.type "str"):=by decide +kernel
theorem bt_int:bootBuiltins "int"=some (.type "int"):=by decide +kernel
theorem bt_list:bootBuiltins "list"=some (.type "list"):=by decide +kernel
theorem bt_sum:bootBuiltins "sum"=some (.builtin "sum"):=by decide +kernel
end L3
set_option maxRecDepth 100000
namespace L2
open PySem PySem.Spec PyProof.Rows
section
variable {X:Cx}{pins:List (Addr×Obj)}{σ:St}{H:Hp}{s:Shared}{h':Heap}
theorem Inv.turnLay {a:Addr}{o:HO}{t':Nat}{ch:List Addr}(I:Inv X pins σ H s)(hf:∀b∈ch,FpOk X pins H b)(k:∀b u,b∉ch→s.heap.get? b=some u→h'.get? b=some u)(hp:s.heap.objs.size≤a)
  (new:ObjOk X.prog X.w (upd H a o) h' a o):Inv X pins σ (upd H a o) { s with heap:=h',toks:=t' }:=by
 have fa:H a=none:=I.hok.fresh hp
 have nch:∀b u,H b=some u→b∉ch:=fun b u e z=>by rw[(hf b z).1]at e;cases e
 refine I.step (g':=s.gens) (d':=s.drawn) (ch:=ch) (fun b hb=>?_) (fun b u _ _ hc e _=>k b u hc e) (fun b u _ _ hc e _=>⟨u.slots,k b u hc e⟩) (fun b u hc e n=>?_) (fun b u hc e=>⟨u,k b u hc e⟩)
  (fun b xs e=>?_) (fun b ob u e=>?_) (fun b ps e=>?_) (fun m hm=>?_) (fun b u e=>?_) I.bare
 ·obtain⟨_,f1,_,f3,f4,f5⟩:=hf b hb
  exact⟨f3,f1,f4,f5⟩
 ·rw[upd_ne (Nat.ne_of_lt (Nat.lt_of_lt_of_le (Heap.lt_size e) hp))];exact n
 ·rw[upd_ne (ne_of_none e fa)];exact e
 ·rw[upd_ne (ne_of_none e fa)];exact e
 ·exact⟨#[],by rw[upd_ne (ne_of_none e fa),e];simp⟩
 ·obtain⟨ob,es,ep,ho,r⟩:=hm
  exact⟨ob,es,ep,k _ ob (fun z=>(hf _ z).2.1 rfl) ho,r⟩
 ·by_cases hb:b=a
  ·subst hb;rw[upd_same]at e;cases e;exact new
  ·rw[upd_ne hb]at e
   refine(I.hok b u e).stay (fun c v hc q=>k c v ?_ q) (fun c q=>by rw[upd_ne (ne_of_none q fa)];exact q) fun c xs q=>by rw[upd_ne (ne_of_none q fa)];exact q
   rcases hc with z|z
   ·rw[z];exact nch b u e
   ·exact nch c _ z
theorem Inv.turnMany {t':Nat}{ch:List Addr}(I:Inv X pins σ H s)(hf:∀b∈ch,FpOk X pins H b)(k:∀b u,b∉ch→s.heap.get? b=some u→h'.get? b=some u):Inv X pins σ H { s with heap:=h',toks:=t' }:=by
 have nch:∀b u,H b=some u→b∉ch:=fun b u e z=>by rw[(hf b z).1]at e;cases e
 refine I.step (g':=s.gens) (d':=s.drawn) (ch:=ch) (fun b hb=>?_) (fun b u _ _ hc e _=>k b u hc e) (fun b u _ _ hc e _=>⟨u.slots,k b u hc e⟩) (fun b u hc e n=>n) (fun b u hc e=>⟨u,k b u hc e⟩)
  (fun b xs e=>e) (fun b ob u e=>e) (fun b ps e=>⟨#[],by rw[e];simp⟩) (fun m hm=>?_) (fun b u e=>?_) I.bare
 ·obtain⟨_,f1,_,f3,f4,f5⟩:=hf b hb
  exact⟨f3,f1,f4,f5⟩
 ·obtain⟨ob,es,ep,ho,r⟩:=hm
  exact⟨ob,es,ep,k _ ob (fun z=>(hf _ z).2.1 rfl) ho,r⟩
 ·refine(I.hok b u e).stay (fun c v hc q=>k c v ?_ q) (fun _ q=>q) fun _ _ q=>q
  rcases hc with z|z
  ·rw[z];exact nch b u e
  ·exact nch c _ z
end
noncomputable def Ite (K:PySem.W.Frag)(a:Addr):It :=
 ⟨fun i H=>∃xs x,SqT K H a xs∧xs[i]?=some x,fun i H v H'=>∃p x,H p=none∧v=.ref p∧H'=upd H p (.tup [.int i,x])∧∀xs,SqT K H a xs→xs[i]?=some x,fun i H=>∃xs,SqT K H a xs∧xs.length≤i⟩
theorem turn_enumT {P:Program}{w:World}{K:PySem.W.Frag}{elts:List Expr} {x1}{tp:Pos}{e it a:Addr}(hne:e≠it)(hae:a≠e)(hai:a≠it) :
  Turn P w K (.Tuple elts x1 tp) (Ite K a) [e,it] e (fun i h=>(∃old,IsEnum h e it i old)∧h.IsTupleIter it a i) where
 mem:=by simp
 obj:=fun i h st b hb=>by
  obtain⟨⟨old,q⟩,⟨o,e1,c,d⟩⟩:=st
  rcases List.mem_cons.mp hb with z|z
  ·subst z;exact⟨_,q,fun v z=>by have z':Data.fields _=Data.cell v:=z;cases z'⟩
  ·have z:b=it:=by simpa using z
   subst z;exact⟨o,e1,fun v z=>by rw[d]at z;cases z⟩
 keep:=fun i h h' ⟨⟨old,q⟩,r⟩ k=>⟨⟨old,k e (by simp) _ q⟩,r.at fun o z=>k it (by simp) o z⟩
 item:=by
  intro X hP hw hK hc i pins s σ H E I hf st hg
  subst hP hw hK
  obtain⟨⟨old,he⟩,hit⟩:=st
  obtain⟨xs,x,hq,hx⟩:=hg
  obtain⟨its,rv,p,hz⟩:=I.tuple hq
  obtain⟨u,hu,ru⟩:=rv.get hx
  refine L3.enumT_pyNext he ⟨hit,p⟩ (x:=u) (by simpa using hu) hne hae hai fun h' o1 a1 tp1 sz k1=>⟨_,rfl,?_⟩
  refine wpAny_letOwnedTupleGo_enum o1 fun h2 e2 k2=>?_
  have hT:s.heap.objs.size≠e:=Nat.ne_of_gt (Heap.lt_size he)
  have kk:∀b v,b∉[e,it]→s.heap.get? b=some v→h2.get? b=some v:=fun b v hb q=>by
   have n1:b≠e:=fun z=>hb (by simp[z])
   have n2:b≠it:=fun z=>hb (by simp[z])
   exact(k2.2 b n1).trans (k1 b v n1 n2 q)
  have new:ObjOk X.prog X.w (upd H s.heap.objs.size (.tup [.int i,x])) h2 s.heap.objs.size (.tup [.int i,x]) :=
   ⟨by show 2≤sizeLine;decide,[.int i s.toks,u],.cons ⟨_,rfl⟩ (.cons ru .nil),⟨_,(k2.2 _ hT).trans tp1,rfl,_,rfl⟩,_,(k2.2 _ hT).trans tp1,rfl⟩
  have IL:Inv X pins σ (upd H s.heap.objs.size (.tup [.int i,x])) { s with heap:=h2,toks:=s.toks+1 }:=I.turnLay (t':=s.toks+1) (ch:=[e,it]) hf kk (Nat.le_refl _) new
  refine⟨.ref s.heap.objs.size,_,IL,rfl,⟨_,x,I.hok.fresh (Nat.le_refl _),rfl,rfl,fun ys hy=>by rw[I.tuple_inj hy hq];exact hx⟩,⟨⟨u,?_⟩,a1.iter.at fun o z=>(k2.2 it hne.symm).trans z⟩,fun b hb=>?_⟩
  ·have e3:IsEnum h2 e it ((i:Int)+1) u:=e2
   rw[show(((i+1:Nat):Int))=(i:Int)+1 by omega]
   exact e3
  ·rw[upd_ne (Nat.ne_of_lt ?_)]
   ·exact(hf b hb).1
   ·rcases List.mem_cons.mp hb with z|z
    ·rw[z];exact Heap.lt_size he
    ·have z:b=it:=by simpa using z
     obtain⟨o,q,_⟩:=hit
     rw[z];exact Heap.lt_size q
 done:=by
  intro X hP hw hK hc i pins s σ H E I hf st hg
  subst hP hw hK
  obtain⟨⟨old,he⟩,hit⟩:=st
  obtain⟨xs,hq,hx⟩:=hg
  obtain⟨its,rv,p,hz⟩:=I.tuple hq
  have hl:=rv.length
  refine L3.enumT_pyEnd (I.ok.hd hc) he ⟨hit,p⟩ (by simp;omega) fun h' k=>⟨rfl,I.turnMany (t':=s.toks) (ch:=[e,it]) hf fun b v hb q=>k b v (fun z=>hb (by simp[z])) q⟩
 self:=fun _ _ _ _ _ ⟨⟨_,q⟩,_⟩ h=>wpAny_pyIter_enum q h
section
variable {X:Cx}
def iEnumT (K:PySem.W.Frag)(ta:TA):TI:=fun σ H R=>ta σ H fun vs H1=>∃a,vs=[.ref a]∧(∃xs,SqT K H1 a xs)∧R (Ite K a) H1
theorem pi_enumT {a:Expr}{ta:TA}{p pos tp:Pos}{elts:List Expr} {x1}(hg:Gl X "enumerate")(hm:X.mg "enumerate"=none)(ha:PA X [a] ta)(hs:starEach [a] X.env=[(false,eval a X.env)]:=by rfl) :
  PI X (.Tuple elts x1 tp) (.Call (.Name "enumerate" p) [a] [] pos) (iEnumT X.K ta):=by
 intro pins s σ H R I h
 refine Call_ (ld_blt I hg hm boot_enumerate (PyProof.Rows.callWith_type1 (thn (ha pos pins s σ H _ I h) fun us s1 ⟨vs,H1,I1,r1,q1⟩=>?_) hs rfl))
 obtain⟨t,e,⟨xs,hq⟩,q⟩:=q1
 subst e
 cases r1 with
 | cons r rr =>
  cases rr
  cases r
  obtain⟨its,rv,pt,hz⟩:=I1.tuple hq
  have pt':s1.heap.IsTuple t its.toArray:=pt
  have tlt:t<s1.heap.objs.size:=by obtain⟨o,ho,_⟩:=pt';exact Heap.lt_size ho
  refine L3.call_enumT pt' fun h' he a0 sz k=>?_
  have I2:Inv X pins σ H1 { s1 with heap:=h' }:=I1.kept (t':=s1.toks) k
  refine wpAny_pyIter_enum (it:=s1.heap.objs.size) (i:=0) (old:=.none) he ⟨_,[s1.heap.objs.size+1,s1.heap.objs.size],_,_,H1,rfl,I2,turn_enumT (a:=t) (Nat.ne_of_gt (Nat.lt_succ_self _)) (Nat.ne_of_lt (Nat.lt_succ_of_lt tlt)) (Nat.ne_of_lt tlt),⟨⟨_,he⟩,a0.iter⟩,fun b hb=>?_,q⟩
  have hb':s1.heap.objs.size≤b:=by
   simp only[List.mem_cons,List.not_mem_nil,or_false]at hb
   rcases hb with rfl|rfl
   ·exact Nat.le_succ _
   ·exact Nat.le_refl _
  exact I1.fpOk hb' (I1.hok.fresh hb')
end
section
variable {X:Cx}
noncomputable def Cx.comp (X:Cx)(scope:Scope)(N':List Str)(C:Addr)(fp:List Addr)(pins:List (Addr×Obj))(s₂:Shared)(H₂:Hp):Cx :=
 { X with N:=N',s₀:=s₂,H₀:=H₂,env:=compEnvC scope (L3.closL X.env.cells scope.names []) C X.env,outer:=X.stack,ex:=fp,fn:=fun _=>false,pn:=X.pn++pins,xe:=fun _ _=>False }
theorem comp_look {scope:Scope}{x:Str}{c:Addr}(h:(L3.closL X.env.cells scope.names []).lookup x=some c):X.env.cells.lookup x=some c :=
 L3.closL_lookup (cs:=[]) (fun _ e=>by simp at e) h
variable {scope:Scope}{N':List Str}{sh:List Nat}{pins:List (Addr×Obj)}{σ:St}{H:Hp}{s:Shared}{C:Addr}{fp:List Addr}
theorem comp_free (cp:L3.CompParts X.env.scope scope X.N N' sh){x:Str}(h:(relabel scope X.env).names.lookup x=some .cell∨(relabel scope X.env).names.lookup x=some .free):(x,NameKind.free)∈scope.names∧X.env.kindOf x=some .cell:=by
 have q:(x,NameKind.free)∈scope.names:=by
  rcases h with h|h
  ·obtain⟨k0,h0,h1⟩:=L3.relab_inv h
   rcases h1 with h1|⟨h1,_⟩
   ·subst h1;exact absurd rfl (cp.cell _ (L3.mem_of_look h0))
   ·subst h1;exact L3.mem_of_look h0
  ·obtain⟨k0,h0,h1⟩:=L3.relab_inv h
   rcases h1 with h1|⟨_,h1⟩
   ·subst h1;exact L3.mem_of_look h0
   ·cases h1
 exact⟨q,cp.free _ q rfl⟩
theorem comp_ok (I:Inv X pins σ H s)(cp:L3.CompParts X.env.scope scope X.N N' sh)(hC:s.heap.objs.size≤C)(hf:∀b∈fp,FpOk X pins H b)(hlt:∀b∈fp,b<s.heap.objs.size):(X.comp scope N' C fp pins s H).Ok:=by
 refine⟨I.ok.mod,cp.kind,I.ok.glob,I.ok.blt,hC,fun x y c h1 h2=>I.ok.inj x y c (comp_look h1) (comp_look h2),fun x hx=>?_,fun x c z _=>?_,I.ok.hd,I.ok.frames,.inl rfl,fun b hb=>⟨?_,fun x c e=>?_⟩,I.bs,Nat.le_trans I.ok.bsz I.sz,fun b o e hb=>?_,fun b hb z=>?_,I.stack,I.stkFree⟩
 ·obtain⟨q,kq⟩:=comp_free cp hx
  obtain⟨d,hd⟩:=I.ok.has x (.inl kq)
  exact L3.closL_has hd q
 ·exact absurd (show false=true from z) Bool.false_ne_true
 ·exact Nat.ne_of_lt (Nat.lt_of_lt_of_le (hlt b hb) hC)
 ·exact(hf b hb).2.2.2.2.1 x c (comp_look e)
 ·rcases(hf b hb).2.2.2.1 with z|z
  ·exact I.ok.noex b o e z
  ·exact absurd (Nat.lt_of_lt_of_le (Heap.lt_size e) (Nat.le_trans I.ok.bsz z)) (Nat.lt_irrefl _)
 ·rcases List.mem_cons.mp (I.stkSub b z)with e|e
  ·exact(hf b hb).2.1 e
  ·exact(hf b hb).2.2.1 e
theorem comp_in (I:Inv X pins σ H s)(cp:L3.CompParts X.env.scope scope X.N N' sh){more:Nat}(hm:N'.length=X.N.length+more)(hC:s.heap.objs.size≤C)(hf:∀b∈fp,FpOk X pins H b)(hlt:∀b∈fp,b<s.heap.objs.size)
  {h1:Heap}{t:Nat}{m:Str→Option Value}(k:∀b o,s.heap.get? b=some o→h1.get? b=some o)(hn:h1.Ns C m):Inv (X.comp scope N' C fp pins s H) [] (L3.blank sh σ++List.replicate more none) H { s with heap:=h1,toks:=t }:=by
 have neC:∀b o,s.heap.get? b=some o→b≠C:=fun b o e=>Nat.ne_of_lt (Nat.lt_of_lt_of_le (Heap.lt_size e) hC)
 have lenσ:σ.length=X.N.length:=I.len
 refine⟨comp_ok I cp hC hf hlt,rfl,I.bare,Un.kept k,⟨m,hn,fun i x v e1 e2 e3=>?_⟩,fun x c e=>?_,I.hok.fresh hC,fun x c e=>I.freeC x c (comp_look e),fun p hp=>?_,I.hok.kept k,?_⟩
 ·have hi:i<(L3.blank sh σ).length:=by
   by_cases hi:i<(L3.blank sh σ).length
   ·exact hi
   ·rw[List.getElem?_append_right (Nat.le_of_not_lt hi),List.getElem?_replicate]at e2
    split at e2<;>cases e2
  rw[List.getElem?_append_left hi]at e2
  obtain⟨h1',h2'⟩:=L3.blank_get e2
  rw[L3.blank_length,lenσ]at hi
  have eN:X.N[i]?=some x:=by
   have q:(N'.take X.N.length)[i]?=some x:=by rw[List.getElem?_take_of_lt hi];exact e1
   rw[cp.pre]at q;exact q
  have e3':(relabel scope X.env).names.lookup x=some .local∨(relabel scope X.env).names.lookup x=some .cell∨(relabel scope X.env).names.lookup x=some .free:=e3
  rcases e3' with z|z
  ·obtain⟨k0,h0,hk⟩:=L3.relab_inv z
   have:k0=.local:=by
    rcases hk with q|⟨_,q⟩
    ·exact q.symm
    ·cases q
   subst this
   exact absurd (cp.shad i x eN h0) h1'
  ·obtain⟨q,kq⟩:=comp_free cp z
   obtain⟨m0,_,hl⟩:=I.loc
   obtain⟨u,ru,lu⟩:=hl i x v eN h2' (.inr (.inl kq))
   rcases lu with ⟨kl,_⟩|⟨_,c,hc,ic⟩
   ·rw[kq]at kl;cases kl
   ·obtain⟨c',hc'⟩:=L3.closL_has (cs:=[]) hc q
    have:=comp_look (X:=X) hc'
    rw[hc]at this;cases this
    exact⟨u,ru,.inr ⟨z,c,hc',ic.keeps k⟩⟩
 ·obtain⟨v,z⟩:=I.cell x c (comp_look e)
  exact⟨v,z.keeps k⟩
 ·have hp':p∈X.pn++pins:=by simpa[Cx.comp]using hp
  obtain⟨e,n,ne,nf,d⟩:=I.pin p hp'
  refine⟨k _ _ e,n,neC _ _ e,fun z=>?_,d⟩
  rcases List.mem_cons.mp (I.stkSub p.1 z)with q|q
  ·exact ne q
  ·exact nf q
 ·show(L3.blank sh σ++List.replicate more none).length=N'.length
  rw[List.length_append,L3.blank_length,List.length_replicate,lenσ,hm]
theorem comp_out {D:Addr}{n:Nat}{acc:List V}{ys:Array Value}{pl:List (Addr×Obj)}{σ4:St}{H4:Hp}{s4:Shared}{h':Heap}(I:Inv X pins σ H s)(hC:s.heap.objs.size≤C)(hf:∀b∈fp,FpOk X pins H b)
  (I4:Inv (X.comp scope N' C fp pins s H) pl σ4 H4 s4)(hD:s.heap.objs.size≤D)(hDC:D≠C)(gD:s4.heap.get? D=some { cls:=.type "list",data:=.seq ys n })(va:Vals acc ys.toList)(fD:H4 D=none)(hl:acc.length≤sizeLine)
  (sb:Heap.SameBut C s4.heap h'):Inv X pins σ (upd H4 D (.lst acc)) { s4 with heap:=h' }:=by
 have B:Un (frs X.stack) fp H H4 s.heap s4.heap:=I4.base
 have fC:H4 C=none:=I4.free
 have lo:∀b o,s.heap.get? b=some o→b≠C∧b≠D:=fun b o e=>⟨Nat.ne_of_lt (Nat.lt_of_lt_of_le (Heap.lt_size e) hC),Nat.ne_of_lt (Nat.lt_of_lt_of_le (Heap.lt_size e) hD)⟩
 have u:Un (frs X.stack) fp H (upd H4 D (.lst acc)) s.heap h':=by
  refine⟨fun b o e n hb hx=>(sb.2 b (lo b o e).1).trans (B.keep b o e n hb hx),fun b o e n hb hx=>?_,fun b o e n hx=>by rw[upd_ne (lo b o e).2];exact B.free b o e n hx,fun b o e hx=>?_,
   fun b xs e=>?_,fun b o v e=>?_,fun b ps e=>?_⟩
  ·obtain⟨sl,q⟩:=B.slot b o e n hb hx
   exact⟨sl,(sb.2 b (lo b o e).1).trans q⟩
  ·obtain⟨o',q⟩:=B.there b o e hx
   exact⟨o',(sb.2 b (lo b o e).1).trans q⟩
  ·have q:=B.tups b xs e
   rw[upd_ne (ne_of_none q fD)];exact q
  ·have q:=B.frzs b o v e
   rw[upd_ne (ne_of_none q fD)];exact q
  ·obtain⟨more,q⟩:=B.tbls b ps e
   exact⟨more,by rw[upd_ne (ne_of_none q fD)];exact q⟩
 have hok:HOk X.prog X.w (upd H4 D (.lst acc)) h':=fun b v e=>by
  by_cases hb:b=D
  ·subst hb
   rw[upd_same]at e;cases e
   exact⟨hl,ys.toList,n,va,by rw[sb.2 _ hDC,gD]⟩
  ·rw[upd_ne hb]at e
   refine(show ObjOk X.prog X.w H4 s4.heap b v from I4.hok b v e).stay (fun c w' hc q=>(sb.2 c ?_).trans q) (fun c q=>by rw[upd_ne (ne_of_none q fD)];exact q) fun c xs q=>by rw[upd_ne (ne_of_none q fD)];exact q
   rcases hc with z|z
   ·rw[z];exact ne_of_none e fC
   ·exact ne_of_none z fC
 exact I.call' (s':={ s4 with heap:=h' }) (ch:=fp) (show s4.os=s.os from I4.os) u hok I4.bare fun b hb=>⟨(hf b hb).2.2.2.1,(hf b hb).2.1,(hf b hb).2.2.2.2.1,(hf b hb).2.2.2.2.2⟩
end
def PIf (X:Cx)(ifs:List Expr)(tt:TT):Prop :=
 ∀(pins:List (Addr×Obj))(s:Shared)(σ:St)(H:Hp)(Q:Bool→Hp→Prop),Inv X pins σ H s→tt σ H Q→wpAny (model X.prog X.w) X.A (L3.testsOf ifs X.env) (TP X pins σ Q) X.xe s
theorem pif_nil {X:Cx}:PIf X [] (fun _ H Q=>Q true H):=fun _ _ _ H _ I h=>wpAny_tests_nil ⟨H,I,h⟩
theorem pif_one {X:Cx}{c:Expr}{t:TT}(h:PT X c t):PIf X [c] t:=fun pins s σ H Q I q=>wpAny_tests_one (h pins s σ H Q I q)
def compW (J:It)(g:TG)(tt:TT)(te:TE)(σ:St)(H:Hp)(Q:VK):Prop:=∃W:Nat→Nat→List V→St→Hp→Prop,(∃m,W 0 m [] σ H)∧∀i m acc σ' H',W i m acc σ' H' →
 (J.stop i H'∧acc.length≤sizeLine∧∀D,H' D=none→Q (.ref D) (upd H' D (.lst acc))) ∨
 (J.go i H'∧acc.length<sizeLine∧∃N:List V→St→Hp→Prop,(∀acc' σ2 H2,N acc' σ2 H2→∃m',m'<m∧W (i+1) m' acc' σ2 H2) ∧
  ∀x H2,J.yld i H' x H2→g x σ' H2 fun σ2 H3=>tt σ2 H3 fun b H4=>if b=true then te σ2 H4 fun y H5=>N (acc++[y]) σ2 H5 else N acc σ2 H4)
def tComp (wi:TI)(g:TG)(tt:TT)(te:TE)(sh:List Nat)(more:Nat):TE:=fun σ H Q=>wi σ H fun J H1=>compW J g tt te (L3.blank sh σ++List.replicate more none) H1 Q
theorem comp_any {X:Cx}{elt tg iter:Expr}{ifs:List Expr}{scope:Scope}{pos pos':Pos}{wi:TI}{g:TG}{tt:TT}{te:TE}{sh:List Nat}{N':List Str}{more:Nat}(hcalm:X.calm=true)(hi:PI X tg iter wi)
  (hg:∀C fp pins s H,PG (X.comp scope N' C fp pins s H) tg g)(ht:∀C fp pins s H,PIf (X.comp scope N' C fp pins s H) ifs tt)(he:∀C fp pins s H,PE (X.comp scope N' C fp pins s H) elt te)
  (hc:L3.compOk X.env.scope scope X.N N' sh=true)(hm:N'.length=X.N.length+more)(hs:∀x,foldedSetIterable iter X.env x=pure x){use:Option (Value→Sem Unit)}{Qv:Value→Shared→Prop}
  {pins:List (Addr×Obj)}{s:Shared}{σ:St}{H:Hp}{Q:VK}(I:Inv X pins σ H s)(h:tComp wi g tt te sh more σ H Q)
  (fin:∀(D C:Addr)(s2:Shared)(H2:Hp)(fp:List Addr)(pl:List (Addr×Obj))(σ4:St)(H4:Hp)(s4:Shared)(n:Nat)(ys:Array Value)(acc:List V),Inv X pins σ H2 s2→(∀b∈fp,FpOk X pins H2 b)→s2.heap.objs.size≤C→s2.heap.objs.size≤D→D≠C →
   Inv (X.comp scope N' C fp pins s2 H2) pl σ4 H4 s4→s4.heap.get? D=some { cls:=.type "list",data:=.seq ys n }→Vals acc ys.toList→H4 D=none→acc.length≤sizeLine→Q (.ref D) (upd H4 D (.lst acc))→compPost (model X.prog X.w) X.A X.xe use Qv (.ref D) C (.ok .next) s4) :
  wpAny (model X.prog X.w) X.A (comprehension (.ListComp elt [⟨tg,iter,ifs,0⟩] scope pos) scope X.env pos' (newList []) false (eval iter X.env) use) Qv X.xe s:=by
 have cp:=L3.compOk_parts hc
 refine wpAny_comprehension_free (cl:=L3.closL X.env.cells scope.names []) rfl hs (L3.closureFor_eq fun x hx hk=>?_) cp.kind cp.loc ?_
 ·obtain⟨c,q⟩:=I.ok.has x.1 (.inl (cp.free x hx hk))
  rw[q];rfl
 show wpAny _ X.A (eval iter X.env) _ _ s
 refine thn (hi pins s σ H _ I h) fun v s1 h1=>thn h1 fun itv s2 h2=>?_
 obtain⟨it,fp,tn,J,H2,e,I2,T,st2,f2,W,⟨m0,w0⟩,turn⟩:=h2
 subst e
 have hlt:∀b∈fp,b<s2.heap.objs.size:=fun b hb=>by
  obtain⟨o,q,_⟩:=T.obj 0 _ st2 b hb
  exact Heap.lt_size q
 refine wpAny_newObj_type (wpAny_newFunctionEnv cp.cell (by intro y hy;simp at hy) (fun h₁ hns hsb=>?_) cp.kind)
 dsimp only at hns hsb ⊢
 generalize hG:s2.heap.push { cls:=.type "list",dict:=none,data:=.seq ([]:List Value).toArray }=G at hns hsb ⊢
 have hz:G.objs.size=s2.heap.objs.size+1:=by rw[←hG,Heap.size_push]
 have hC:s2.heap.objs.size≤G.objs.size:=by omega
 have hDC:s2.heap.objs.size≠G.objs.size:=by omega
 have old:∀b o,s2.heap.get? b=some o→h₁.get? b=some o:=fun b o q=>by
  have hb:=Heap.lt_size q
  exact hsb.extBut b o (Nat.ne_of_lt (Nat.lt_of_lt_of_le hb hC)) (Heap.get?_push_of_some _ (hG▸Heap.get?_push_of_some _ q))
 have acc0:h₁.PlainList s2.heap.objs.size #[]:=⟨_,hsb.extBut _ _ hDC (Heap.get?_push_of_some _ (hG▸Heap.get?_push_size _ rfl))⟩
 have nfD:s2.heap.objs.size∉frs X.stack:=fun z=>by
  obtain⟨_,o,ho,_⟩:=I2.stack.mem z
  exact absurd (Heap.lt_size ho) (Nat.lt_irrefl _)
 have fpD:∀b∈fp,s2.heap.objs.size≠b:=fun b hb=>Nat.ne_of_gt (hlt b hb)
 have cD:∀x c,(L3.closL X.env.cells scope.names []).lookup x=some c→c≠s2.heap.objs.size:=fun x c q z=>by
  obtain⟨w',z'⟩:=I2.cell x c (comp_look q)
  rw[z]at z'
  exact absurd z'.lt (Nat.lt_irrefl _)
 have pnD:∀p∈X.pn++pins,p.1≠s2.heap.objs.size:=fun p hp z=>by
  have q:=(I2.pin p hp).1
  rw[z]at q
  exact absurd (Heap.lt_size q) (Nat.lt_irrefl _)
 have okX:(X.comp scope N' G.objs.size fp pins s2 H2).Ok:=comp_ok I2 cp hC f2 hlt
 -- the iterator's records,seen from the block
 have stat:∀{o:Obj}{H':Hp},(∀b∈fp,H' b=none)→∀b∈fp,FpOk (X.comp scope N' G.objs.size fp pins s2 H2) [(s2.heap.objs.size,o)] H' b:=fun {o H'} hn b hb=>by
  refine⟨hn b hb,(okX.exf b hb).1,okX.exfs b hb,.inl hb,(okX.exf b hb).2,fun p hp=>?_⟩
  rcases List.mem_append.mp hp with z|z
  ·exact(f2 b hb).2.2.2.2.2 p z
  ·have:p=(s2.heap.objs.size,o):=by simpa using z
   rw[this];exact fpD b hb
 -- the list so far,held as it is
 have hold:∀{σ':St}{H':Hp}{s':Shared}{o:Obj},Inv (X.comp scope N' G.objs.size fp pins s2 H2) [] σ' H' s'→s'.heap.get? s2.heap.objs.size=some o→H' s2.heap.objs.size=none→(∀v,o.data≠.cell v) →
   Inv (X.comp scope N' G.objs.size fp pins s2 H2) [(s2.heap.objs.size,o)] σ' H' s':=fun {σ' H' s' o} I' q n d=>I'.pins_of fun p hp=>by
  have:p=(s2.heap.objs.size,o):=by simpa using hp
  subst this
  exact⟨q,n,hDC,nfD,d⟩
 have loop:∀s₃:Shared,s₃={ s2 with heap:=h₁,toks:=s2.toks+([]:List (Str×Value)).length } →
   codeAny (model X.prog X.w) X.A (.compLoop (.ListComp elt [⟨tg,iter,ifs,0⟩] scope pos) 0 (.ref it) (.ref s2.heap.objs.size) (compEnvC scope (L3.closL X.env.cells scope.names []) G.objs.size X.env))
    (compPost (model X.prog X.w) X.A X.xe use Qv (.ref s2.heap.objs.size) G.objs.size) s₃:=by
  rintro s₃ rfl
  refine L3.comp_loop (fun n s'=>∃i acc ys σ' H',Inv (X.comp scope N' G.objs.size fp pins s2 H2) [] σ' H' s'∧tn i s'.heap∧(∀b∈fp,H' b=none)∧s'.heap.PlainList s2.heap.objs.size ys∧Vals acc ys.toList∧H' s2.heap.objs.size=none∧W i n acc σ' H') ?_ m0
   ⟨0,[],#[],_,H2,comp_in I2 cp hm hC f2 hlt old hns,T.keep _ _ _ st2 (fun b _ o q=>old b o q),fun b hb=>(f2 b hb).1,acc0,.nil,I2.hok.fresh (Nat.le_refl _),w0⟩
  rintro n s3 ⟨i,acc,ys,σ3,H3,I3,st3,fr3,⟨nn,gD⟩,va,fD,w3⟩
  have dD:∀v,({ cls:=.type "list",data:=.seq ys nn }:Obj).data≠.cell v:=fun v z=>by
   have z':Data.seq ys nn=Data.cell v:=z
   cases z'
  have I3':=hold I3 gD fD dD
  rcases turn i n acc σ3 H3 w3 with ⟨stop,hl,q⟩|⟨go,hl,N,hN,step⟩
  ·refine thn (T.done (X.comp scope N' G.objs.size fp pins s2 H2) rfl rfl rfl hcalm i _ s3 σ3 H3 (fun _ _=>False) I3' (stat fr3) st3 stop) fun r s4 ⟨hr,I4⟩=>?_
   subst hr
   have g4:=(I4.pin (s2.heap.objs.size,_) (List.mem_append_right _ List.mem_cons_self)).1
   exact fin _ _ s2 H2 fp _ _ _ s4 _ _ acc I2 f2 hC (Nat.le_refl _) hDC I4 g4 va fD hl (q _ fD)
  ·refine thn (T.item (X.comp scope N' G.objs.size fp pins s2 H2) rfl rfl rfl hcalm i _ s3 σ3 H3 (fun _ _=>False) I3' (stat fr3) st3 go) fun r s4 ⟨u,hr,h4⟩=>?_
   subst hr
   refine thn h4 fun _ s5 ⟨x,H5,I5,r5,y5,st5,fr5⟩=>?_
   have I5':=I5.pinned (stat fr5) (T.obj _ _ st5)
   refine thn (hg _ _ _ _ _ _ s5 σ3 H5 x u _ I5' r5 (step x H5 y5)) fun _ s6 ⟨σ6,H6,I6,q6⟩=>?_
   refine thn (ht _ _ _ _ _ _ s6 σ6 H6 _ I6 q6) fun b s7 ⟨H7,I7,q7⟩=>?_
   have inD:∀{o:Obj},(s2.heap.objs.size,o)∈[(s2.heap.objs.size,o)]++pinsAt fp s5.heap:=List.mem_append_left _ List.mem_cons_self
   have turned:∀{σ':St}{H':Hp}{s':Shared},Inv (X.comp scope N' G.objs.size fp pins s2 H2) ([(s2.heap.objs.size,({ cls:=.type "list",data:=.seq ys nn }:Obj))]++pinsAt fp s5.heap) σ' H' s' →
     (∀b∈fp,∀o,s5.heap.get? b=some o→s'.heap.get? b=some o)∧∀b∈fp,H' b=none:=fun I'=>by
    refine⟨fun b hb o q=>(I'.pin (b,o) (List.mem_append_right _ (List.mem_append_right _ (mem_pinsAt hb q)))).1,fun b hb=>?_⟩
    obtain⟨o,q,_⟩:=T.obj _ _ st5 b hb
    exact(I'.pin (b,o) (List.mem_append_right _ (List.mem_append_right _ (mem_pinsAt hb q)))).2.1
   cases b with
   | false =>
    rw[if_neg Bool.false_ne_true]at q7 ⊢
    obtain⟨m',hm',w7⟩:=hN _ _ _ q7
    have p7:=I7.pin (s2.heap.objs.size,_) (List.mem_append_right _ inD)
    exact⟨m',hm',i+1,acc,ys,σ6,H7,I7.pins_of (fun p hp=>absurd hp (by simp)),T.keep _ _ _ st5 (turned I7).1,(turned I7).2,⟨nn,p7.1⟩,va,p7.2.1,w7⟩
   | true =>
    rw[if_pos rfl]at q7 ⊢
    refine thn (he _ _ _ _ _ _ s7 σ6 H7 _ I7 q7) fun yv s8 ⟨y,H8,I8,r8,q8⟩=>?_
    obtain⟨m',hm',w8⟩:=hN _ _ _ q8
    have p8:=I8.pin (s2.heap.objs.size,_) (List.mem_append_right _ inD)
    have lenv:=va.length
    refine wpAny_list_append_plain (hsz:=by rw[←Array.length_toList,←lenv];exact Nat.le_of_lt hl) ⟨nn,p8.1⟩ fun h9 pl9 sb9=>?_
    have J8:Inv (X.comp scope N' G.objs.size fp pins s2 H2) [] σ6 H8 s8:=I8.pins_of fun p hp=>absurd hp (by simp)
    refine⟨m',hm',i+1,acc++[y],ys.push yv,σ6,H8,J8.turned (t':=s8.toks) (fun b o hb q=>(sb9.2 b hb).trans q) p8.2.1 hDC (.inr (Nat.le_refl _)) cD (fun p hp=>pnD p (by simpa[Cx.comp]using hp)),?_,(turned I8).2,pl9,?_,p8.2.1,w8⟩
    ·exact T.keep _ _ _ st5 fun b hb o q=>(sb9.2 b (fpD b hb).symm).trans ((turned I8).1 b hb o q)
    ·rw[Array.toList_push]
     exact va.append (.cons r8 .nil)
 exact codeAny_compStart_list (loop _ rfl) (T.self _ 0 _ _ _ (T.keep _ _ _ st2 fun b _ o q=>old b o q) (loop _ rfl))
theorem pe_comp {X:Cx}{elt tg iter:Expr}{ifs:List Expr}{scope:Scope}{pos:Pos}{wi:TI}{g:TG}{tt:TT}{te:TE}(sh:List Nat)(N':List Str)(more:Nat)(hcalm:X.calm=true)(hi:PI X tg iter wi)
  (hg:∀C fp pins s H,PG (X.comp scope N' C fp pins s H) tg g)(ht:∀C fp pins s H,PIf (X.comp scope N' C fp pins s H) ifs tt)(he:∀C fp pins s H,PE (X.comp scope N' C fp pins s H) elt te)
  (hc:L3.compOk X.env.scope scope X.N N' sh=true:=by rfl)(hm:N'.length=X.N.length+more:=by rfl)(hs:∀x,foldedSetIterable iter X.env x=pure x:=by intro _;rfl) :
  PE X (.ListComp elt [⟨tg,iter,ifs,0⟩] scope pos) (tComp wi g tt te sh more):=by
 intro pins s σ H Q I h
 rw[eval_ListComp]
 refine comp_any hcalm hi hg ht he hc hm hs (use:=none) I h fun D C s2 H2 fp pl σ4 H4 s4 n ys acc I2 f2 hC hD hDC I4 g4 va fD hl q=>?_
 obtain⟨m4,hn4,_⟩:=I4.loc
 exact⟨m4,hn4,fun h' sb=>⟨.ref D,_,comp_out I2 hC f2 I4 hD hDC g4 va fD hl sb,rfl,q⟩⟩
theorem ps_comp {X:Cx}{elt tg iter:Expr}{ifs:List Expr}{scope:Scope}{pos py spos:Pos}{y:Str}{wi:TI}{g:TG}{tt:TT}{te:TE}(i:Nat)(sh:List Nat)(N':List Str)(more:Nat)(hcalm:X.calm=true)(hN:X.N.Nodup)(hiy:X.N[i]?=some y)(hy:X.env.scope.names.lookup y=some .local)(hi:PI X tg iter wi)
  (hg:∀C fp pins s H,PG (X.comp scope N' C fp pins s H) tg g)(ht:∀C fp pins s H,PIf (X.comp scope N' C fp pins s H) ifs tt)(he:∀C fp pins s H,PE (X.comp scope N' C fp pins s H) elt te)
  (hc:L3.compOk X.env.scope scope X.N N' sh=true:=by rfl)(hm:N'.length=X.N.length+more:=by rfl)(hs:∀x,foldedSetIterable iter X.env x=pure x:=by intro _;rfl)
  (hsw:swapsWith (.ListComp elt [⟨tg,iter,ifs,0⟩] scope pos) (some (.Name y py)) spos.line X.env=pure true:=by rfl) :
  PS X (.Assign [.Name y py] (.ListComp elt [⟨tg,iter,ifs,0⟩] scope pos) spos) (tAsg (tComp wi g tt te sh more) (gName i)):=by
 intro pins s σ H D' I h
 rw[exec_Assign_Name_used _ _ _ _ hsw]
 refine wpAny_bind (wpAny_standAt (wpAny_bind ?_))
 show wpAny _ X.A (do let _ ←comprehension (.ListComp elt [⟨tg,iter,ifs,0⟩] scope pos) scope X.env _ (newList []) false (eval iter X.env) (some (assign (.Name y py) X.env))) _ _ s
 refine wpAny_bind (wpAny_mono (comp_any hcalm hi hg ht he hc hm hs (use:=some (assign (.Name y py) X.env)) (Qv:=fun _ s'=>SP X pins D' .next s') I h fun D C s2 H2 fp pl σ4 H4 s4 n ys acc I2 f2 hC hD hDC I4 g4 va fD hl q=>?_) (fun _ s' hq=>wpAny_pure (wpAny_pure hq)) fun _ _ e=>e)
 obtain⟨m4,hn4,_⟩:=I4.loc
 have Io:Inv X pins σ (upd H4 D (.lst acc)) s4:=comp_out I2 hC f2 I4 hD hDC g4 va fD hl (Heap.SameBut.refl ..)
 have lL:X.env.locals<C:=Nat.lt_of_lt_of_le I2.lt hC
 show wpAny _ X.A (assign (.Name y py) X.env (.ref D)) _ _ s4
 refine wpAny_assign_Name (store_ok2 Io hN hiy (.inl hy) (v:=.ref D) rfl (fun s5 I5 ⟨a,sb5,ha⟩=>?_) (.inr hy))
 have cC:∀x c,X.env.cells.lookup x=some c→c≠C:=fun x c z zz=>by
  obtain⟨v,z'⟩:=I2.cell x c z
  rw[zz]at z'
  exact absurd (Nat.lt_of_lt_of_le z'.lt hC) (Nat.lt_irrefl _)
 have aC:C≠a:=fun z=>by
  rcases ha with y'|y'
  ·rw[←z]at y';rw[y']at lL;exact absurd lL (Nat.lt_irrefl _)
  ·exact cC _ _ y' z.symm
 refine⟨m4,Heap.Ns.sameBut hn4 sb5 aC,fun h' sb=>⟨_,_,I5.turned (t':=s5.toks) (it:=C) (fun b o hb z=>(sb.2 b hb).trans z) ?_ (Nat.ne_of_gt lL) (.inr (Nat.le_trans I2.sz hC)) cC (fun p hp z=>?_),q⟩⟩
 ·rw[upd_ne hDC.symm]
  exact I4.free
 ·have q':=(I2.pin p hp).1
  rw[z]at q'
  exact absurd (Nat.lt_of_lt_of_le (Heap.lt_size q') hC) (Nat.lt_irrefl _)
section
variable {X:Cx}
def rCat0 (K:PySem.W.Frag):R2:=fun x y H Q=>∃a b xs ys,x=.ref a∧y=.ref b∧SqT K H a xs∧SqT K H b ys∧xs.length+ys.length≤sizeLine ∧
 (xs=[]→Q (.ref b) H)∧(xs≠[]→ys=[]→Q (.ref a) H)∧(xs≠[]→ys≠[]→∀p,H p=none→Q (.ref p) (upd H p (.tup (xs++ys))))
theorem op_cat0:OpR X (binaryOp .Add) (rCat0 X.K):=by
 intro pins s σ H x y v u Q I rx ry h
 obtain⟨a,b,xs,ys,rfl,rfl,ha,hb,hz,q0,q1,q2⟩:=h
 by_cases hx:xs=[]
 ·cases rx
  cases ry
  obtain⟨its,r1,p1,_⟩:=I.tuple ha
  obtain⟨its2,r2,p2,_⟩:=I.tuple hb
  have e1:its=[]:=r1.nil_iff.mpr hx
  obtain⟨⟨cls,dd,data,sl⟩,ho,hc,n,hd⟩:=id p1
  obtain⟨⟨cls2,dd2,data2,sl2⟩,ho2,hc2,n2,hd2⟩:=id p2
  simp only at hc hd hc2 hd2
  subst hc hd hc2 hd2
  exact concat_meets ⟨_,ho,rfl⟩ ⟨_,ho2,rfl⟩ noFill_tuple_add seq_tuple_add PySem.F.slot_tuple_add PySem.F.entry_tuple_add (PySem.F.args_tuple_add_2 _ _)
   (tuple_addW0 a b its.toArray its2.toArray n n2 dd dd2 sl sl2 (by simp[e1])) ⟨ho,ho2,⟨.ref b,H,I,rfl,q0 hx⟩⟩
 ·exact op_catT pins s σ H _ _ v u Q I rx ry ⟨a,b,xs,ys,rfl,rfl,ha,hb,hx,hz,fun z=>q1 hx z,fun z=>q2 hx z⟩
end
end L2
namespace L2
open PySem PySem.Spec PyProof.Rows
structure Fn (P:Program)(w:World)(K:PySem.W.Frag)(mg:Str→Option Value)(base:Heap)(x:Str)(ps:List Str)(k:Nat)(sp:Sp):Prop where
 ex:∃f fd,FnOk P w K mg base CX0 k f fd ps sp∧mg x=some (.ref f)∧PySem.W.keepIn K (.ref f)=true∧Binds K fd ps []
theorem Fn.of {P:Program}{w:World}{K:PySem.W.Frag}{mg:Str→Option Value}{base:Heap}{x:Str}{ps:List Str}{k:Nat}{sp:Sp}{f:Addr}{fd:FuncData}(O:FnOk P w K mg base CX0 k f fd ps sp)(m:mg x=some (.ref f))(kp:PySem.W.keepIn K (.ref f)=true)(b:Binds K fd ps []) :
  Fn P w K mg base x ps k sp:=⟨f,fd,O,m,kp,b⟩
section
variable {X:Cx}{x:Str}{ps:List Str}{k k':Nat}{sp:Sp}{e:Expr}{es:List Expr}{t:TA}{p pos:Pos}
theorem pe_fn (F:Fn X.prog X.w X.K X.mg X.base x ps k sp)(hr:Room k' X.A)(ha:PA X (e::es) t)(hk:k≤k':=by first|decide|exact Nat.le_refl _)(hg:Gl X x:=by rfl)(hdb:(x==("__debug__" : Str))=false:=by decide)
  (he:starEach (e::es) X.env=(false,eval e X.env)::starEach es X.env:=by rfl)(hpl:(backTo pos (starEach es X.env)).any (·.1)=false:=by rfl):PE X (.Call (.Name x p) (e::es) [] pos) (tCall sp [] E0 t):=by
 obtain⟨f,fd,O,m,kp,b⟩:=F.ex
 exact pe_call O (hr.mono hk) hg m kp b .nil pass0 ha hdb he hpl
theorem ps_join {st:Stmt}{t:TS}(h:PS X st t):PS X st (fun D σ H=>∃J:St→Hp→Prop,(∀σ' H',J σ' H'→D.nx σ' H')∧t { D with nx:=J } σ H):=by
 intro pins s σ H D I q
 obtain⟨J,hJ,q⟩:=q
 refine thn (h pins s σ H _ I q) fun f s1 r=>?_
 cases f with
 | next =>
  obtain⟨σ',H',I',r⟩:=r
  exact⟨σ',H',I',hJ _ _ r⟩
 | ret v=>exact r
 | brk=>exact r
 | cont=>exact r
end
section
variable {X:Cx}
theorem pg_tupK (K:PySem.W.Frag)(n:Nat){es:List Expr}{k:Nat}{t:TGs}{pos:Pos}(hc:X.calm=true)(h:PGs X es t)(hK:X.K=K)(hn:(assignEach es X.env).length=n)(hst:(assignEach es X.env).findIdx? (·.1)=none):PG X (.Tuple es k pos) (gTup K n t):=by
 subst hK
 exact pg_tup hc h hn hst
theorem ix_tupK (K:PySem.W.Frag)(hK:X.K=K):IxR X (rIxT K):=by
 subst hK
 exact ix_tup
theorem ix_listK (K:PySem.W.Frag)(hK:X.K=K):IxR X (rIxL K):=by
 subst hK
 exact ix_list
end
theorem same_new {H:Hp}{p:Addr}(h:H p=none)(o:HO):Same H (upd H p o):=fun b u q=>by rw[upd_ne (ne_of_none q h)];exact q
theorem small {n:Nat}(h:n≤1000000):n≤sizeLine:=Nat.le_trans h (by rw[sizeLine_eq];decide)
theorem smallL {n:Nat}(h:n≤1000000):n<sizeLine:=Nat.lt_of_le_of_lt h (by rw[sizeLine_eq];decide)
def Scr (K:PySem.W.Frag)(H:Hp)(a:Addr)(ns:List Int):Prop:=(∃o,H a=some (.frz o (.lst (ns.map V.int)))) ∨
 ∃(o:Obj)(its:Array Value)(n:Nat),K.lookup a=some o∧o.cls=.type "list"∧o.dict=none∧o.data=.seq its n∧its.size≤sizeLine∧Vals (ns.map V.int) its.toList
theorem Scr.seq {K:PySem.W.Frag}{H:Hp}{a:Addr}{ns:List Int}(h:Scr K H a ns):SqL K H a (ns.map V.int):=by
 rcases h with ⟨o,h⟩|h
 ·exact .inl (.inr ⟨o,h⟩)
 ·exact .inr h
theorem Scr.of {K:PySem.W.Frag}{H:Hp}{a:Addr}{ns:List Int}(h:SqL K H a (ns.map V.int))(o:Only H):Scr K H a ns:=by
 rcases h with (h|⟨ob,h⟩)|h
 ·rcases o a with z|⟨ob,xs,z⟩
  ·rw[z]at h;cases h
  ·rw[z]at h;cases h
 ·exact .inl ⟨ob,h⟩
 ·exact .inr h
noncomputable abbrev zeros (k:Nat):List V:=List.replicate k (V.int 0)
def Twn (H:Hp)(t:Addr)(k:Nat):Prop:=H t=some (.lst (zeros k))
def Grow (t:Addr)(H H':Hp):Prop:=∀b o,b≠t→H b=some o→H' b=some o
theorem Grow.refl (t:Addr)(H:Hp):Grow t H H:=fun _ _ _ h=>h
theorem Grow.trans {t:Addr}{H H1 H2:Hp}(a:Grow t H H1)(b:Grow t H1 H2):Grow t H H2:=fun c o n h=>b c o n (a c o n h)
theorem Grow.same {t:Addr}{H H1:Hp}(a:Same H H1):Grow t H H1:=fun c o _ h=>a c o h
theorem Grow.upd {t:Addr}{H:Hp}(o:HO):Grow t H (upd H t o):=fun c u n h=>by rw[upd_ne n];exact h
theorem Grow.scr {K:PySem.W.Frag}{t a:Addr}{H H':Hp}{ns:List Int}{k:Nat}(g:Grow t H H')(tw:Twn H t k)(s:Scr K H a ns):Scr K H' a ns:=by
 rcases s with ⟨o,h⟩|h
 ·exact .inl ⟨o,g _ _ (fun z=>by subst z;unfold Twn at tw;rw[tw]at h;cases h) h⟩
 ·exact .inr h
theorem Same.scr {K:PySem.W.Frag}{a:Addr}{H H':Hp}{ns:List Int}(g:Same H H')(s:Scr K H a ns):Scr K H' a ns:=by
 rcases s with ⟨o,h⟩|h
 ·exact .inl ⟨o,g _ _ h⟩
 ·exact .inr h
theorem Same.twn {t:Addr}{H H':Hp}{k:Nat}(g:Same H H')(s:Twn H t k):Twn H' t k:=g _ _ s
noncomputable def scl:V→Bool
 |.non=>true |.bl _=>true |.int _=>true |.str _=>true|_=>false
noncomputable def Eqv (H:Hp):Nat→V→V→Prop
 | 0,_,_=>False
 | n+1,x,y=>(x=y∧scl x=true)∨∃a b xs ys,x=.ref a∧y=.ref b∧H a=some (.tup xs)∧H b=some (.tup ys)∧xs.length≤1000000∧Paired (Eqv H n) xs ys
theorem Eqv.int {H:Hp}{n:Nat}(i:Int):Eqv H (n+1) (.int i) (.int i):=.inl ⟨rfl,rfl⟩
noncomputable def lcell (ns:List Int)(k:Nat):Int:=if ns=[]then 0 else ns.getD (k%ns.length) 0
noncomputable def drw1 (ns:List Int)(k:Nat):Int:=(lcell ns k+104729*(k:Int))%4294967291
noncomputable def drw2 (ns:List Int)(k:Nat):Int:=drw1 ns k*drw1 ns k%4294967279*48271%4294967291
noncomputable def drw3 (ns:List Int)(k:Nat):Int:=drw2 ns k*drw2 ns k%4294967279*69621%4294967291
noncomputable def drw (ns:List Int)(k:Nat)(m:Int):Int:=(drw2 ns k / 64*67108864+drw3 ns k / 64)%m
theorem drw_nn (ns:List Int)(k:Nat){m:Int}(h:0<m):0≤drw ns k m:=Int.emod_nonneg _ (by omega)
theorem drw_lt (ns:List Int)(k:Nat){m:Int}(h:0<m):drw ns k m<m:=Int.emod_lt_of_pos _ h
def spDraw (K:PySem.W.Frag):Sp:=fun vs H Q _=>∃(a t:Addr)(ns:List Int)(k:Nat)(m:Int),vs=[.ref a,.ref t,.int m]∧Scr K H a ns∧ns.length≤63∧Twn H t k∧k≤900000∧0<m ∧
 ∀H',Grow t H H'→Twn H' t (k+1)→Q (.int (drw ns (k+1) m)) H'
def spLaw (K:PySem.W.Frag):Sp:=fun vs H Q _=>∃(a:Addr)(ns:List Int),vs=[.ref a]∧Scr K H a ns∧ns.length≤63∧∀H',Q (.bl true) H'
end L2
set_option maxRecDepth 100000
namespace L2
open PySem
def Tr (B h:Heap)(e:Addr)(cls c fl:Value):Prop :=
 ∃oe vs T oT ts,h.get? e=some oe∧oe.cls=cls∧oe.data=.fields vs∧vs[2]?=some c∧vs[1]?=some (.ref T)∧B.get? T=none∧T≠e∧h.get? T=some oT∧oT.data=.fields ts∧ts[3]?=some fl
def Fl (B:Heap)(l:List Env)(e:Addr)(cls c fl:Value)(h:Heap):Prop :=
 B.StaysIn h∧B.get? e=none∧h.FunFrames B l∧Tr B h e cls c fl
theorem Fl.rest {B h:Heap}{env:Env}{outer:List Env}{e:Addr}{cls c fl:Value}(x:Fl B (env::outer) e cls c fl h):Fl B outer e cls c fl h:=by
 obtain⟨x1,x2,⟨_,_,x3⟩,x4⟩:=x
 exact⟨x1,x2,x3,x4⟩
section
variable {M:Model}{A:Around}{E:Value→Shared→Prop}{s:Shared}{B:Heap}{env:Env}{outer:List Env}{L e:Addr}{oe:Obj}{vs:Array Value}{cls c:Value}{Q:Unit→Shared→Prop}
theorem fl_entry {head:Value}{nx:Bool}(fA:A.frames=some (env::outer))(fF:s.heap.FunFrames B (env::outer))(fL:env.frame=some L)(e1:s.heap.get? e=some oe)(sB:B.StaysIn s.heap)(eB:B.get? e=none)(ed:oe.data=.fields vs)(ec:vs[2]?=some c)
  (q:∀g,Fl B (env::outer) e oe.cls c (rawInt L) g→s.heap.UpToSlots g→Q () { s with heap:=g }) :
  wpAny M A (do let a ←frameOf env;let pl ←entryPlaceOf L nx;let b ←EntryCells.newEntry head a .none (rawInt L) .none pl;setField (.ref e) 1 b) Q E s:=by
 have ez:2<vs.size:=(Array.getElem?_eq_some_iff.mp ec).1
 have notF:∀b o ws,s.heap.get? b=some o→o.data=.fields ws→b∉(env::outer).filterMap (·.frame):=fun b o ws e2 e3 y=>by
  obtain⟨_,o',e4,n4⟩:=fF.mem y
  rw[e2]at e4;cases e4;exact n4 ws e3
 refine wpAny_bind (wpAny_frameOf_fun fA fF fL fun g1 sl=>wpAny_bind (wpAny_entryPlaceOf fun pl hpl=>?_))
 unfold EntryCells.newEntry newFields
 refine wpAny_bind (wpAny_newObj_type ?_ (hpl.sizeOk5 _ _ _ _ _))
 have tb:∃ts,(.fields ([head,.ref L,.none,rawInt L,.none]++(if pl.isEmpty then List.replicate 6 Value.none else pl)).toArray:Data)=.fields ts∧ts[3]?=some (rawInt L):=⟨_,rfl,by simp⟩
 generalize (Data.fields ([head,.ref L,.none,rawInt L,.none]++(if pl.isEmpty then List.replicate 6 Value.none else pl)).toArray)=da at tb ⊢
 obtain⟨ts,rfl,t3⟩:=tb
 have g1e:g1.get? e=some oe:=(sl.2.1 e (notF e oe vs e1 ed)).trans e1
 have ob:=Heap.get?_push_of_some (h:=g1) { cls:=.type "traceback",dict:=none,data:=.fields ts } g1e
 have ob2:=Heap.get?_push_size g1 (o:={ cls:=.type "traceback",dict:=none,data:=.fields ts }) rfl
 refine wpAny_setField ob ed (by omega) (q _ ?_ ?_)
 all_goals
  have far:g1.objs.size≠e:=Nat.ne_of_gt (Heap.lt_size g1e)
  have kp:∀b o,b≠e→g1.get? b=some o→((g1.push { cls:=.type "traceback",dict:=none,data:=.fields ts }).update e (Obj.mapFields (·.setIfInBounds 1 (Value.ref g1.objs.size)))).get? b=some o:=fun b o n y =>
   (Heap.get?_update_other _ _ (Ne.symm n)).trans (Heap.get?_push_of_some _ y)
  have rec0:∀b o,s.heap.get? b=some o→(∀ws,o.data≠.fields ws)→b≠e:=fun b o y n z=>by
   subst z;rw[e1]at y;cases y;exact n vs ed
 ·have inB:∀b o,B.get? b=some o→g1.get? b=some o:=fun b o y=>(sl.2.1 b fun z=>by rw[(fF.mem z).1]at y;cases y).trans (sB b o y)
  have ed2:=Obj.data_mapFields ed (·.setIfInBounds 1 (Value.ref g1.objs.size))
  refine⟨fun b o y=>kp b o (fun z=>by subst z;rw[eB]at y;cases y) (inB b o y),eB,fF.of_keeps fun b o y n=>?_,_,_,g1.objs.size,_,ts,Heap.get?_update_self _ ob (Obj.isFreed_of_fields ed2),Obj.cls_mapFields _ _,ed2,?_,?_,?_,far,(Heap.get?_update_other _ _ (Ne.symm far)).trans ob2,rfl,t3⟩
  ·obtain⟨sl2,y2⟩:=sl.2.2 b o y
   exact⟨_,kp b _ (rec0 b o y n) y2,rfl⟩
  ·rw[Array.getElem?_setIfInBounds_ne (by decide)];exact ec
  ·simp[show 1<vs.size by omega]
  ·cases y:B.get? g1.objs.size with
   | none=>rfl
   | some o=>exact absurd (Heap.lt_size (inB _ _ y)) (Nat.lt_irrefl _)
 ·intro b o y n
  obtain⟨sl2,y2⟩:=sl.2.2 b o y
  exact⟨sl2,kp b _ (rec0 b o y n) y2⟩
theorem fl_new (fA:A.frames=some (env::outer))(fF:s.heap.FunFrames B (env::outer))(fL:env.frame=some L)(e1:s.heap.get? e=some oe)(sB:B.StaysIn s.heap)(eB:B.get? e=none)(ed:oe.data=.fields vs)(ec:vs[2]?=some c)(et:vs[1]?=some .none)
  (q:∀g,Fl B (env::outer) e oe.cls c (rawInt L) g→s.heap.UpToSlots g→Q () { s with heap:=g }):wpAny M A (noteFrame (.ref e) env) Q E s:=by
 unfold noteFrame
 simp only[fL]
 refine wpAny_bind (wpAny_field e1 ed et ?_)
 rw[if_neg (by decide)]
 exact fl_entry fA fF fL e1 sB eB ed ec q
theorem fl_note (fA : A.frames = some (env :: outer)) (fL : env.frame = some L) (x : Fl B (env :: outer) e cls c .none s.heap)
    (q : ∀ g,Fl B (env :: outer) e cls c (rawInt L) g→s.heap.UpToSlots g→Q () { s with heap:=g }) : wpAny M A (noteFrame (.ref e) env) Q E s:=by
  obtain ⟨sB,eB,fF,oe,vs,T,oT,ts,e1,rfl,ed,ec,et,tB,tn,t1,td,t3⟩:=x
  unfold noteFrame
  simp only [fL]
  refine wpAny_bind (wpAny_field e1 ed et ?_)
  rw [if_pos (show (Value.ref T != Value.none) = true by simp)]
  refine wpAny_bind (wpAny_field t1 td t3 ?_)
  rw [if_neg (show ¬ ((Value.none == rawInt L) = true) by simp [rawInt])]
  refine wpAny_bind (wpAny_setField t1 td (Array.getElem?_eq_some_iff.mp t3).1 ?_)
  have oth : ∀ b,b≠T→(s.heap.update T (Obj.mapFields (·.setIfInBounds 3 Value.none))).get? b = s.heap.get? b:=fun b n=>Heap.get?_update_other _ _ (Ne.symm n)
  have rec0 : ∀ b o,s.heap.get? b = some o→(∀ ws,o.data ≠ .fields ws)→b≠T:=fun b o y n z=>by
    subst z; rw [t1] at y; cases y; exact n ts td
  refine fl_entry (s := { s with heap:=s.heap.update T (Obj.mapFields (·.setIfInBounds 3 Value.none)) }) fA (fF.of_keeps fun b o y n=>⟨o,(oth b (rec0 b o y n)).trans y,rfl⟩) fL ((oth e (Ne.symm tn)).trans e1) (fun b o y=>(oth b fun z=>by subst z; rw [tB] at y; cases y).trans (sB b o y)) eB ed ec
    fun g y1 y2=>q g y1 fun b o z n=>y2 b o ((oth b (rec0 b o z n)).trans z) n
theorem fl_land {l : List Env} {fl : Value} (x : Fl B l e cls c fl s.heap) (q : ∀ g,Fl B l e cls c .none g→s.heap.UpToSlots g→Q () { s with heap:=g }) : wpAny M A (setFlight (.ref e) none) Q E s:=by
  obtain ⟨sB,eB,fF,oe,vs,T,oT,ts,e1,ek,ed,ec,et,tB,tn,t1,td,t3⟩:=x
  have z3 : 3 < ts.size:=(Array.getElem?_eq_some_iff.mp t3).1
  have oth : ∀ b,b≠T→(s.heap.update T (Obj.mapFields (·.setIfInBounds 3 ((none : Option Addr).elim Value.none fun f=>rawInt f)))).get? b = s.heap.get? b:=fun b n=>Heap.get?_update_other _ _ (Ne.symm n)
  have rec0 : ∀ b o,s.heap.get? b = some o→(∀ ws,o.data ≠ .fields ws)→b≠T:=fun b o y n z=>by
    subst z; rw [t1] at y; cases y; exact n ts td
  unfold setFlight
  refine wpAny_bind (wpAny_field e1 ed et ?_)
  rw [if_pos (show (Value.ref T != Value.none) = true by simp)]
  refine wpAny_setField t1 td z3 (q _ ⟨fun b o y=>(oth b fun z=>by subst z; rw [tB] at y; cases y).trans (sB b o y),eB,fF.of_keeps fun b o y n=>⟨o,(oth b (rec0 b o y n)).trans y,rfl⟩,oe,vs,T,_,_,(oth e (Ne.symm tn)).trans e1,ek,ed,ec,et,tB,tn,Heap.get?_update_self _ t1 (Obj.isFreed_of_fields (Obj.data_mapFields td _)),Obj.data_mapFields td _, ?_⟩ fun b o y n=>⟨o.slots,(oth b (rec0 b o y n)).trans y⟩)
  simp [z3]
theorem fl_leave (fA:A.frames=some (env::outer))(fL:env.frame=some L)(x:Fl B (env::outer) e cls c .none s.heap)
  (q:∀g,Fl B outer e cls c .none g→s.heap.UpToSlots g→Q () { s with heap:=g }):wpAny M A (leaving env (.ref e)) Q E s:=by
 unfold leaving
 exact wpAny_bind (fl_note fA fL x fun g1 y1 u1=>fl_land (s:={ s with heap:=g1 }) y1 fun g2 y2 u2=>q g2 y2.rest (u1.trans u2))
theorem fl_leaveNew (fA:A.frames=some (env::outer))(fF:s.heap.FunFrames B (env::outer))(fL:env.frame=some L)(e1:s.heap.get? e=some oe)(sB:B.StaysIn s.heap)(eB:B.get? e=none)(ed:oe.data=.fields vs)(ec:vs[2]?=some c)(et:vs[1]?=some .none)
  (q:∀g,Fl B outer e oe.cls c .none g→s.heap.UpToSlots g→Q () { s with heap:=g }):wpAny M A (leaving env (.ref e)) Q E s:=by
 unfold leaving
 exact wpAny_bind (fl_new fA fF fL e1 sB eB ed ec et fun g1 y1 u1=>fl_land (s:={ s with heap:=g1 }) y1 fun g2 y2 u2=>q g2 y2.rest (u1.trans u2))
end
end L2
namespace L2
open PySem
inductive Reach (h:Heap):Value→Value→Prop
 | refl (v:Value):Reach h v v
 | step {a:Addr}{o:Obj}{vs:Array Value}{v u:Value}:h.get? a=some o→o.data=.fields vs→vs[2]?=some v→Reach h v u→Reach h (.ref a) u
theorem Reach.snoc {h:Heap}{u:Value}{b:Addr}{o:Obj}{vs:Array Value}{v:Value}(x:Reach h u (.ref b))(e1:h.get? b=some o)(e2:o.data=.fields vs)(e3:vs[2]?=some v):Reach h u v:=by
 generalize hz:Value.ref b=z at x
 induction x with
 | refl y=>subst hz;exact .step e1 e2 e3 (.refl _)
 | step a1 a2 a3 _ ih=>exact .step a1 a2 a3 (ih hz)
noncomputable def Chain (h:Heap)(F:Addr→Prop):Nat→Value→Prop
 | 0,v=>v=.none
 | n+1,v=>v=.none∨∃a o vs c,v=.ref a∧h.get? a=some o∧F a∧o.data=.fields vs∧vs[2]?=some c∧Chain h F n c
theorem Chain.imp {h g:Heap}{F G:Addr→Prop}(k:∀a o vs,F a→h.get? a=some o→o.data=.fields vs→g.get? a=some o∧G a):∀{n:Nat}{v:Value},Chain h F n v→Chain g G n v
 | 0,_,x=>x
 | n+1,_,x=>by
  rcases x with x|⟨a,o,vs,c,e1,e2,e3,e4,e5,r⟩
  ·exact .inl x
  ·exact .inr ⟨a,o,vs,c,e1,(k a o vs e3 e2 e4).1,(k a o vs e3 e2 e4).2,e4,e5,Chain.imp k r⟩
noncomputable def ChainP (ps:List (Addr×Obj)):Nat→Value→Prop
 | 0,v=>v=.none
 | n+1,v=>v=.none∨∃a o vs c,v=.ref a∧(a,o)∈ps∧o.data=.fields vs∧vs[2]?=some c∧ChainP ps n c
theorem ChainP.more {ps qs:List (Addr×Obj)}(k:∀p∈ps,p∈qs):∀{n:Nat}{v:Value},ChainP ps n v→ChainP qs n v
 | 0,_,x=>x
 | n+1,_,x=>by
  rcases x with x|⟨a,o,vs,c,e1,e2,e4,e5,r⟩
  ·exact .inl x
  ·exact .inr ⟨a,o,vs,c,e1,k _ e2,e4,e5,ChainP.more k r⟩
theorem ChainP.chain {h:Heap}{F:Addr→Prop}{ps:List (Addr×Obj)}(k:∀p∈ps,h.get? p.1=some p.2∧F p.1):∀{n:Nat}{v:Value},ChainP ps n v→Chain h F n v
 | 0,_,x=>x
 | n+1,_,x=>by
  rcases x with x|⟨a,o,vs,c,e1,e2,e4,e5,r⟩
  ·exact .inl x
  ·exact .inr ⟨a,o,vs,c,e1,(k _ e2).1,(k _ e2).2,e4,e5,ChainP.chain k r⟩
theorem Chain.pins {h:Heap}{F:Addr→Prop}:∀{n:Nat}{v:Value},Chain h F n v→∃ps:List (Addr×Obj),(∀p∈ps,h.get? p.1=some p.2∧F p.1∧∃vs,p.2.data=.fields vs)∧ChainP ps n v
 | 0,_,x=>⟨[],fun _ y=>absurd y (by simp),x⟩
 | n+1,_,x=>by
  rcases x with x|⟨a,o,vs,c,e1,e2,e3,e4,e5,r⟩
  ·exact⟨[],fun _ y=>absurd y (by simp),.inl x⟩
  ·obtain⟨ps,k,r⟩:=Chain.pins r
   refine⟨(a,o)::ps,fun p y=>?_,.inr ⟨a,o,vs,c,e1,List.mem_cons_self,e4,e5,r.more fun p y=>List.mem_cons_of_mem _ y⟩⟩
   rcases List.mem_cons.mp y with rfl|y
   ·exact⟨e2,e3,vs,e4⟩
   ·exact k p y
theorem entry_unchain:entryFor table "proto.unchain"=some Builtin.«proto.unchain»:=entryFor_of_tree (by kernel_rfl)
section
variable {prog:Program}{w:World}
theorem unchain_ok {e:Addr}:∀(n:Nat){A:Around}{R:Result→Shared→Prop}{s:Shared}{o:Addr}{oo:Obj}{vs:Array Value}{c slow:Value}{tg:Bool},s.heap.get? o=some oo→oo.data=.fields vs→vs[2]?=some c→Chain s.heap (·≠e) n c→Reach s.heap slow (.ref o) →
  R (.ok (.ret .none)) s→codeAny (model prog w) A (.builtin "proto.unchain" ⟨[.ref e,.ref o,slow,.bool tg],[]⟩) R s:=by
 intro n
 induction n with
 | zero =>
  intro A R s o oo vs c slow tg e1 e2 e3 ch rc q
  obtain rfl:c=.none:=ch
  refine codeAny_builtin entry_unchain ?_
  unfold Builtin.«proto.unchain»
  refine wpAny_bind (wpAny_field e1 e2 e3 ?_)
  rw[if_pos (by simp)]
  exact wpAny_pure q
 | succ n ih =>
  intro A R s o oo vs c slow tg e1 e2 e3 ch rc q
  refine codeAny_builtin entry_unchain ?_
  unfold Builtin.«proto.unchain»
  refine wpAny_bind (wpAny_field e1 e2 e3 ?_)
  rcases ch with rfl|⟨a,oa,ws,d,rfl,a1,a2,a3,a4,r⟩
  ·rw[if_pos (by simp)]
   exact wpAny_pure q
  rw[if_neg (by simp),if_neg (by simpa using a2)]
  by_cases hs:(Value.ref a==slow)=true
  ·rw[if_pos hs]
   exact wpAny_bind (wpAny_rule (wpAny_pure q))
  rw[if_neg hs]
  have rc2:Reach s.heap slow (.ref a):=rc.snoc e1 e2 e3
  cases tg with
  | false=>exact wpAny_bind (wpAny_pure (wpAny_pure ⟨Code.quiet_builtin _ (by decide +kernel),ih a1 a3 a4 r rc2 q⟩))
  | true =>
   cases rc2 with
   | refl=>exact absurd (by simp) hs
   | step b1 b2 b3 rc3=>exact wpAny_bind (wpAny_field b1 b2 b3 (wpAny_pure ⟨Code.quiet_builtin _ (by decide +kernel),ih a1 a3 a4 r rc3 q⟩))
end
end L2
namespace L2
open PySem
section
variable {prog:Program}{w:World}{A:Around}{E:Value→Shared→Prop}{env:Env}
variable {nm q:Str}{C N:Addr}{bs bm bmB:List Value}{hdct:Bool}{sn:List Str}{sub:List Value}{ab:Bool}{col:Option Bool}{dd:Option Addr}{k0 k1 k2 k3 k5:Option Value}{newId:String}
def Behind (h:Heap)(F:Addr→Prop)(y:Addr):Prop:=∃n,Chain h F (n+1) (.ref y)
theorem raiseNew_behind {α:Type}{Q:α→Shared→Prop}{s:Shared}{e y:Addr}{oe:Obj}{vs:Array Value}(hh:A.handled=some (.ref y))(he:s.heap.get? e=some oe)(hd:oe.data=.fields vs)(hz:2<vs.size)(hy:Behind s.heap (·≠e) y)
  (hE:E (.ref e) { s with heap:=s.heap.update e (Obj.mapFields (·.setIfInBounds 2 (.ref y))) }):wpAny (model prog w) A (raiseNew (.ref e):Sem α) Q E s:=by
 obtain⟨n,z|⟨a,o,ws,c,z,e1,e2,e3,e4,r⟩⟩:=hy
 ·cases z
 cases z
 unfold raiseNew
 refine wpAny_bind (wpAny_handled ?_)
 rw[hh]
 dsimp only
 rw[if_pos (by simpa using e2)]
 refine wpAny_bind (wpAny_holding (wpAny_runValue (unchain_ok n e1 e3 e4 r (.refl _) ?_)))
 simp only[updateField]
 refine wpAny_bind (wpAny_bind (wpAny_load he ?_))
 rw[hd]
 dsimp only
 rw[if_pos hz]
 exact wpAny_update he (wpAny_throw hE)
theorem raiseStmt_behind {s:Shared}{x z:Sem Value}{Q:Flow→Shared→Prop}{y:Addr}(hbase:bm.contains (.type "BaseException")=true)(hh:A.handled=some (.ref y))(hz:∀s',wpAny (model prog w) A z (fun v s''=>v=.none∧s''=s') E s')
  (h:wpAny (model prog w) A x (fun v s₁=>∃e t,v=.ref e∧s₁.heap.get? C=some (excClassObj nm q C N bs bm hdct sn sub ab col dd k0 k1 k2 k3 k5 newId) ∧
   s₁.heap.get? e=some { cls:=.ref C,data:=.fields #[.ref t,.none,.none,.none,.bool false,.none] }∧Behind s₁.heap (·≠e) y ∧
   ∀g,g.get? e=some { cls:=.ref C,data:=.fields #[.ref t,.none,.ref y,.none,.bool true,.none] }→(∀b,b≠e→g.get? b=s₁.heap.get? b)→E (.ref e) { s₁ with heap:=g }) E s) :
  wpAny (model prog w) A (raiseStmt env (some x) (some z)) Q E s:=by
 have hcB:(Value.ref C::bm).contains (.type "BaseException")=true:=by rw[List.contains_cons,hbase,Bool.or_true]
 unfold raiseStmt
 refine wpAny_bind (wpAny_mono h (fun v s₁ h₁=>?_) fun _ _ u=>u)
 obtain⟨e,t,rfl,hC,he,hy,hE⟩:=h₁
 refine wpAny_bind (wpAny_holding (wpAny_mono (hz s₁) (fun v s₂ h₂=>?_) fun _ _ u=>u))
 obtain⟨rfl,rfl⟩:=h₂
 refine wpAny_bind (wpAny_pure ?_)
 obtain⟨hp,g,d,tk,os⟩:=s₂
 have hne:C≠e:=fun u=>by rw[u]at hC;have hw:=hC.symm.trans he;injection hw with hw;injection hw with _ _ hw;cases hw
 have he2:((hp.update e (Obj.mapFields (·.setIfInBounds 3 Value.none))).update e (Obj.mapFields (·.setIfInBounds 4 (Value.bool true)))).get? e=some { cls:=.ref C,data:=.fields #[.ref t,.none,.none,.none,.bool true,.none] } :=
  Heap.get?_update_self _ (Heap.get?_update_self _ he rfl) rfl
 have ot2:∀b,b≠e→((hp.update e (Obj.mapFields (·.setIfInBounds 3 Value.none))).update e (Obj.mapFields (·.setIfInBounds 4 (Value.bool true)))).get? b=hp.get? b:=fun b n =>
  (Heap.get?_update_other _ _ (Ne.symm n)).trans (Heap.get?_update_other _ _ (Ne.symm n))
 have hC2:=(ot2 C hne).trans hC
 repeat (first|with_reducible refine wpAny_loadPart_at he2 ?_|with_reducible refine wpAny_loadPart_at hC2 ?_|with_reducible refine wpAny_loadPart_at he ?_|with_reducible refine wpAny_loadPart_at hC ?_|(with_reducible refine wpAny_isSubtype_exc hC ?_;rw[hcB])|wp_step)
 refine raiseNew_behind hh he2 rfl (by show 2<6;decide) ?_ (hE _ (Heap.get?_update_self _ he2 rfl) fun b n=>(Heap.get?_update_other _ _ (Ne.symm n)).trans (ot2 b n))
 obtain⟨n,hy⟩:=hy
 exact⟨n,hy.imp fun a o _ na ea _=>⟨(ot2 a na).trans ea,na⟩⟩
end
end L2
namespace L2
open PySem
section
variable {prog:Program}{w:World}{A:Around}{E:Value→Shared→Prop}{s:Shared}{env:Env}
variable {nm q:Str}{C N:Addr}{bs bm bmB:List Value}{hdct:Bool}{sn:List Str}{sub:List Value}{ab:Bool}{col:Option Bool}{dd:Option Addr}{k0 k1 k2 k3 k5:Option Value}{T newId initId:String}
theorem Raise_behind (F:ExcBaseFacts T newId initId bmB){mN:Str→Option Value}{x:Str}{np cpos pos p2:Pos}{j:Nat}{args:List Expr}{Q:Flow→Shared→Prop}{y:Addr}(hb:bm.contains (.type "BaseException")=true)(hh:A.handled=some (.ref y))
  (hp:(backTo cpos (starEach args env)).any (·.1)=false)(hi:mN "__init__"=none)
  (h:wpAny (model prog w) A (eval (.Name x np) env) (fun f s₁=>f=.ref C∧wpAny (model prog w) A (evalArgs (.ref C) true (backTo cpos (starEach args env)) [])
   (fun a s₂=>a.kw=[]∧a.pos.length≤sizeLine∧s₂.heap.get? C=some (excClassObj nm q C N bs bm hdct sn sub ab col dd k0 k1 k2 k3 k5 newId)∧s₂.heap.Ns N mN∧OwnTail s₂.heap bmB bm ∧
    ∀h' e,Heap.MadeExcOf s₂.heap h' e (.ref C) a.pos→Behind h' (·≠e) y∧∀g t,g.get? e=some { cls:=.ref C,data:=.fields #[.ref t,.none,.ref y,.none,.bool true,.none] }→(∀b,b≠e→g.get? b=h'.get? b)→E (.ref e) { s₂ with heap:=g }) E s₁) E s) :
  wpAny (model prog w) A (exec (.Raise (some (.Call (.Name x np) args [] cpos)) (some (.Constant .none j p2)) pos) env) Q E s:=by
 rw[arm_exec_Raise]
 refine wpAny_bind (wpAny_standAt (raiseStmt_behind (C:=C) (N:=N) (nm:=nm) (q:=q) (bs:=bs) (bm:=bm) (sn:=sn) (sub:=sub) (hdct:=hdct) (ab:=ab) (col:=col) (dd:=dd) (k0:=k0) (k1:=k1) (k2:=k2) (k3:=k3) (k5:=k5) (newId:=newId) (y:=y) hb hh (fun s'=>?_) ?_))
 ·exact wpAny_bind (wpAny_Constant_none (wpAny_bind (wpAny_standAt (wpAny_pure ⟨rfl,rfl⟩))))
 refine wpAny_bind (wpAny_mono (wpAny_Call_ofName (wpAny_mono h (fun f s₁ z1=>?_) fun _ _ u=>u)) (fun v s₃ z3=>wpAny_bind (wpAny_standAt (wpAny_pure z3))) fun _ _ u=>u)
 obtain⟨rfl,z1⟩:=z1
 unfold callWith
 refine wpAny_bind (wpAny_holding (wpAny_mono z1 (fun a s₂ z2=>wpAny_bind (wpAny_standAt ?_)) fun _ _ u=>u))
 obtain⟨ap,ak⟩:=a
 obtain⟨ek,hl,hC,hn,ht,z2⟩:=z2
 obtain rfl:ak=[]:=ek
 obtain⟨hp2,g,d,tk,os⟩:=s₂
 simp only[hp]
 refine wpAny_bind (wpAny_keeperOf_exc hC ?_)
 refine wpAny_bind (wpAny_call_exc_subT (hrest:=hl) F ht hC hn hi fun h' e hm=>wpAny_bind (wpAny_holding (wpAny_point (wpAny_pure ?_))))
 obtain⟨t,e1,_,_⟩:=hm.there
 exact⟨e,t,rfl,hm.keeps _ _ hC,e1,(z2 h' e hm).1,fun g y1 y2=>(z2 h' e hm).2 g t y1 y2⟩
end
end L2
namespace L2
open PySem PySem.Spec PyProof.Rows
theorem hok_none {P:Program}{w:World}{H:Hp}{h:Heap}{a:Addr}(x:HOk P w H h)(e:h.get? a=none):H a=none:=by
 cases q:H a with
 | none=>rfl
 | some o =>
  have y:=x a o q
  have:∃ob,h.get? a=some ob:=by
   cases o with
   | lst xs=>obtain⟨_,_,_,_,e⟩:=y;exact⟨_,e⟩
   | tup xs=>obtain⟨_,_,_,⟨_,e,_⟩,_⟩:=y;exact⟨_,e⟩
   | dK kvs=>obtain⟨_,_,_,_,o,_,_,e,_⟩:=y;exact⟨_,e⟩
   | dT kvs=>obtain⟨_,_,_,_,o,_,_,e,_⟩:=y;exact⟨_,e⟩
   | set S n=>obtain⟨o,_,_,_,e,_⟩:=y;exact⟨_,e⟩
   | ins C dx fs=>obtain⟨_,_,_,e,_⟩:=y;exact⟨_,e⟩
   | own y=>obtain⟨_,e⟩:=y;exact⟨_,e⟩
   | xd fs=>obtain⟨_,⟨_,_,_,e,_⟩,_⟩:=y;exact⟨_,e⟩
   | rng lo hi=>obtain⟨_,_,_,e⟩:=y;exact⟨_,e⟩
   | frz ob u=>obtain⟨e,_⟩:=y;exact⟨_,e⟩
   | tbl ps=>exact⟨_,show h.get? a=some _ from y⟩
   | met f z=>exact⟨_,show h.get? a=some _ from y⟩
   | ext φ=>obtain⟨_,⟨_,e⟩,_⟩:=y;exact⟨_,e⟩
  obtain⟨ob,z⟩:=this
  rw[e]at z;cases z
structure Flown (P:Program)(w:World)(outer:List Env)(H:Hp)(s:Shared)(x C:Addr)(c:Value)(B:Heap)(H':Hp)(s':Shared):Prop where
 fly:Fl B outer x (.ref C) c .none s'.heap
 os:s'.os=s.os
 bare:AllBare s'.gens
 k1:∀b o,s.heap.get? b=some o→H b=none→b∉frs outer→B.get? b=some o
 k2:∀b o,s.heap.get? b=some o→H b=none→b∈frs outer→∃sl,s'.heap.get? b=some { o with slots:=sl }
 k3:∀b o,s.heap.get? b=some o→b∉frs outer→∃o',B.get? b=some o'
 free:∀b o,s.heap.get? b=some o→H b=none→H' b=none
 tups:∀b xs,H b=some (.tup xs)→H' b=some (.tup xs)
 frzs:∀b o u,H b=some (.frz o u)→H' b=some (.frz o u)
 tbls:∀b ps,H b=some (.tbl ps)→∃more,H' b=some (.tbl (ps++more))
 hok:HOk P w H' B
 new:H' x=none
 ch:∃n,Chain B (fun a=>H' a=none) n c
noncomputable def CXR (P:Program)(w:World):CXT:=fun outer H s E e s'=>∃(x C:Addr)(c:Value)(B:Heap)(H':Hp),e=.ref x∧Flown P w outer H s x C c B H' s'∧E (.ref C) none H'
theorem Flown.un {P:Program}{w:World}{outer:List Env}{H:Hp}{s:Shared}{x C:Addr}{c:Value}{B:Heap}{H':Hp}{s':Shared}(F:Flown P w outer H s x C c B H' s'){h:Heap}(st:B.StaysIn h)(up:s'.heap.UpToSlots h):Un (frs outer) [] H H' s.heap h:=by
 have nf:∀b∈frs outer,∀o,s'.heap.get? b=some o→∀vs,o.data≠.fields vs:=fun b hb o e=>by
  obtain⟨_,o',ho',n'⟩:=F.fly.2.2.1.mem hb
  rw[e]at ho';cases ho';exact n'
 refine⟨fun b o e n hb _=>st b o (F.k1 b o e n hb),fun b o e n hb _=>?_,fun b o e n _=>F.free b o e n,fun b o e _=>?_,F.tups,F.frzs,F.tbls⟩
 ·obtain⟨sl,q⟩:=F.k2 b o e n hb
  obtain⟨sl',q'⟩:=up b _ q (nf b hb _ q)
  exact⟨sl',q'⟩
 ·by_cases hb:b∈frs outer
  ·obtain⟨_,o',ho',n'⟩:=F.fly.2.2.1.mem hb
   obtain⟨sl',q'⟩:=up b _ ho' n'
   exact⟨_,q'⟩
  ·obtain⟨o',q⟩:=F.k3 b o e hb
   exact⟨o',st b o' q⟩
section
variable {P:Program}{w:World}{K:PySem.W.Frag}{mg:Str→Option Value}{base:Heap}{N:List Str}{qual:Str}{scope:Scope}{f:Addr}{cd:Value}{A:Around}{outer:List Env}{s:Shared}{H:Hp}{E:XK}
theorem frs_cons {env:Env}{l:List Env}{b:Addr}(h:b∈frs l):b∈frs (env::l):=by
 unfold frs at h ⊢
 obtain⟨e,he,hf⟩:=List.mem_filterMap.mp h
 exact List.mem_filterMap.mpr ⟨e,List.mem_cons_of_mem _ he,hf⟩
theorem cx_raise {pins:List (Addr×Obj)}{σ:St}{H1:Hp}{s1:Shared}{g:Heap}{x C:Addr}{oe:Obj}{vs:Array Value}{c:Value}(I:Inv (cxOf (CXR P w) P w K mg base N qual scope f cd A outer s H E) pins σ H1 s1)
  (kp:∀b o,s1.heap.get? b=some o→g.get? b=some o)(xn:s1.heap.get? x=none)(xg:g.get? x=some oe)(xk:oe.cls=.ref C)(xd:oe.data=.fields vs)(x1:vs[1]?=some .none)(x2:vs[2]?=some c)(xh:∃n,Chain s1.heap (fun a=>H1 a=none) n c)
  (q:E (.ref C) none H1):(cxOf (CXR P w) P w K mg base N qual scope f cd A outer s H E).xe (.ref x) { s1 with heap:=g }:=by
 have notF:∀b o,s.heap.get? b=some o→b∉frs outer→b∉frs (envOfC qual scope s.heap.objs.size f cd::outer):=fun b o e hb z=>by
  rcases List.mem_cons.mp (I.stkSub b z)with y|y
  ·exact absurd (Heap.lt_size e) (by rw[y];exact Nat.lt_irrefl _)
  ·exact hb y
 have noex:∀b:Addr,b∉(cxOf (CXR P w) P w K mg base N qual scope f cd A outer s H E).ex:=fun b z=>absurd (show b∈([]:List Addr)from z) (by simp)
 have fF:s1.heap.FunFrames (PySem.W.hideAll s1.heap (frs (envOfC qual scope s.heap.objs.size f cd::outer))) (envOfC qual scope s.heap.objs.size f cd::outer) :=
  PySem.W.funFrames_hide I.stack fun env he a ha=>List.mem_filterMap.mpr ⟨env,he,ha⟩
 have notR:∀b o ws,s1.heap.get? b=some o→o.data=.fields ws→b∉frs (envOfC qual scope s.heap.objs.size f cd::outer):=fun b o ws e2 e3 y=>by
  obtain⟨_,o',e4,n4⟩:=fF.mem y
  rw[e2]at e4;cases e4;exact n4 ws e3
 have nB:(PySem.W.hideAll s1.heap (frs (envOfC qual scope s.heap.objs.size f cd::outer))).get? x=none:=by
  cases z:(PySem.W.hideAll s1.heap (frs (envOfC qual scope s.heap.objs.size f cd::outer))).get? x with
  | none=>rfl
  | some o =>
   have z2:=PySem.W.of_hideAll _ z
   rw[xn]at z2;cases z2
 obtain⟨n,xh⟩:=xh
 refine fl_leaveNew (s:={ s1 with heap:=g }) (B:=PySem.W.hideAll s1.heap (frs (envOfC qual scope s.heap.objs.size f cd::outer))) (outer:=outer) (L:=s.heap.objs.size) I.ok.frames (fF.of_keeps fun b o y _=>⟨o,kp b o y,rfl⟩) rfl xg (fun b o z=>kp b o (PySem.W.of_hideAll _ z)) nB xd x2 x1
  fun g2 fl up=>⟨x,C,c,_,H1,rfl,⟨xk▸fl,I.os,I.bare,fun b o e n hb=>?_,fun b o e n hb=>?_,fun b o e hb=>?_,fun b o e n=>I.base.free b o e n (noex b),I.base.tups,I.base.frzs,I.base.tbls,fun b u e=>?_,hok_none I.hok xn,n,xh.imp fun a o ws na ea da=>⟨PySem.W.hideAll_get _ ea (notR a o ws ea da),na⟩⟩,q⟩
 ·exact PySem.W.hideAll_get _ (I.base.keep b o e n hb (noex b)) (notF b o e hb)
 ·obtain⟨sl,z⟩:=I.base.slot b o e n hb (noex b)
  obtain⟨_,o',ho',nf⟩:=I.funs.mem hb
  rw[z]at ho';cases ho'
  obtain⟨sl',z'⟩:=up b _ (kp _ _ z) nf
  exact⟨sl',z'⟩
 ·obtain⟨o',z⟩:=I.base.there b o e (noex b)
  exact⟨o',PySem.W.hideAll_get _ z (notF b o e hb)⟩
 ·have nfr:∀c v,H1 c=some v→c∉frs (envOfC qual scope s.heap.objs.size f cd::outer):=fun c v e z=>by
   rw[I.stkFree c z]at e;cases e
  refine(show ObjOk P w H1 s1.heap b u from I.hok b u e).stay (fun c v hc z=>PySem.W.hideAll_get _ z ?_) (fun _ z=>z) fun _ _ z=>z
  rcases hc with y|y
  ·rw[y];exact nfr b u e
  ·exact nfr c _ y
theorem cx_pass:Passes (CXR P w) (cxOf (CXR P w) P w K mg base N qual scope f cd A outer s H E) E:=by
 intro pins σ H1 s1 e s' I h
 obtain⟨x,C,c,B,H',rfl,F,q⟩:=h
 have noex:∀b:Addr,b∉(cxOf (CXR P w) P w K mg base N qual scope f cd A outer s H E).ex:=fun b z=>absurd (show b∈([]:List Addr)from z) (by simp)
 have notF:∀b o,s.heap.get? b=some o→b∉frs outer→b∉frs (envOfC qual scope s.heap.objs.size f cd::outer):=fun b o e hb z=>by
  rcases List.mem_cons.mp (I.stkSub b z)with y|y
  ·exact absurd (Heap.lt_size e) (by rw[y];exact Nat.lt_irrefl _)
  ·exact hb y
 refine fl_leave (outer:=outer) (L:=s.heap.objs.size) I.ok.frames rfl F.fly fun h'' fl up=>⟨x,C,c,B,H',rfl,⟨fl,F.os.trans I.os,F.bare,fun b o e n hb=>?_,fun b o e n hb=>?_,fun b o e hb=>?_,fun b o e n=>?_,fun b xs e=>F.tups b xs (I.base.tups b xs e),fun b o u e=>F.frzs b o u (I.base.frzs b o u e),fun b ps e=>?_,F.hok,F.new,F.ch⟩,q⟩
 ·exact F.k1 b o (I.base.keep b o e n hb (noex b)) (I.base.free b o e n (noex b)) (notF b o e hb)
 ·obtain⟨sl,z⟩:=I.base.slot b o e n hb (noex b)
  obtain⟨sl',z'⟩:=F.k2 b _ z (I.base.free b o e n (noex b)) (frs_cons hb)
  have hb':b∈frs (envOfC qual scope s.heap.objs.size f cd::outer):=frs_cons hb
  obtain⟨_,o2,ho2,nf2⟩:=F.fly.2.2.1.mem hb'
  rw[z']at ho2;cases ho2
  obtain⟨sl2,z2⟩:=up b _ z' nf2
  exact⟨sl2,z2⟩
 ·obtain⟨o',z⟩:=I.base.there b o e (noex b)
  exact F.k3 b o' z (notF b o e hb)
 ·obtain⟨o',z⟩:=I.base.there b o e (noex b)
  exact F.free b o' z (I.base.free b o e n (noex b))
 ·obtain⟨m1,e1⟩:=I.base.tbls b ps e
  obtain⟨m2,e2⟩:=F.tbls b _ e1
  exact⟨m1++m2,by rw[e2,Array.append_assoc]⟩
theorem Fun.okX {x qual:Str}{st:Stmt}{f:Addr}{fd:FuncData}{N ps:List Str}{k:Nat}{sp:Sp}(F:Fun K x qual st f fd)(S:FnScope N ps (defScope st))(len:∀vs H Q E,sp vs H Q E→vs.length=ps.length)
  (hbody:∀(cdv:Value)(A:Around)(outer:List Env)(s:Shared)(H:Hp)(vs:List V)(Q:VK)(E:XK),Room k (A.deeper (envOfC qual (defScope st) s.heap.objs.size f cdv))→sp vs H Q E →
   ∃t,PSs (cxOf (CXR P w) P w K mg base N qual (defScope st) f cdv A outer s H E) (defBody st) t∧t { nx:=fun _ H'=>Q .non H',rt:=Q } (start N vs) H):FnOk P w K mg base (CXR P w) (k+1) f fd ps sp:=by
 obtain⟨oc,od,kV,doc,pm,an,cdv,ct,osl,rfl,lk,hcd⟩:=F.ex
 exact fn_of lk hcd S len fun A outer s H vs Q E hr hsp=>hbody cdv A outer s H vs Q E hr hsp
end
structure FnX (P:Program)(w:World)(K:PySem.W.Frag)(mg:Str→Option Value)(base:Heap)(x:Str)(f:Addr)(fd:FuncData)(ps:List Str)(k:Nat)(sp:Sp):Prop where
 ok:FnOk P w K mg base (CXR P w) k f fd ps sp
 mg:mg x=some (.ref f)
 kp:PySem.W.keepIn K (.ref f)=true
 bd:Binds K fd ps []
end L2
namespace L2
open PySem PySem.Spec PyProof.Rows
structure Exc (K:PySem.W.Frag)(mg:Str→Option Value)(x:Str)(C:Addr)(mro:List Value):Prop where
 bound:mg x=some (.ref C)
 isin:PySem.W.excIn K C [.type "ValueError",.type "Exception",.type "BaseException",.type "object"] "ValueError.__new__"=true
 mro:∃c d cd sl,K.lookup C=some ⟨c,d,.cls cd,sl⟩∧cd.mro=mro
theorem Exc.obj {K:PySem.W.Frag}{mg:Str→Option Value}{x:Str}{C:Addr}{mro:List Value}(O:Exc K mg x C mro){h:Heap}(X:K.In h) :
  ∃bm N nm q bs hdct sn sub ab col dd k0 k1 k2 k3 k5 mN,h.get? C=some (excClassObj nm q C N bs bm hdct sn sub ab col dd k0 k1 k2 k3 k5 "ValueError.__new__")∧h.Ns N mN∧mN "__init__"=none ∧
   OwnTail h [.type "ValueError",.type "Exception",.type "BaseException",.type "object"] bm∧mro=.ref C::bm:=by
 obtain⟨_,q,c0,d0,cd0,sl0,lk,em⟩:=O
 unfold PySem.W.excIn at q
 rw[lk]at q
 split at q
 ·rename_i dd cd sl ho
  cases ho
  split at q
  ·rename_i C' bm k0 k1 k2 k3 n k5 hm hs
   simp only[Bool.and_eq_true,beq_iff_eq,Bool.not_eq_true']at q
   obtain⟨⟨⟨⟨⟨rfl,rfl⟩,hdel⟩,ht⟩,hok⟩,hni⟩:=q
   obtain⟨nm,bs,mr,ns,qn,hd,sn,sub,ab,col,del⟩:=cd0
   dsimp only at hm hdel hok hni em
   subst hm hdel
   have hsl:sl0=#[k0,k1,k2,k3,some (.builtin "ValueError.__new__"),k5]:=by
    obtain⟨l⟩:=sl0
    simp only at hs
    rw[hs]
   subst hsl
   exact⟨bm,ns,nm,qn,bs,hd,sn,sub,ab,col,d0,k0,k1,k2,k3,k5,_,X _ _ lk,.of_isNs (PySem.W.isNs_of_in X hok),PySem.W.nsMap_none_of_in X hok hni,PySem.W.tail_of_in X ht,em.symm⟩
  ·cases q
 ·cases q
def tRaise (C:Addr)(E:XK)(ta:TA):TS:=fun _ σ H=>ta σ H fun vs H1=>vs.length≤sizeLine∧E (.ref C) none H1
theorem ps_raise {P:Program}{w:World}{K:PySem.W.Frag}{mg:Str→Option Value}{base:Heap}{N:List Str}{qual:Str}{scope:Scope}{f:Addr}{cd:Value}{A:Around}{outer:List Env}{s₀:Shared}{H₀:Hp}{E:XK}
  {x:Str}{C:Addr}{mro:List Value}{e:Expr}{es:List Expr}{ta:TA}{np cpos pos:Pos}(O:Exc K mg x C mro)(ha:PA (cxOf (CXR P w) P w K mg base N qual scope f cd A outer s₀ H₀ E) (e::es) ta)
  (hg:Gl (cxOf (CXR P w) P w K mg base N qual scope f cd A outer s₀ H₀ E) x:=by rfl)(hdb:(x==("__debug__" : Str))=false:=by decide)
  (he:starEach (e::es) (envOfC qual scope s₀.heap.objs.size f cd)=(false,eval e (envOfC qual scope s₀.heap.objs.size f cd))::starEach es (envOfC qual scope s₀.heap.objs.size f cd):=by rfl)
  (hpl:(backTo cpos (starEach es (envOfC qual scope s₀.heap.objs.size f cd))).any (·.1)=false:=by rfl) :
  PS (cxOf (CXR P w) P w K mg base N qual scope f cd A outer s₀ H₀ E) (.Raise (some (.Call (.Name x np) (e::es) [] cpos)) none pos) (tRaise C E ta):=by
 intro pins s σ H D I h
 obtain⟨bm,N',nm,q,bs,hdct,sn,sub,ab,col,dd,k0,k1,k2,k3,k5,mN,hC,hN,hni,T,_⟩:=O.obj I.ok.mod.kin
 refine wpAny_Raise_call_subT (C:=C) (nm:=nm) (q:=q) (N:=N') (bs:=bs) (bm:=bm) (hdct:=hdct) (sn:=sn) (sub:=sub) (ab:=ab) (col:=col) (dd:=dd) (k0:=k0) (k1:=k1) (k2:=k2) (k3:=k3) (k5:=k5) (mN:=mN)
  PySem.F.excBase_ValueError (T.hasType PySem.F.excBase_ValueError.hasBase) (I.ok.hd rfl) ?_ hni (ld_glob I hg O.bound ⟨rfl,?_⟩ hdb)
 ·show(backTo cpos (starEach (e::es) (envOfC qual scope s₀.heap.objs.size f cd))).any (·.1)=false
  rw[he]
  show(false||(backTo cpos (starEach es (envOfC qual scope s₀.heap.objs.size f cd))).any (·.1))=false
  rw[hpl];rfl
 have hA:=ha cpos pins s σ H _ I h
 show wpAny _ _ (evalArgs (.ref C) true (backTo cpos (starEach (e::es) (envOfC qual scope s₀.heap.objs.size f cd))) []) _ _ s
 have hA':wpAny (model P w) (cxOf (CXR P w) P w K mg base N qual scope f cd A outer s₀ H₀ E).A (spliced (backTo cpos (starEach (e::es) (envOfC qual scope s₀.heap.objs.size f cd)))) _ _ s:=hA
 rw[he]at hA' ⊢
 refine Calls.evalArgs_plain (thn hA' fun us s1 ⟨vs,H1,I1,r,hz,q1⟩=>⟨rfl,by rw[←r.length];exact hz,I1.bk _ _ hC,hN.keeps I1.bk,T.keeps I1.bk,fun h' x' hm=>(let ⟨t,e1,_,_⟩:=hm.there;cx_raise I1 hm.keeps hm.new e1 rfl rfl rfl rfl ⟨0,rfl⟩ q1)⟩)
def XP (X:Cx)(pins:List (Addr×Obj))(σ:St)(Ex:XK)(e:Value)(s':Shared):Prop:=∃H1 s1,Inv X pins σ H1 s1∧CXR X.prog X.w X.stack H1 s1 Ex e s'
noncomputable abbrev TX:=St→Hp→VK→XK→Prop
def PEx (X:Cx)(e:Expr)(t:TX):Prop :=
 ∀(pins:List (Addr×Obj))(s:Shared)(σ:St)(H:Hp)(Q:VK)(Ex:XK),Inv X pins σ H s→t σ H Q Ex→wpAny (model X.prog X.w) X.A (eval e X.env) (EP X pins σ Q) (XP X pins σ Ex) s
section
variable {X:Cx}{e:Expr}{es:List Expr}{pos:Pos}
theorem noxe {α:Type}{t:Sem α}{Q:α→Shared→Prop}{M:Model}{A:Around}{E:Value→Shared→Prop}{s:Shared}(h:wpAny M A t Q X.nox.xe s):wpAny M A t Q E s:=wpAny_mono h (fun _ _ z=>z) fun _ _ z=>False.elim z
variable {k:Nat}{f C:Addr}{fd:FuncData}{ps:List Str}{sp:Sp}{m x:Str}{p apos:Pos}{o:Expr}{ta:TE}{t:TA}
theorem run_fnx {pins:List (Addr×Obj)}{σ:St}{H:Hp}{s:Shared}{Q:VK}{Ex:XK}{us:List Value}{vs:List V}(F:FnOk X.prog X.w X.K X.mg X.base (CXR X.prog X.w) k f fd ps sp)(hr:Room k X.A)(hb:Binds X.K fd ps [])
  (I:Inv X pins σ H s)(r:Vals vs us)(h:sp vs H Q Ex):wpAny (model X.prog X.w) X.A (call (.ref f) us) (EP X pins σ Q) (XP X pins σ Ex) s:=by
 have hl:(us++[]).length=ps.length:=by rw[List.append_nil,←r.length];exact F.len _ _ _ _ h
 have hb':=hb s us I.kIn hl
 rw[List.append_nil]at hb'
 refine wpAny_call (codeAny_mono (F.run X.A X.stack s H ⟨us,[]⟩ us vs Q Ex hr I.env0 hb' r h) fun r s' hq=>?_)
 cases r with
 | error e=>exact⟨H,s,I,hq⟩
 | ok fl =>
  cases fl with
  | ret u=>exact I.after hq
  | next=>exact False.elim hq
  | brk=>exact False.elim hq
  | cont=>exact False.elim hq
theorem px_callV (i:Nat){k':Nat}(hv:PE X.nox (.Name x p) (tVar i))(hr:Room k' X.A)(ha:PA X.nox (e::es) t)
  (he:starEach (e::es) X.env=(false,eval e X.env)::starEach es X.env:=by rfl)(hpl:(backTo pos (starEach es X.env)).any (·.1)=false:=by rfl) :
  PEx X.nox (.Call (.Name x p) (e::es) [] pos) (fun σ H Q Ex=>∃f fd k ps sp,σ[i]?=some (some (.ref f))∧FnOk X.prog X.w X.K X.mg X.base (CXR X.prog X.w) k f fd ps sp∧k≤k'∧PySem.W.keepIn X.K (.ref f)=true∧Binds X.K fd ps []∧t σ H fun vs H1=>sp vs H1 Q Ex):=by
 intro pins s σ H Q Ex I h
 obtain⟨f,fd,k,ps,sp,ef,F,hk,kp,hb,h⟩:=h
 refine wpAny_Call_Name_kw (thn (noxe (hv pins s σ H (fun v H'=>v=.ref f∧H'=H) I ⟨_,ef,rfl,rfl⟩)) fun u s1 ⟨v,H1,I1,rv,ev,eH⟩=>?_)
 subst ev eH
 obtain rfl:u=Value.ref f:=rv
 refine PySem.W.callWith_K (h₀:=X.base) I.ok.mod.kin kp (thn (noxe (ha pos pins s1 σ H1 _ I1 h)) fun us s2 ⟨vs,H2,I2,r,q⟩=>⟨I2.kIn,?_⟩) he hpl
 exact run_fnx (X:=X.nox) F (hr.mono hk) hb I2 r q
end
theorem exc_matches {M:Model}{A:Around}{E:Value→Shared→Prop}{nm q nm' q':Str}{C N D N':Addr}{bs bm bs' bm':List Value}{hdct hdct':Bool}{sn sn':List Str}{sub sub':List Value}{ab ab':Bool}{col col':Option Bool}{dd dd':Option Addr}{k0 k1 k2 k3 k5 l0 l1 l2 l3 l5:Option Value}{newId newId':String}
  {h:Heap}{g:Array GenState}{d:Drawn}{t:Nat}{os:OsState}{e:Addr}{oe:Obj}{Q:Bool→Shared→Prop}
  (hC:h.get? C=some (excClassObj nm q C N bs bm hdct sn sub ab col dd k0 k1 k2 k3 k5 newId))(hD:h.get? D=some (excClassObj nm' q' D N' bs' bm' hdct' sn' sub' ab' col' dd' l0 l1 l2 l3 l5 newId'))
  (he:h.get? e=some oe)(hcls:oe.cls=.ref C)(hbase:bm'.contains (.type "BaseException")=true)(hq:Q ((Value.ref C::bm).contains (.ref D)) ⟨h,g,d,t,os⟩):wpAny M A (excMatches (.ref e) (.ref D)) Q E ⟨h,g,d,t,os⟩:=by
 have hcB:(Value.ref D::bm').contains (.type "BaseException")=true:=by rw[List.contains_cons,hbase,Bool.or_true]
 have f:=tc_notTuple
 unfold excMatches
 cases hb:(Value.ref C::bm).contains (.ref D)with
 | true =>
  rw[hb]at hq
  repeat (first|(with_reducible refine wpAny_loadPart_at he ?_;rw[hcls])|with_reducible refine wpAny_loadPart_at hD ?_|(with_reducible refine wpAny_isSubtype_exc hD ?_;rw[hcB])|(with_reducible refine wpAny_isSubtype_exc hC ?_;rw[hb])|wp_step)
  exact hq
 | false =>
  rw[hb]at hq
  repeat (first|(with_reducible refine wpAny_loadPart_at he ?_;rw[hcls])|with_reducible refine wpAny_loadPart_at hD ?_|(with_reducible refine wpAny_isSubtype_exc hD ?_;rw[hcB])|(with_reducible refine wpAny_isSubtype_exc hC ?_;rw[hb])|wp_step)
  exact hq
noncomputable abbrev Cx.caught (X:Cx)(x:Addr)(ps:List (Addr×Obj)):Cx:={ X with A:=X.A.mark (some (.ref x)),calm:=false,pn:=ps++X.pn }
theorem caught_ok {X:Cx}{e:Addr}{ps:List (Addr×Obj)}(ok:X.Ok):(X.caught e ps).Ok :=
 ⟨ok.mod,ok.kind,ok.glob,ok.blt,ok.above,ok.inj,ok.has,ok.cab,fun z=>absurd (show false=true from z) Bool.false_ne_true,ok.frames,ok.stk,ok.exf,ok.bs,ok.bsz,ok.noex,ok.exfs,ok.funs,ok.frf⟩
theorem Inv.caught {X:Cx}{e:Addr}{ps pins:List (Addr×Obj)}{σ:St}{H:Hp}{s:Shared}(I:Inv X pins σ H s)(hp:∀p∈ps,s.heap.get? p.1=some p.2∧H p.1=none∧p.1≠X.env.locals∧p.1∉X.fs∧∀v,p.2.data≠.cell v):Inv (X.caught e ps) pins σ H s :=
 ⟨caught_ok I.ok,I.os,I.bare,I.base,I.loc,I.cell,I.free,I.freeC,fun p z=>by
  rcases List.mem_append.mp z with z|z
  ·rcases List.mem_append.mp z with z|z
   ·exact hp p z
   ·exact I.pin p (List.mem_append_left _ z)
  ·exact I.pin p (List.mem_append_right _ z),I.hok,I.len⟩
theorem Inv.uncaught {X:Cx}{e:Addr}{ps pins:List (Addr×Obj)}{σ:St}{H:Hp}{s:Shared}(ok:X.Ok)(I:Inv (X.caught e ps) pins σ H s):Inv X pins σ H s:=⟨ok,I.os,I.bare,I.base,I.loc,I.cell,I.free,I.freeC,fun p z=>I.pin p (by
  rcases List.mem_append.mp z with z|z
  ·exact List.mem_append_left _ (List.mem_append_right _ z)
  ·exact List.mem_append_right _ z),I.hok,I.len⟩
theorem SP.uncaught {X:Cx}{e:Addr}{ps pins:List (Addr×Obj)}{D:Ends}{f:Flow}{s:Shared}(ok:X.Ok)(h:SP (X.caught e ps) pins D f s):SP X pins D f s:=by
 cases f with
 | next=>obtain⟨σ',H',I',q⟩:=h;exact⟨σ',H',I'.uncaught ok,q⟩
 | brk=>obtain⟨σ',H',I',q⟩:=h;exact⟨σ',H',I'.uncaught ok,q⟩
 | cont=>obtain⟨σ',H',I',q⟩:=h;exact⟨σ',H',I'.uncaught ok,q⟩
 | ret v=>obtain⟨x,σ',H',I',r,q⟩:=h;exact⟨x,σ',H',I'.uncaught ok,r,q⟩
def HeadP (ps:List (Addr×Obj))(x:Addr):Prop:=∃n,ChainP ps (n+1) (.ref x)
inductive Hs (X:Cx):List ExceptHandler→List (Addr×TS)→Prop where
 | nil:Hs X [] []
 | cons {x:Str}{C:Addr}{mro:List Value}{b₀:Stmt}{suite:List Stmt}{pos np:Pos}{rest:List ExceptHandler}{ts:TS}{l:List (Addr×TS)}(O:Exc X.K X.mg x C mro)(hg:Gl X x)(hdb:(x==("__debug__" : Str))=false)
   (hs:∀e ps,X.Ok→HeadP ps e→PSs (X.caught e ps) (b₀::suite) ts)(r:Hs X rest l):Hs X (.ExceptHandler (some (.Name x np)) none (b₀::suite) pos::rest) ((C,ts)::l)
noncomputable def pickH (mro:List Value):List (Addr×TS)→Option TS
 | []=>none
 |(C,t)::r=>if mro.contains (.ref C)=true then some t else pickH mro r
noncomputable abbrev TSx:=Ends→XK→St→Hp→Prop
def PSx (X:Cx)(st:Stmt)(t:TSx):Prop :=
 ∀(pins:List (Addr×Obj))(s:Shared)(σ:St)(H:Hp)(D:Ends)(Ex:XK),Inv X pins σ H s→t D Ex σ H→wpAny (model X.prog X.w) X.A (exec st X.env) (SP X pins D) (XP X pins σ Ex) s
theorem psx_ret {X:Cx}{e:Expr}{te:TX}{ap:Pos}(he:PEx X.nox e te):PSx X.nox (.Return (some e) ap) (fun D Ex σ H=>te σ H D.rt Ex):=by
 intro pins s σ H D Ex I h
 exact wpAny_Return_some (thn (he pins s σ H _ _ I h) fun v s1 ⟨y,H1,I1,r1,q1⟩=>⟨y,σ,H1,I1,r1,q1⟩)
def tTry (K:PySem.W.Frag)(mg:Str→Option Value)(te:TSx)(l:List (Addr×TS)):TS:=fun D σ H=>te D (fun c _ H1=>∃x C mro t,c=.ref C∧Exc K mg x C mro∧pickH mro l=some t∧t D σ H1) σ H
theorem ps_try {X:Cx}{st:Stmt}{te:TSx}{h₀:ExceptHandler}{hs:List ExceptHandler}{l:List (Addr×TS)}{pos:Pos}(he:PSx X.nox st te)(hh:Hs X (h₀::hs) l)(hf:X.env.frame=some X.env.locals)(hst:X.stack=X.env::X.outer)
  (hpa:∀v,PassesOwnAt (model X.prog X.w) (X.A.mark v) X.A X.env X.xe):PS X (.Try [st] (h₀::hs) [] [] pos) (tTry X.K X.mg te l):=by
 intro pins s σ H D I h
 refine wpAny_Try_except ?_
 refine wpAny_mono (Q:=SP X.nox pins D) (E:=XP X.nox pins σ fun c _ H1=>∃x C mro t,c=.ref C∧Exc X.K X.mg x C mro∧pickH mro l=some t∧t D σ H1) ?_ (fun f s1 q=>?_) fun ev s1 q=>?_
 ·refine wpAny_execs_cons (thn (he pins s σ H D _ (I.wish _) h) fun f s1 q=>?_)
  cases f with
  | next=>exact wpAny_execs_nil q
  | ret v=>exact q
  | brk=>exact q
  | cont=>exact q
 ·cases f with
  | next=>exact wpAny_execs_nil (SP.unwish q)
  | ret v=>exact SP.unwish q
  | brk=>exact SP.unwish q
  | cont=>exact SP.unwish q
 obtain⟨H1,s2,I1,xa,C,c,B,H',rfl,F,nmx,C',mro,t,ec,O,pk,qt⟩:=q
 cases ec
 have F':Flown X.prog X.w (X.env::X.outer) H1 s2 xa C c B H' s1:=by
  have:Flown X.prog X.w X.stack H1 s2 xa C c B H' s1:=F
  rw[hst]at this;exact this
 have hfr:X.A.frames=some (X.env::X.outer):=by rw[←hst];exact I.ok.frames
 have I1':Inv X pins σ H1 s2:=I1.unwish
 refine fl_note hfr hf F'.fly fun h4 held4 up4=>?_
 refine fl_land (s:={ s1 with heap:=h4 }) held4 fun h5 fl5 up5'=>?_
 have up5:=up4.trans up5'
 -- whatever the handlers find,the names stand
 have inv:∀{h:Heap},B.StaysIn h→s1.heap.UpToSlots h→Inv X pins σ H' { s1 with heap:=h }:=fun {h} st up=>by
  have u:=F.un st up
  exact I1'.call' (s':={ s1 with heap:=h }) (ch:=[]) F.os u (F.hok.kept st) F.bare fun b z=>absurd z (by simp)
 have ok:=I.ok
 have main:∀{hs':List ExceptHandler}{l':List (Addr×TS)},Hs X hs' l'→pickH mro l'=some t→wpAny (model X.prog X.w) X.A (handleBy (.ref xa) X.env hs') (SP X pins D) X.xe { s1 with heap:=h5 }:=by
  intro hs' l' hH
  induction hH with
  | nil=>intro z;cases z
  | @cons nm2 C2 mro2 b₀ suite p2 np rest ts l2 O2 hg hdb hsu r ih =>
   intro z
   have I5:Inv X pins σ H' { s1 with heap:=h5 }:=inv fl5.1 up5
   refine wpAny_handleBy_cons (codeAny_handlers_test ?_) (by intro q;cases q)
   have Ic:Inv (X.caught xa []) pins σ H' { s1 with heap:=h5 }:=I5.caught fun p hp=>absurd hp (by simp)
   refine wpAny_mono (E:=fun _ _=>False) (ld_glob Ic hg O2.bound (Q:=fun c s'=>c=.ref C2∧s'={ s1 with heap:=h5 }) ⟨rfl,rfl⟩ hdb) (fun c s' hc=>?_) fun _ _ z=>z.elim
   obtain⟨rfl,rfl⟩:=hc
   obtain⟨bm,N1,nm,q1,bs,hdct,sn,sub,ab,col,dd,k0,k1,k2,k3,k5,mN,hC,_,_,T,em⟩:=O.obj I5.kIn
   obtain⟨bm',N1',nm',q1',bs',hdct',sn',sub',ab',col',dd',l0,l1,l2',l3,l5,mN',hC',_,_,T',em'⟩:=O2.obj I5.kIn
   obtain⟨ob,vs5,_,_,_,hob,hobc,_⟩:=fl5.2.2.2
   refine exc_matches (oe:=ob) hC hC' hob hobc (T'.hasType PySem.F.excBase_ValueError.hasBase) ?_
   rw[←em]
   cases hb:mro.contains (.ref C2)with
   | true =>
    have z':(if mro.contains (.ref C2)=true then some ts else pickH mro l2)=some t:=z
    rw[hb,if_pos rfl]at z'
    cases z'
    refine codeAny_handlers_suite ?_
    refine fl_land (s:={ s1 with heap:=h5 }) fl5 fun h6 fl6 up6=>?_
    have I6:Inv X pins σ H' { s1 with heap:=h6 }:=inv fl6.1 (up5.trans up6)
    obtain⟨oe,vs,_,_,_,g1,g2,g3,g4,_⟩:=fl6.2.2.2
    obtain⟨n,chn⟩:=F.ch
    have chn6:Chain h6 (fun a=>H' a=none) (n+1) (.ref xa):=.inr ⟨xa,oe,vs,c,rfl,g1,F.new,g3,g4,chn.imp fun a o ws na ea _=>⟨fl6.1 a o ea,na⟩⟩
    obtain⟨ps,pk1,pk2⟩:=chn6.pins
    have Ic6:Inv (X.caught xa ps) pins σ H' { s1 with heap:=h6 }:=I6.caught fun p hp=>by
     obtain⟨a1,a2,ws,a3⟩:=pk1 p hp
     refine⟨a1,a2,fun y=>?_,fun y=>?_,fun v y=>?_⟩
     ·obtain⟨m,⟨o',es,ep,ho',hd',_⟩,_⟩:=I6.loc
      rw[y]at a1
      have a1':h6.get? X.env.locals=some o':=ho'
      rw[a1']at a1;cases a1
      rw[hd']at a3;cases a3
     ·obtain⟨_,o',ho',n'⟩:=I6.funs.mem y
      have a1':h6.get? p.1=some o':=ho'
      rw[a1']at a1;cases a1
      exact n' ws a3
     ·rw[a3]at y;cases y
    refine wpAny_passesOwnAt (hpa _) ?_
    exact wpAny_mono (hsu xa ps ok ⟨n,pk2⟩ pins _ σ H' D Ic6 qt) (fun f s' q=>SP.uncaught ok q) fun _ _ q=>q
   | false =>
    have z':(if mro.contains (.ref C2)=true then some ts else pickH mro l2)=some t:=z
    rw[hb,if_neg Bool.false_ne_true]at z'
    exact ih z'
 exact main hh pk
theorem ps_raiseH {P:Program}{w:World}{K:PySem.W.Frag}{mg:Str→Option Value}{base:Heap}{N:List Str}{qual:Str}{scope:Scope}{f:Addr}{cd:Value}{A:Around}{outer:List Env}{s₀:Shared}{H₀:Hp}{E:XK}{y:Addr}{ps:List (Addr×Obj)}
  {x:Str}{C:Addr}{mro:List Value}{e:Expr}{es:List Expr}{ta:TA}{np cpos pos p2:Pos}{j:Nat}(ok:(cxOf (CXR P w) P w K mg base N qual scope f cd A outer s₀ H₀ E).Ok)(hd:HeadP ps y)(O:Exc K mg x C mro)(ha:PA ((cxOf (CXR P w) P w K mg base N qual scope f cd A outer s₀ H₀ E).caught y ps) (e::es) ta)
  (hg:Gl (cxOf (CXR P w) P w K mg base N qual scope f cd A outer s₀ H₀ E) x:=by rfl)(hdb:(x==("__debug__" : Str))=false:=by decide)
  (he:starEach (e::es) (envOfC qual scope s₀.heap.objs.size f cd)=(false,eval e (envOfC qual scope s₀.heap.objs.size f cd))::starEach es (envOfC qual scope s₀.heap.objs.size f cd):=by rfl)
  (hpl:(backTo cpos (starEach es (envOfC qual scope s₀.heap.objs.size f cd))).any (·.1)=false:=by rfl) :
  PS ((cxOf (CXR P w) P w K mg base N qual scope f cd A outer s₀ H₀ E).caught y ps) (.Raise (some (.Call (.Name x np) (e::es) [] cpos)) (some (.Constant .none j p2)) pos) (tRaise C E ta):=by
 intro pins s σ H D I h
 obtain⟨bm,N',nm,q,bs,hdct,sn,sub,ab,col,ddd,k0,k1,k2,k3,k5,mN,hC,hN,hni,T,_⟩:=O.obj I.ok.mod.kin
 refine Raise_behind (C:=C) (nm:=nm) (q:=q) (N:=N') (bs:=bs) (bm:=bm) (hdct:=hdct) (sn:=sn) (sub:=sub) (ab:=ab) (col:=col) (dd:=ddd) (k0:=k0) (k1:=k1) (k2:=k2) (k3:=k3) (k5:=k5) (mN:=mN) (y:=y)
  PySem.F.excBase_ValueError (T.hasType PySem.F.excBase_ValueError.hasBase) rfl ?_ hni (ld_glob I hg O.bound ⟨rfl,?_⟩ hdb)
 ·show(backTo cpos (starEach (e::es) (envOfC qual scope s₀.heap.objs.size f cd))).any (·.1)=false
  rw[he]
  show(false||(backTo cpos (starEach es (envOfC qual scope s₀.heap.objs.size f cd))).any (·.1))=false
  rw[hpl];rfl
 have hA:=ha cpos pins s σ H _ I h
 show wpAny _ _ (evalArgs (.ref C) true (backTo cpos (starEach (e::es) (envOfC qual scope s₀.heap.objs.size f cd))) []) _ _ s
 have hA':wpAny (model P w) ((cxOf (CXR P w) P w K mg base N qual scope f cd A outer s₀ H₀ E).caught y ps).A (spliced (backTo cpos (starEach (e::es) (envOfC qual scope s₀.heap.objs.size f cd)))) _ _ s:=hA
 rw[he]at hA' ⊢
 refine Calls.evalArgs_plain (thn hA' fun us s1 ⟨vs,H1,I1,r,hz,q1⟩=>⟨rfl,by rw[←r.length];exact hz,I1.bk _ _ hC,hN.keeps I1.bk,T.keeps I1.bk,fun h' x' hm=>?_⟩)
 obtain⟨n,hd⟩:=hd
 have pin1:∀p∈ps,s1.heap.get? p.1=some p.2∧H1 p.1=none:=fun p z=>let w:=I1.pin p (List.mem_append_left _ (List.mem_append_left _ z));⟨w.1,w.2.1⟩
 refine⟨⟨n,hd.chain fun p z=>⟨hm.keeps _ _ (pin1 p z).1,fun z2=>?_⟩⟩,fun g t y1 y2=>?_⟩
 ·have z3:=(pin1 p z).1
  rw[z2,hm.new]at z3;cases z3
 ·refine cx_raise (I1.uncaught ok) (fun b o z=>(y2 b fun z2=>?_).trans (hm.keeps b o z)) hm.new y1 rfl rfl rfl rfl ⟨n+1,hd.chain pin1⟩ q1
  rw[z2,hm.new]at z;cases z
structure RoomH (k:Nat)(A:Around):Prop where
 dp:A.depth+3*k+5<recursionLimit
 un:A.units+16*k+200<cLine
theorem Room.h {k:Nat}{A:Around}(r:Room k A)(v:Option Value):RoomH k (A.mark v):=⟨r.dp,r.un⟩
structure FnOkH (P:Program)(w:World)(K:PySem.W.Frag)(mg:Str→Option Value)(base:Heap)(k:Nat)(f:Addr)(fd:FuncData)(ps:List Str)(sp:Sp):Prop where
 len:∀vs H Q E,sp vs H Q E→vs.length=ps.length
 run:∀(A:Around)(outer:List Env)(s:Shared)(H:Hp)(args:Args)(us:List Value)(vs:List V)(Q:VK)(E:XK),RoomH k A→Env0 P w K mg base A outer s H→BindsTo s fd args (ps.zip us)→Vals vs us→sp vs H Q E →
  codeAny (model P w) A (.call (.ref f) args) (CR CX0 outer P w H s Q E) s
noncomputable abbrev Cx.uncalm (X:Cx):Cx:={ X with calm:=false }
section
variable {P:Program}{w:World}{K:PySem.W.Frag}{mg:Str→Option Value}{base:Heap}
theorem Fun.okH {x qual:Str}{st:Stmt}{f:Addr}{fd:FuncData}{N ps:List Str}{k:Nat}{sp:Sp}(F:Fun K x qual st f fd)(S:FnScope N ps (defScope st))(len:∀vs H Q E,sp vs H Q E→vs.length=ps.length)
  (hbody:∀(cdv:Value)(A:Around)(outer:List Env)(s:Shared)(H:Hp)(vs:List V)(Q:VK)(E:XK),sp vs H Q E →
   ∃t,PSs (cxOf CX0 P w K mg base N qual (defScope st) f cdv A outer s H E).uncalm.nox (defBody st) t∧t { nx:=fun _ H'=>Q .non H',rt:=Q } (start N vs) H):FnOkH P w K mg base (k+1) f fd ps sp:=by
 obtain⟨oc,od,kV,doc,pm,an,cdv,ct,osl,rfl,lk,hcd⟩:=F.ex
 refine⟨len,fun A outer s H args us vs Q E hr e0 hb r hsp=>?_⟩
 have hl:=len _ _ _ _ hsp
 have KX:K.In s.heap:=e0.mod.kin.keeps fun b o e=>(e0.bs b o e).1
 have lim:s.heap.NoLimit:=e0.mod.nolimit.keeps fun b o e=>(e0.bs b o e).1
 have hkind:∀y∈ps.zip us,(defScope st).names.lookup y.1=some .local∨((defScope st).names.lookup y.1=some .cell∧((cellsFrom (s.heap.objs.size+1) (defScope st).names []).lookup y.1).isSome=true):=fun⟨n,v⟩ hy=>by
  rcases S.par n (List.of_mem_zip hy).1 with q|q
  ·exact .inl q
  ·exact .inr ⟨q,PySem.W.cellsFrom_some _ _ _ (.inl q)⟩
 refine codeAny_call_function (by have:=hr.dp;omega) (KX _ _ lk) rfl S.co S.gen rfl (PySem.W.codeRec_of KX hcd) (hb _ _ _ _ ?_)
 refine wpAny_newFunctionEnv_cells S.kind hkind fun env he s1 x=>?_
 subst he
 refine⟨lim.keeps x.toInCall.keep,codeAny_func ?_⟩
 obtain⟨t,ht,hq⟩:=hbody cdv A outer s H vs Q E hsp
 have e1:Env0 P w K mg base { A with handled:=none } outer s H:=⟨e0.frames,e0.mod,e0.bs,e0.bsz,e0.funs,e0.frf,e0.hok,e0.bare⟩
 have I0:Inv (cxOf CX0 P w K mg base N qual (defScope st) f cdv { A with handled:=none } outer s H E) [] (start N vs) H s1:=inv_start S rfl e1 hl r x
 have I:Inv (cxOf CX0 P w K mg base N qual (defScope st) f cdv A outer s H E).uncalm.nox [] (start N vs) H s1 :=
  ⟨⟨I0.ok.mod,I0.ok.kind,I0.ok.glob,I0.ok.blt,I0.ok.above,I0.ok.inj,I0.ok.has,I0.ok.cab,fun z=>absurd (show false=true from z) Bool.false_ne_true,Around.frames_deeper e0.frames,I0.ok.stk,I0.ok.exf,I0.ok.bs,I0.ok.bsz,I0.ok.noex,I0.ok.exfs,I0.ok.funs,I0.ok.frf⟩,I0.os,I0.bare,I0.base,I0.loc,I0.cell,I0.free,I0.freeC,I0.pin,I0.hok,I0.len⟩
 refine wpAny_mono (ht [] s1 (start N vs) H _ I hq) (fun fl s' hs=>?_) fun e s' hs=>False.elim hs
 have fin:∀{σ':St}{H':Hp}{v:V}{u:Value},Inv (cxOf CX0 P w K mg base N qual (defScope st) f cdv A outer s H E).uncalm.nox [] σ' H' s'→RelV v u→Q v H'→CE outer P w H s Q u s' :=
  fun {σ' H' v u} J rv q=>⟨v,H',J.os,J.bare,J.base,J.hok,rv,q⟩
 cases fl with
 | ret u =>
  obtain⟨v,σ',H',J,rv,q⟩:=hs
  exact fin J rv q
 | next =>
  obtain⟨σ',H',J,q⟩:=hs
  exact fin (v:=V.non) (u:=Value.none) J rfl q
 | brk =>
  obtain⟨_,_,_,q⟩:=hs
  exact False.elim q
 | cont =>
  obtain⟨_,_,_,q⟩:=hs
  exact False.elim q
end
section
variable {X:Cx}{k:Nat}{f C:Addr}{fd:FuncData}{ps:List Str}{sp:Sp}{m:Str}{pos apos:Pos}{e o:Expr}{es:List Expr}{ta:TE}{t:TA}
theorem pe_methH {pl:Sem Bool}(he:PE X o ta)(c:Cls X.K C)(hm:Meth X.K C m f)(F:FnOkH X.prog X.w X.K X.mg X.base k f fd ps sp)(hr:RoomH k X.A)(hb:Binds X.K fd ps [])(ha:PA X (e::es) t)
  (hst:starEach (e::es) X.env=(false,eval e X.env)::starEach es X.env:=by rfl)(hpl:(backTo pos (starEach es X.env)).any (·.1)=false:=by rfl)
  (ht:eval (.Call (.Attribute o m apos) (e::es) [] pos) X.env=(do
   let ov ←eval o X.env
   standAt apos.atName
   let (f,first) ←holding [ov] (getMethod ov m pl)
   callWith pos f first (backTo pos (starEach (e::es) X.env)) (backToKw pos (keywordEach [] X.env))):=by rfl) :
  PE X (.Call (.Attribute o m apos) (e::es) [] pos) (tMeth C m sp [] E0 ta t):=by
 intro pins s σ H Q I h
 refine PySem.W.methodCall_KW (pl:=pl) (thn (he pins s σ H _ I h) fun u s1 ⟨x,H1,I1,rx,a,dx,fs,ex,ea,l,q⟩=>?_) ht
 subst ex
 obtain rfl:u=Value.ref a:=rx
 refine getmeth_ok I1 ea c hm l ?_
 refine PySem.W.callWith_K (first:=[.ref a]) (h₀:=X.base) I.ok.mod.kin hm.kp (thn (ha pos pins s1 σ H1 _ I1 q) fun us s2 ⟨vs,H2,I2,r,q2⟩=>⟨I2.kIn,?_⟩) hst hpl
 have q2:sp (.ref a::(vs++[])) H2 Q E0:=q2
 rw[List.append_nil]at q2
 have r2:Vals (.ref a::vs) (.ref a::us):=.cons rfl r
 have hl:((.ref a::us)++([]:List Value)).length=ps.length:=by rw[List.append_nil,←r2.length];exact F.len _ _ _ _ q2
 have hb':=hb s2 (.ref a::us) I2.kIn hl
 rw[List.append_nil]at hb'
 refine wpAny_call (codeAny_mono (F.run X.A X.stack s2 H2 ⟨.ref a::us,[]⟩ (.ref a::us) (.ref a::vs) Q E0 hr I2.env0 hb' r2 q2) fun r s' hq=>?_)
 cases r with
 | error e=>exact False.elim hq
 | ok fl =>
  cases fl with
  | ret u=>exact I2.after hq
  | next=>exact False.elim hq
  | brk=>exact False.elim hq
  | cont=>exact False.elim hq
end
section
variable {P:Program}{w:World}{K:PySem.W.Frag}{mg:Str→Option Value}{base:Heap}{N:List Str}{qual:Str}{scope:Scope}{f':Addr}{cd:Value}{A:Around}{outer:List Env}{s₀:Shared}{H₀:Hp}{E:XK}
 {x:Str}{f:Addr}{fd:FuncData}{ps:List Str}{k k':Nat}{sp:Sp}{e:Expr}{es:List Expr}{t:TA}{p pos:Pos}
theorem pe_fnX (F:FnX P w K mg base x f fd ps k sp)(hr:Room k' (cxOf (CXR P w) P w K mg base N qual scope f' cd A outer s₀ H₀ E).A)(ha:PA (cxOf (CXR P w) P w K mg base N qual scope f' cd A outer s₀ H₀ E) (e::es) t)(hk:k≤k':=by first|decide|exact Nat.le_refl _)(hg:Gl (cxOf (CXR P w) P w K mg base N qual scope f' cd A outer s₀ H₀ E) x:=by rfl)(hdb:(x==("__debug__" : Str))=false:=by decide)
  (he:starEach (e::es) (envOfC qual scope s₀.heap.objs.size f' cd)=(false,eval e (envOfC qual scope s₀.heap.objs.size f' cd))::starEach es (envOfC qual scope s₀.heap.objs.size f' cd):=by rfl)(hpl:(backTo pos (starEach es (envOfC qual scope s₀.heap.objs.size f' cd))).any (·.1)=false:=by rfl) :
  PE (cxOf (CXR P w) P w K mg base N qual scope f' cd A outer s₀ H₀ E) (.Call (.Name x p) (e::es) [] pos) (tCall sp [] E t) :=
 pe_call F.ok (hr.mono hk) hg F.mg F.kp F.bd .nil cx_pass ha hdb he hpl
end
section
variable {X:Cx}{x:Str}{f:Addr}{fd:FuncData}{ps:List Str}{k k':Nat}{sp:Sp}{e:Expr}{es:List Expr}{t:TA}{p pos:Pos}
end
end L2
namespace L2
open PySem PySem.Spec PyProof.Rows
section
variable {X:Cx}{pos:Pos}
end
end L2
namespace L2
open PySem PySem.Spec PyProof.Rows
section
variable {X:Cx}
theorem call_sumL (hc:X.calm=true):CallR X (.builtin "sum") (fun xs H Q=>∃(p:Addr)(ns:List Int),xs=[.ref p]∧SqL X.K H p (ns.map V.int)∧Q (.int ns.sum) H):=by
 intro pins s σ H xs us Q I r h
 obtain⟨p,ns,rfl,hq,q⟩:=h
 obtain⟨u,rfl,rx⟩:=vals1 r
 cases rx
 obtain⟨its,rv,pl,hz⟩:=I.list hq
 have hlen:its.length=ns.length:=by rw[←rv.length,List.length_map]
 have plt:p<s.heap.objs.size:=by
  obtain⟨o,ho,_⟩:=pl.isList
  exact Heap.lt_size ho
 have hh:X.A.in1.handled=none:=I.ok.hd hc
 refine call_sum_walkG (wpAny_pyIter_list pl.isList ⟨s.heap.objs.size,_,_,_,_,_,fun i=>ns.getD i 0,rfl,Walks.list hh s.heap.objs.size p (Nat.ne_of_lt plt) its.toArray,⟨⟨_,Heap.get?_push_size _ rfl,rfl,rfl⟩,pl.isList.push _⟩,fun b hb=>?_,fun i v hv=>?_,fun h' tk t' k=>?_⟩)
 ·show b<(s.heap.push _).objs.size
  rw[Heap.size_push]
  have:b=s.heap.objs.size∨b=p:=by simpa using hb
  rcases this with rfl|rfl
  ·exact Nat.lt_succ_self _
  ·exact Nat.lt_succ_of_lt plt
 ·have hv':its[i]?=some v:=by simpa using hv
  have hi:i<ns.length:=by rw[←hlen];exact(List.getElem?_eq_some_iff.mp hv').1
  obtain⟨u,hu,ru⟩:=rv.get (i:=i) (x:=.int ns[i]) (by rw[List.getElem?_map,List.getElem?_eq_getElem hi];rfl)
  rw[hv']at hu;cases hu
  obtain⟨t,rfl⟩:=ru
  refine⟨t,?_⟩
  show Value.int ns[i] t=Value.int (ns.getD i 0) t
  rw[List.getD_eq_getElem?_getD,List.getElem?_eq_getElem hi]
  rfl
 ·have e:its.toArray.size=ns.length:=by rw[List.size_toArray,hlen]
  rw[e,preSum_getD,List.take_length]
  refine⟨.int ns.sum,H,?_,⟨_,rfl⟩,q⟩
  have I1:Inv X pins σ H { s with heap:=s.heap.push { cls:=.type "list_iterator",data:=.fields #[.ref p,.int 0 0] } }:=I.kept (t':=s.toks) fun b o z=>Heap.get?_push_of_some _ z
  refine I1.turnMany (t':=tk) (ch:=[s.heap.objs.size]) (fun b hb=>?_) fun b o hb z=>k b o (by simpa using hb) z
  have:b=s.heap.objs.size:=by simpa using hb
  subst this
  exact I.fpOk (Nat.le_refl _) (I.hok.fresh (Nat.le_refl _))
end
end L2
set_option maxRecDepth 100000
namespace L2
open PySem PySem.Spec PyProof.Rows
section
variable {X:Cx}
theorem call_sumT (hc:X.calm=true):CallR X (.builtin "sum") (fun xs H Q=>∃(p:Addr)(ns:List Int),xs=[.ref p]∧SqT X.K H p (ns.map V.int)∧Q (.int ns.sum) H):=by
 intro pins s σ H xs us Q I r h
 obtain⟨p,ns,rfl,hq,q⟩:=h
 obtain⟨u,rfl,rx⟩:=vals1 r
 cases rx
 obtain⟨its,rv,pl,hz⟩:=I.tuple hq
 have pl':s.heap.IsTuple p its.toArray:=pl
 have hlen:its.length=ns.length:=by rw[←rv.length,List.length_map]
 have plt:p<s.heap.objs.size:=by
  obtain⟨o,ho,_⟩:=pl'
  exact Heap.lt_size ho
 have hh:X.A.in1.handled=none:=I.ok.hd hc
 refine call_sum_walkG (wpAny_pyIter_tuple pl' ⟨s.heap.objs.size,_,_,_,_,_,fun i=>ns.getD i 0,rfl,Walks.tuple hh s.heap.objs.size p (Nat.ne_of_lt plt) its.toArray,⟨⟨_,Heap.get?_push_size _ rfl,rfl,rfl⟩,pl'.push _⟩,fun b hb=>?_,fun i v hv=>?_,fun h' tk t' k=>?_⟩)
 ·show b<(s.heap.push _).objs.size
  rw[Heap.size_push]
  have:b=s.heap.objs.size∨b=p:=by simpa using hb
  rcases this with rfl|rfl
  ·exact Nat.lt_succ_self _
  ·exact Nat.lt_succ_of_lt plt
 ·have hv':its[i]?=some v:=by simpa using hv
  have hi:i<ns.length:=by rw[←hlen];exact(List.getElem?_eq_some_iff.mp hv').1
  obtain⟨u,hu,ru⟩:=rv.get (i:=i) (x:=.int ns[i]) (by rw[List.getElem?_map,List.getElem?_eq_getElem hi];rfl)
  rw[hv']at hu;cases hu
  obtain⟨t,rfl⟩:=ru
  refine⟨t,?_⟩
  show Value.int ns[i] t=Value.int (ns.getD i 0) t
  rw[List.getD_eq_getElem?_getD,List.getElem?_eq_getElem hi]
  rfl
 ·have e:its.toArray.size=ns.length:=by rw[List.size_toArray,hlen]
  rw[e,preSum_getD,List.take_length]
  refine⟨.int ns.sum,H,?_,⟨_,rfl⟩,q⟩
  have I1:Inv X pins σ H { s with heap:=s.heap.push { cls:=.type "tuple_iterator",data:=.fields #[.ref p,.int 0 0] } }:=I.kept (t':=s.toks) fun b o z=>Heap.get?_push_of_some _ z
  refine I1.turnMany (t':=tk) (ch:=[s.heap.objs.size]) (fun b hb=>?_) fun b o hb z=>k b o (by simpa using hb) z
  have:b=s.heap.objs.size:=by simpa using hb
  subst this
  exact I.fpOk (Nat.le_refl _) (I.hok.fresh (Nat.le_refl _))
theorem PI.or {tg l:Expr}{w1 w2:TI}(h1:PI X tg l w1)(h2:PI X tg l w2):PI X tg l (fun σ H R=>w1 σ H R∨w2 σ H R):=by
 intro pins s σ H R I h
 rcases h with h|h
 ·exact h1 pins s σ H R I h
 ·exact h2 pins s σ H R I h
end
section
variable {prog:Program}{w:World}{A:Around}{E:Value→Shared→Prop}{s:Shared}
theorem tindex_loop {us:List Value}{ns:List Int}{z:Int}{tz:Tok}{j:Nat}{Q:Option Fin×Unit→Shared→Prop}(hi:IntsAre us ns)(hj:ns[j]?=some z)(hno:∀i,i<j→ns[i]?≠some z)(q:∀r,r=.done (.ret (.int j s.toks))→Q (some r,()) { s with toks:=s.toks+1 }) :
  ∀(k i:Nat),i+k=us.length→i≤j→wpAny (model prog w) A (forIn (List.range' i k) ((none,()):Option Fin×Unit) fun(i:Nat) __s =>
      match us.toArray[i]? with
      | some y=>do
       let __do_lift ←eqBool y (Value.int z tz)
       if __do_lift=true then do
         let __do_lift ←retInt ↑i
         pure (ForInStep.done (some __do_lift,()))
        else pure (ForInStep.yield (none,()))
      | _=>pure (ForInStep.yield (none,()))) Q E s:=by
 have hlen:us.length=ns.length:=by
  clear hj hno q
  induction hi with
  | nil=>rfl
  | cons _ _ _ ih=>simp[ih]
 have get:∀i (h:i<ns.length),∃t,us[i]?=some (Value.int ns[i] t):=by
  clear hj hno q hlen
  induction hi with
  | nil=>intro i h;exact absurd h (Nat.not_lt_zero _)
  | cons m t r ih =>
   intro i h
   cases i with
   | zero=>exact⟨t,rfl⟩
   | succ i=>obtain⟨t',e⟩:=ih i (by simpa using h);exact⟨t',by simpa using e⟩
 have hjl:j<ns.length:=(List.getElem?_eq_some_iff.mp hj).1
 intro k
 induction k with
 | zero=>intro i e h;omega
 | succ k ih =>
  intro i e h
  rw[List.range'_succ,List.forIn_cons]
  obtain⟨t,et⟩:=get i (by omega)
  have et':us.toArray[i]?=some (Value.int ns[i] t):=by simpa using et
  rw[et']
  refine wpAny_bind (wpAny_bind (wpAny_eqBool_int ?_))
  by_cases c:i=j
  ·subst c
   have ez:ns[i]=z:=by rw[List.getElem?_eq_getElem hjl]at hj;exact Option.some.inj hj
   rw[if_pos (by simp[ez])]
   unfold retInt
   refine wpAny_bind (wpAny_bind (wpAny_mkInt (wpAny_pure (wpAny_pure (wpAny_pure (q _ rfl))))))
  ·have ne:¬ns[i]=z:=fun y=>hno i (by omega) (by rw[List.getElem?_eq_getElem (by omega),y])
   rw[if_neg (by simpa using ne)]
   exact wpAny_pure (ih (i+1) (by omega) (by omega))
theorem tindex_body {t:Addr}{us:List Value}{ns:List Int}{z:Int}{tz:Tok}{j:Nat}{Q:Value→Shared→Prop}(hT:s.heap.IsTuple t us.toArray)(hi:IntsAre us ns)(hj:ns[j]?=some z)(hno:∀i,i<j→ns[i]?≠some z)
  (q:Q (.int j s.toks) { s with toks:=s.toks+1 }):wpAny (model prog w) A (Builtin.«tuple.index» ⟨[.ref t,.int z tz],[]⟩) (fun fin s'=>∃v,fin=.done (.ret v)∧Q v s') E s:=by
 obtain⟨hp,g,d,tk,os⟩:=s
 obtain⟨⟨cls,dd,data,sl⟩,ho,hc,n,hd⟩:=hT
 simp only at hc hd
 subst hc hd
 unfold Builtin.«tuple.index»
 simp only[Std.Legacy.Range.forIn_eq_forIn_range']
 wp_walk using AutoSeq1.wpAny_loadPart' ho
 have sz:[:min us.toArray.size us.toArray.size].size=us.length:=by simp[Std.Legacy.Range.size]
 rw[sz]
 refine tindex_loop (us:=us) (ns:=ns) (z:=z) (tz:=tz) (j:=j) hi hj hno (fun r er=>?_) us.length 0 (Nat.zero_add _) (Nat.zero_le _)
 subst er
 exact wpAny_pure ⟨_,rfl,q⟩
end
section
variable {X:Cx}
theorem mt_tindex:MtR X "tuple.index" (fun x xs H Q=>∃(a:Addr)(ns:List Int)(z:Int)(j:Nat),x=.ref a∧xs=[.int z]∧SqT X.K H a (ns.map V.int)∧ns[j]?=some z∧(∀i,i<j→ns[i]?≠some z)∧Q (.int (j:Int)) H):=by
 intro pins s σ H x xs v us Q I rx rv h
 obtain⟨a,ns,z,j,rfl,rfl,hq,hj,hno,q⟩:=h
 cases rx
 obtain⟨u,rfl,ru⟩:=rv.one
 obtain⟨tz,rfl⟩:=ru
 obtain⟨its,r,pt,_⟩:=I.tuple hq
 exact wpAny_call_entry PySem.F.slot_tuple_index pt.typeIs PySem.F.entry_tuple_index (tindex_body pt (intsAre_of r) hj hno ⟨.int (j:Int),H,I.tok _,⟨_,rfl⟩,q⟩) (PySem.F.args_tuple_index_2 _ _)
variable {o e:Expr}{es:List Expr}{to:TE}{t:TA}{name:Str}{apos cpos:Pos}{id:String}{r:V→List V→Hp→VK→Prop}
def tBMT (r:V→List V→Hp→VK→Prop)(to:TE)(t:TA):TE:=fun σ H Q=>to σ H fun x H1=>(∃p xs,x=.ref p∧H1 p=some (.tup xs))∧t σ H1 fun xs H2=>r x xs H2 Q
theorem pe_bmT (pa:PlainAttrs "tuple")(slot:Slot "tuple" name id)(hty:typeOf (.builtin id)=pure (.type "method_descriptor"))(hm:MtR X id r)(ho:PE X o to)(ha:PA X (e::es) t)
  (hbase:attributeBase o name X.env (eval o X.env)=eval o X.env:=by rfl)
  (hfew:((backTo cpos (starEach (e::es) X.env)).all (fun x=>!x.1)&&(backToKw cpos (keywordEach [] X.env)).all (fun x=>x.1.isSome)
   && decide ((e::es).length+([]:List Keyword).length+(if ([]:List Keyword).isEmpty then 0 else 1)<30))=true:=by rfl)
  (hline:(apos.endLine==cpos.line)=true:=by rfl)(hs:starEach (e::es) X.env=(false,eval e X.env)::starEach es X.env:=by rfl)(hplain:(backTo cpos (starEach es X.env)).any (·.1)=false:=by rfl) :
  PE X (.Call (.Attribute o name apos) (e::es) [] cpos) (tBMT r to t):=by
 intro pins s σ H Q I h
 refine wpAny_Call_method_late hbase hfew hline rfl (thn (ho pins s σ H _ I h) fun v s1 ⟨x,H1,I1,r1,⟨p,xs,ex,hp⟩,q1⟩=>?_)
 subst ex
 cases r1
 obtain⟨_,its,_,pt,ob,h2,h3⟩:=(show ObjOk X.prog X.w H1 s1.heap p (.tup xs)from I1.hok p _ hp)
 refine⟨"tuple",id,pa,slot,hty,pt.typeIs,fun a ea=>by cases ea;exact⟨ob,h2,h3⟩,?_⟩
 have hA:=ha cpos pins s1 σ H1 _ I1 q1
 rw[hs]at hA ⊢
 refine Calls.callWith_builtin (by show(false||(backTo cpos (starEach es X.env)).any (·.1))=false;rw[hplain]<;>rfl) (Calls.evalArgs_plain ?_)
 exact thn hA fun us s2 ⟨vs,H2,I2,r2,q2⟩=>hm pins s2 σ H2 (.ref p) vs (.ref p) us Q I2 rfl r2 q2
end
end L2
namespace L2
open PySem PySem.Spec PyProof.Rows
noncomputable def IteL (K:PySem.W.Frag)(a:Addr):It :=
 ⟨fun i H=>∃xs x,SqL K H a xs∧xs[i]?=some x,fun i H v H'=>∃p x,H p=none∧v=.ref p∧H'=upd H p (.tup [.int i,x])∧∀xs,SqL K H a xs→xs[i]?=some x,fun i H=>∃xs,SqL K H a xs∧xs.length≤i⟩
theorem turn_enumL {P:Program}{w:World}{K:PySem.W.Frag}{elts:List Expr} {x1}{tp:Pos}{e it a:Addr}(hne:e≠it)(hae:a≠e)(hai:a≠it) :
  Turn P w K (.Tuple elts x1 tp) (IteL K a) [e,it] e (fun i h=>(∃old,IsEnum h e it i old)∧h.IsListIter it a i) where
 mem:=by simp
 obj:=fun i h st b hb=>by
  obtain⟨⟨old,q⟩,⟨o,e1,c,d⟩⟩:=st
  rcases List.mem_cons.mp hb with z|z
  ·subst z;exact⟨_,q,fun v z=>by have z':Data.fields _=Data.cell v:=z;cases z'⟩
  ·have z:b=it:=by simpa using z
   subst z;exact⟨o,e1,fun v z=>by rw[d]at z;cases z⟩
 keep:=fun i h h' ⟨⟨old,q⟩,r⟩ k=>⟨⟨old,k e (by simp) _ q⟩,r.at fun o z=>k it (by simp) o z⟩
 item:=by
  intro X hP hw hK hc i pins s σ H E I hf st hg
  subst hP hw hK
  obtain⟨⟨old,he⟩,hit⟩:=st
  obtain⟨xs,x,hq,hx⟩:=hg
  obtain⟨its,rv,p,hz⟩:=I.list hq
  obtain⟨u,hu,ru⟩:=rv.get hx
  refine wpAny_pyNext_enum_item he hit p.isList (x:=u) (by simpa using hu) hne fun h' o1 a1 tp1 sz k1=>⟨_,rfl,?_⟩
  refine wpAny_letOwnedTupleGo_enum o1 fun h2 e2 k2=>?_
  have hT:s.heap.objs.size≠e:=Nat.ne_of_gt (Heap.lt_size he)
  have kk:∀b v,b∉[e,it]→s.heap.get? b=some v→h2.get? b=some v:=fun b v hb q=>by
   have n1:b≠e:=fun z=>hb (by simp[z])
   have n2:b≠it:=fun z=>hb (by simp[z])
   exact(k2.2 b n1).trans (k1 b v n1 n2 q)
  have new:ObjOk X.prog X.w (upd H s.heap.objs.size (.tup [.int i,x])) h2 s.heap.objs.size (.tup [.int i,x]) :=
   ⟨by show 2≤sizeLine;decide,[.int i s.toks,u],.cons ⟨_,rfl⟩ (.cons ru .nil),⟨_,(k2.2 _ hT).trans tp1,rfl,_,rfl⟩,_,(k2.2 _ hT).trans tp1,rfl⟩
  have IL:Inv X pins σ (upd H s.heap.objs.size (.tup [.int i,x])) { s with heap:=h2,toks:=s.toks+1 }:=I.turnLay (t':=s.toks+1) (ch:=[e,it]) hf kk (Nat.le_refl _) new
  refine⟨.ref s.heap.objs.size,_,IL,rfl,⟨_,x,I.hok.fresh (Nat.le_refl _),rfl,rfl,fun ys hy=>by rw[I.list_inj hy hq];exact hx⟩,⟨⟨u,?_⟩,a1.at fun o z=>(k2.2 it hne.symm).trans z⟩,fun b hb=>?_⟩
  ·have e3:IsEnum h2 e it ((i:Int)+1) u:=e2
   rw[show(((i+1:Nat):Int))=(i:Int)+1 by omega]
   exact e3
  ·rw[upd_ne (Nat.ne_of_lt ?_)]
   ·exact(hf b hb).1
   ·rcases List.mem_cons.mp hb with z|z
    ·rw[z];exact Heap.lt_size he
    ·have z:b=it:=by simpa using z
     obtain⟨o,q,_⟩:=hit
     rw[z];exact Heap.lt_size q
 done:=by
  intro X hP hw hK hc i pins s σ H E I hf st hg
  subst hP hw hK
  obtain⟨⟨old,he⟩,hit⟩:=st
  obtain⟨xs,hq,hx⟩:=hg
  obtain⟨its,rv,p,hz⟩:=I.list hq
  have hl:=rv.length
  refine wpAny_pyNext_enum_end (I.ok.hd hc) he hit p.isList (by simp;omega) fun h' k=>⟨rfl,I.turnMany (t':=s.toks) (ch:=[e,it]) hf fun b v hb q=>k b v (fun z=>hb (by simp[z])) q⟩
 self:=fun _ _ _ _ _ ⟨⟨_,q⟩,_⟩ h=>wpAny_pyIter_enum q h
section
variable {X:Cx}
def iEnumL (K:PySem.W.Frag)(ta:TA):TI:=fun σ H R=>ta σ H fun vs H1=>∃a,vs=[.ref a]∧(∃xs,SqL K H1 a xs)∧R (IteL K a) H1
theorem pi_enumL {a:Expr}{ta:TA}{p pos tp:Pos}{elts:List Expr} {x1}(hg:Gl X "enumerate")(hm:X.mg "enumerate"=none)(ha:PA X [a] ta)(hs:starEach [a] X.env=[(false,eval a X.env)]:=by rfl) :
  PI X (.Tuple elts x1 tp) (.Call (.Name "enumerate" p) [a] [] pos) (iEnumL X.K ta):=by
 intro pins s σ H R I h
 refine Call_ (ld_blt I hg hm boot_enumerate (PyProof.Rows.callWith_type1 (thn (ha pos pins s σ H _ I h) fun us s1 ⟨vs,H1,I1,r1,q1⟩=>?_) hs rfl))
 obtain⟨t,e,⟨xs,hq⟩,q⟩:=q1
 subst e
 cases r1 with
 | cons r rr =>
  cases rr
  cases r
  obtain⟨its,rv,pt,hz⟩:=I1.list hq
  have tlt:t<s1.heap.objs.size:=by obtain⟨o,ho,_⟩:=pt.isList;exact Heap.lt_size ho
  refine call_enumerate_list pt.isList fun h' he a0 sz k=>?_
  have I2:Inv X pins σ H1 { s1 with heap:=h' }:=I1.kept (t':=s1.toks) k
  refine wpAny_pyIter_enum (it:=s1.heap.objs.size) (i:=0) (old:=.none) he ⟨_,[s1.heap.objs.size+1,s1.heap.objs.size],_,_,H1,rfl,I2,turn_enumL (a:=t) (Nat.ne_of_gt (Nat.lt_succ_self _)) (Nat.ne_of_lt (Nat.lt_succ_of_lt tlt)) (Nat.ne_of_lt tlt),⟨⟨_,he⟩,a0⟩,fun b hb=>?_,q⟩
  have hb':s1.heap.objs.size≤b:=by
   simp only[List.mem_cons,List.not_mem_nil,or_false]at hb
   rcases hb with rfl|rfl
   ·exact Nat.le_succ _
   ·exact Nat.le_refl _
  exact I1.fpOk hb' (I1.hok.fresh hb')
end
end L2
namespace L2
open PySem PySem.Spec PyProof.Rows
section
variable {X:Cx}
end
end L2
set_option maxRecDepth 100000
namespace PySem
namespace R4
end R4
open PyProof.Rows
section
variable {prog:Program}{w:World}{A:Around}{E:Value→Shared→Prop}{s:Shared}
def Heap.IsRevT (h:Heap)(a t:Addr)(i:Int):Prop:=∃o,h.get? a=some o∧o.cls=.type "reversed"∧o.data=.fields #[.ref t,rawInt i]
theorem Heap.IsRevT.at {h h':Heap}{a t:Addr}{i:Int}(x:h.IsRevT a t i)(e:∀o,h.get? a=some o→h'.get? a=some o):h'.IsRevT a t i:=let ⟨o,ho,r⟩:=x;⟨o,e _ ho,r⟩
end
section
variable {prog:Program}{w:World}{A:Around}{E:Value→Shared→Prop}{s:Shared}{I:Addr}{fp wr:List Addr}{G:Array GenState→Array GenState→Prop}{n:Nat}{P:Nat→Value→Prop}{St:Nat→Shared→Prop}
end
end PySem
namespace L2
open PySem PySem.Spec PyProof.Rows
section
variable {X:Cx}
end
end L2
namespace HT
open PySem PyProof.Rows
section
open PySem.SeqAt
open PySem.AutoSeq1 (wpAny_loadPart')
open PySem.MeetsSeq PySem.MeetsSeq2 PySem.MeetsSeq3
end
section
variable {prog:Program}{w:World}{A:Around}{E:Value→Shared→Prop}{s:Shared}
end
end HT
namespace L2
open PySem PySem.Spec PyProof.Rows
section
variable {X:Cx}
end
noncomputable def ItrS (lo st:Int)(n:Nat):It:=⟨fun i _=>i<n,fun i H x H'=>H'=H∧x=.int (lo+i*st),fun i _=>n≤i⟩
theorem turn_rangeS {P:Program}{w:World}{K:PySem.W.Frag}{tg:Expr}(it:Addr)(lo st:Int)(n:Nat):Turn P w K tg (ItrS lo st n) [it] it (fun i h=>IsRangeIter h it (lo+(i:Nat)*st) ((n:Int)-(i:Nat)) st) where
 mem:=by simp
 obj:=fun i h st b hb=>by
  have e:b=it:=by simpa using hb
  subst e
  exact⟨_,st,fun v z=>by
   have z':Data.fields _=Data.cell v:=z
   cases z'⟩
 keep:=fun i h h' st k=>k it (by simp) _ st
 item:=by
  intro X hP hw hK hc i pins s σ H E I hf sti hg
  subst hP hw hK
  obtain⟨f0,f1,f2,f3,f4,f5⟩:=hf it (by simp)
  have W:=Walks.range (prog:=X.prog) (w:=X.w) (I.ok.hd hc) it lo st n
  refine W.item i s _ _ hg sti fun v h' tk hv st' kk=>?_
  obtain⟨t,rfl⟩:=hv
  have I1:Inv X pins σ H { s with heap:=h',toks:=tk }:=I.turned (fun b o hb e=>kk b o (by simpa using hb) e) f0 f1 f3 f4 f5
  exact⟨_,rfl,go_of (s:={ s with heap:=h',toks:=tk }) (n:="range_iterator") st' rfl rfl (by decide) ⟨.int (lo+i*st),H,I1,⟨t,rfl⟩,⟨rfl,rfl⟩,st',fun b hb=>(hf b hb).1⟩⟩
 done:=by
  intro X hP hw hK hc i pins s σ H E I hf st hg
  subst hP hw hK
  obtain⟨f0,f1,f2,f3,f4,f5⟩:=hf it (by simp)
  exact wpAny_pyNext_range_end (I.ok.hd hc) st (by have:n≤i:=hg;omega) fun h' eb=>⟨rfl,I.turned (t':=s.toks) (fun b o hb e=>eb b o hb e) f0 f1 f3 f4 f5⟩
 self:=fun _ _ _ _ _ st h=>wpAny_pyIter_rangeiter st h
theorem rangeSize_down (a b:Int):Builtin.Range.rangeSize a b (-1)=if a>b then a-b else 0:=by
 unfold Builtin.Range.rangeSize
 rw[if_neg (by decide),show -(-1:Int)=1 from rfl,Int.ediv_one]
 split<;>omega
theorem small_down {a b:Int}(ha : -(2 ^ 62)≤a)(ha':a<2 ^ 62)(hb : -(2 ^ 62)≤b)(hb':b<2 ^ 62):Builtin.Range.small a b (-1)=true:=by
 unfold Builtin.Range.small
 rw[rangeSize_down]
 simp only[Builtin.Range.rangeFitsLong,Bool.and_eq_true,Bool.or_eq_true,decide_eq_true_eq,beq_iff_eq,show ¬((-1:Int)>0)by decide,if_false]
 split<;>omega
def iRngDown (ta:TA):TI:=fun σ H R=>ta σ H fun vs H1=>∃(lo hi:Int),vs=[.int lo,.int hi,.int (-1)]∧(-(2 ^ 62)≤lo∧lo<2 ^ 62∧-(2 ^ 62)≤hi∧hi<2 ^ 62)∧R (ItrS lo (-1) (lo-hi).toNat) H1
section
variable {X:Cx}{tg:Expr}
theorem pi_rangeDown {a b c:Expr}{ta:TA}{p pos:Pos}(hg:Gl X "range")(hm:X.mg "range"=none)(ha:PA X [a,b,c] ta)(hs:starEach [a,b,c] X.env=[(false,eval a X.env),(false,eval b X.env),(false,eval c X.env)]:=by rfl)
  (hs2:starEach [b,c] X.env=[(false,eval b X.env),(false,eval c X.env)]:=by rfl):PI X tg (.Call (.Name "range" p) [a,b,c] [] pos) (iRngDown ta):=by
 intro pins s σ H R I h
 refine Call_ (ld_blt I hg hm boot_range (PyProof.Rows.callWith_type1 (thn (ha pos pins s σ H _ I h) fun us s1 ⟨vs,H1,I1,r1,q1⟩=>?_) (by rw[hs,hs2]) (by rw[hs2];rfl)))
 obtain⟨lo,hi,e,⟨q1,q2,q3,q4⟩,q⟩:=q1
 subst e
 cases r1 with
 | cons r rr =>
  cases rr with
  | cons r' rr =>
   cases rr with
   | cons r'' rr =>
    cases rr
    obtain⟨t,rfl⟩:=r
    obtain⟨t',rfl⟩:=r'
    obtain⟨t'',rfl⟩:=r''
    refine call_range_3 (by decide) ?_ (Or.inl (PyProof.noPylong_small (by omega)))
    refine wpAny_pyIter_range (IsRange.new ..) (small_down q1 q2 q3 q4) ?_
    have I2:Inv X pins σ H1 { s1 with heap:=s1.heap.push { cls:=.type "range",data:=.fields #[.int lo t,.int hi t',.int (-1) t''] },toks:=s1.toks }:=I1.kept fun b o e=>Heap.get?_push_of_some _ e
    refine⟨_,[(s1.heap.push { cls:=.type "range",data:=.fields #[.int lo t,.int hi t',.int (-1) t''] }).objs.size],_,_,H1,rfl,I2.kept (t':=s1.toks) fun b o e=>Heap.get?_push_of_some _ e,turn_rangeS _ lo (-1) (lo-hi).toNat,?_,fun b hb=>?_,q⟩
    ·have e1:lo+((0:Nat):Int)*(-1)=lo:=by simp
     have e2:(((lo-hi).toNat:Nat):Int)-((0:Nat):Int)=Builtin.Range.rangeSize lo hi (-1):=by rw[rangeSize_down];omega
     show IsRangeIter _ _ (lo+((0:Nat):Int)*(-1)) ((((lo-hi).toNat:Nat):Int)-((0:Nat):Int)) (-1)
     rw[e1,e2]
     exact Heap.get?_push_size _ rfl
    ·have e:b=(s1.heap.push { cls:=.type "range",data:=.fields #[.int lo t,.int hi t',.int (-1) t''] }).objs.size:=by simpa using hb
     subst e
     exact I2.fpOk (Nat.le_refl _) (I2.hok.fresh (Nat.le_refl _))
end
end L2
namespace L2
open PySem PySem.Spec PyProof.Rows
theorem for_rangeS {lo st:Int}{n:Nat}{g:TG}{tb:TS}{D:Ends}{σ:St}{H:Hp}(Pv:Nat→St→Hp→Prop)(h0:Pv 0 σ H)
  (hs:∀i σ H,i<n→Pv i σ H→g (.int (lo+i*st)) σ H fun σ2 H2=>tb { D with nx:=Pv (i+1),ct:=Pv (i+1),bk:=D.nx } σ2 H2)(hd:∀σ H,Pv n σ H→D.nx σ H) :
  ∃W:Nat→Nat→St→Hp→Prop,(∃m,W 0 m σ H)∧∀i m σ H,W i m σ H →
   ((ItrS lo st n).stop i H∧D.nx σ H)∨((ItrS lo st n).go i H∧∃N:St→Hp→Prop,(∀σ' H',N σ' H'→∃m',m'<m∧W (i+1) m' σ' H')∧∀x H',(ItrS lo st n).yld i H x H'→g x σ H' fun σ2 H2=>tb { D with nx:=N,ct:=N,bk:=D.nx } σ2 H2):=by
 refine⟨fun i m σ H=>m=n-i∧i≤n∧Pv i σ H,⟨n,by simp,Nat.zero_le _,h0⟩,?_⟩
 rintro i m σ H ⟨rfl,hi,p⟩
 by_cases hlt:i<n
 ·refine .inr ⟨hlt,Pv (i+1),fun σ' H' p'=>⟨n-(i+1),by omega,rfl,hlt,p'⟩,fun x H' y=>?_⟩
  obtain⟨e,e2⟩:=y
  subst e e2
  exact hs i σ _ hlt p
 ·have e:i=n:=by omega
  subst e
  exact .inl ⟨Nat.le_refl _,hd σ H p⟩
end L2
set_option maxRecDepth 100000
set_option maxHeartbeats 2000000
namespace L2
open PySem PySem.Spec PyProof.Rows
section
variable {κ:Type} [DecidableEq κ]
noncomputable def valV (kvs:List (κ×V))(k:κ):Option V:=(kvs.find? fun kv=>decide (kv.1=k)).map (·.2)
noncomputable def putK (kvs:List (κ×V))(k:κ)(v:V):List (κ×V) :=
 if (kvs.any fun kv=>decide (kv.1=k))=true then kvs.map (fun kv=>if kv.1=k then (kv.1,v)else kv)else kvs++[(k,v)]
theorem valV_pos {p:κ×V}{r:List (κ×V)}{k:κ}(e:p.1=k):valV (p::r) k=some p.2:=by simp[valV,List.find?_cons,e]
theorem valV_neg {p:κ×V}{r:List (κ×V)}{k:κ}(e:¬p.1=k):valV (p::r) k=valV r k:=by simp[valV,List.find?_cons,e]
theorem RelO.getD {o:Option V}{u:Option Value}{d:V}{d':Value}(r:RelO o u)(rd:RelV d d'):RelV (o.getD d) (u.getD d'):=by
 cases o with
 | none=>cases u with
  | none=>exact rd
  | some _=>exact(show False from r).elim
 | some _=>cases u with
  | none=>exact(show False from r).elim
  | some _=>exact r
theorem KV.val {kvs:List (κ×V)}{vs:List (κ×Value)}(r:KV kvs vs)(k:κ):RelO (valV kvs k) (valueAt vs k):=by
 unfold KV at r
 induction r with
 | nil=>exact True.intro
 | @cons p q ps qs h t ih =>
  obtain⟨h1,h2⟩:=h
  by_cases e:p.1=k
  ·have e':q.1=k:=h1.symm.trans e
   have b:valueAt (q::qs) k=some q.2:=by simp[valueAt,List.find?_cons,e']
   rw[valV_pos e,b];exact h2
  ·have e':¬q.1=k:=fun z=>e (h1.trans z)
   have b:valueAt (q::qs) k=valueAt qs k:=by simp[valueAt,List.find?_cons,e']
   rw[valV_neg e,b];exact ih
theorem KV.length {kvs:List (κ×V)}{vs:List (κ×Value)}(r:KV kvs vs):kvs.length=vs.length:=Paired.length r
end
abbrev KT (H:Hp):List (List Key×V)→List (List Key×Addr×Value)→Prop:=Paired fun p q=>p.1=q.1∧H q.2.1=some (.tup (p.1.map kV))∧RelV p.2 q.2.2
theorem KT.val {H:Hp}{kvs:List (List Key×V)}{xs:List (List Key×Addr×Value)}(r:KT H kvs xs)(k:List Key):RelO (valV kvs k) ((atKey xs k).map (·.2)):=by
 induction r with
 | nil=>exact True.intro
 | @cons p q ps qs h t ih =>
  obtain⟨h1,_,h2⟩:=h
  by_cases e:p.1=k
  ·have e':q.1=k:=h1.symm.trans e
   have b:atKey (q::qs) k=some q.2:=by simp[atKey,List.find?_cons,e']
   rw[valV_pos e,b];exact h2
  ·have e':¬q.1=k:=fun z=>e (h1.trans z)
   have b:atKey (q::qs) k=atKey qs k:=by simp[atKey,List.find?_cons,e']
   rw[valV_neg e,b];exact ih
theorem KT.keeps {H H':Hp}{kvs:List (List Key×V)}{xs:List (List Key×Addr×Value)}(r:KT H kvs xs)(ht:∀b ys,H b=some (.tup ys)→H' b=some (.tup ys)):KT H' kvs xs :=
 Paired.mapP r fun _ _ z=>⟨z.1,ht _ _ z.2.1,z.2.2⟩
section
variable {P:Program}{w:World}{H:Hp}{h:Heap}{a:Addr}
end
def DGet (H:Hp)(a:Addr)(y:V)(r:Option V):Prop :=
 (∃kvs k,Rd H a (.dK kvs)∧y=kV k∧r=valV kvs k)∨∃kvs k b,Rd H a (.dT kvs)∧y=.ref b∧H b=some (.tup (k.map kV))∧r=valV kvs k
def DPut (H:Hp)(a:Addr)(y v:V)(H':Hp):Prop :=
 (∃kvs k,H a=some (.dK kvs)∧y=kV k∧kvs.length<sizeLine∧H'=upd H a (.dK (putK kvs k v))) ∨
 ∃kvs k b,H a=some (.dT kvs)∧y=.ref b∧H b=some (.tup (k.map kV))∧kvs.length<sizeLine∧H'=upd H a (.dT (putK kvs k v))
theorem DGet.k {H:Hp}{a:Addr}{kvs:List (Key×V)}{k:Key}(e:H a=some (.dK kvs)):DGet H a (kV k) (valV kvs k):=.inl ⟨kvs,k,.inl e,rfl,rfl⟩
theorem DGet.t {H:Hp}{a b:Addr}{kvs:List (List Key×V)}{k:List Key}(e:H a=some (.dT kvs))(eb:H b=some (.tup (k.map kV))):DGet H a (.ref b) (valV kvs k):=.inr ⟨kvs,k,b,.inl e,rfl,eb,rfl⟩
theorem DPut.k {H:Hp}{a:Addr}{kvs:List (Key×V)}{k:Key}{v:V}(e:H a=some (.dK kvs))(hl:kvs.length<sizeLine):DPut H a (kV k) v (upd H a (.dK (putK kvs k v))):=.inl ⟨kvs,k,e,rfl,hl,rfl⟩
theorem DPut.t {H:Hp}{a b:Addr}{kvs:List (List Key×V)}{k:List Key}{v:V}(e:H a=some (.dT kvs))(eb:H b=some (.tup (k.map kV)))(hl:kvs.length<sizeLine) :
  DPut H a (.ref b) v (upd H a (.dT (putK kvs k v))):=.inr ⟨kvs,k,b,e,rfl,eb,hl,rfl⟩
section
variable {X:Cx}{pins:List (Addr×Obj)}{σ:St}{H:Hp}{s:Shared}{a:Addr}{y v:V}{u r:Value}{o:Option V}{A:Around}{E:Value→Shared→Prop}
theorem Inv.big (I:Inv X pins σ H s):sysModules<s.heap.objs.size:=by
 have h:mainGlobals<s.heap.objs.size:=(I.mod.glob.keeps I.bk).lt
 exact Nat.lt_trans (by decide) h
end
section
variable {X:Cx}{pins:List (Addr×Obj)}{σ:St}{H:Hp}{s:Shared}{a:Addr}{kvs:List (Key×V)}{k:Key}{u:Value}{A:Around}{E:Value→Shared→Prop}
end
section
variable {X:Cx}{o i e value:Expr}{pos pos' tpos:Pos}{td ty tv:TE}
end
theorem dk_empty {P:Program}{w:World}{H:Hp}(h:Heap)(hb:sysModules<h.objs.size):ObjOk P w H (h.push { cls:=.type "dict",data:=.dict #[] }) h.objs.size (.dK []) :=
 ⟨Nat.zero_le _,beq_eq_false_iff_ne.mpr (Ne.symm (Nat.ne_of_lt hb)),[],.nil,Heap.DictOf.new h⟩
def tDNewK:TE:=fun _ H Q=>∀p,H p=none→Q (.ref p) (upd H p (.dK []))
section
variable {X:Cx}{pos:Pos}
theorem pe_dnewK:PE X (.Dict [] [] pos) tDNewK:=fun pins s σ H Q I h =>
 wpAny_Dict_empty ⟨.ref s.heap.objs.size,_,I.laid (a:=s.heap.objs.size) (o:=.dK []) (t':=s.toks) (fun _ _ q=>Heap.get?_push_of_some _ q) (Nat.le_refl _) (dk_empty s.heap I.big),rfl,h _ (I.hok.fresh (Nat.le_refl _))⟩
end
noncomputable def tPairs:List (TE×TE)→St→Hp→(List (V×V)→Hp→Prop)→Prop
 | [],_,H,Q=>Q [] H
 |(tk,tv)::r,σ,H,Q=>tk σ H fun x H1=>tv σ H1 fun y H2=>tPairs r σ H2 fun ps H3=>Q ((x,y)::ps) H3
abbrev VV:List (V×V)→List (Value×Value)→Prop:=Paired fun p q=>RelV p.1 q.1∧RelV p.2 q.2
def PPs (X:Cx)(pos:Pos)(keys:List (Option Expr))(values:List Expr)(trs:List (TE×TE)):Prop :=
 ∀(pins:List (Addr×Obj))(s:Shared)(σ:St)(H:Hp)(Q:List (V×V)→Hp→Prop),Inv X pins σ H s→tPairs trs σ H Q →
  wpAny (model X.prog X.w) X.A (evalPairs (pairTrees keys values X.env pos)) (fun vs s'=>∃ps H',Inv X pins σ H' s'∧VV ps vs∧Q ps H') X.xe s
structure M1 (X:Cx)(o:Expr)(m:Str)(apos:Pos)(e:Expr)(cpos:Pos):Prop where
 base:attributeBase o m X.env (eval o X.env)=eval o X.env
 few:((backTo cpos (starEach [e] X.env)).all (fun x=>!x.1)&&(backToKw cpos (keywordEach [] X.env)).all (fun x=>x.1.isSome)
  && decide (([e]:List Expr).length+([]:List Keyword).length+(if ([]:List Keyword).isEmpty then 0 else 1)<30))=true
 line:(apos.endLine==cpos.line)=true
 trees:backTo cpos (starEach [e] X.env)=[(false,eval e X.env)]
structure M2 (X:Cx)(o:Expr)(m:Str)(apos:Pos)(e f:Expr)(cpos:Pos):Prop where
 base:attributeBase o m X.env (eval o X.env)=eval o X.env
 few:((backTo cpos (starEach [e,f] X.env)).all (fun x=>!x.1)&&(backToKw cpos (keywordEach [] X.env)).all (fun x=>x.1.isSome)
  && decide (([e,f]:List Expr).length+([]:List Keyword).length+(if ([]:List Keyword).isEmpty then 0 else 1)<30))=true
 line:(apos.endLine==cpos.line)=true
 trees:backTo cpos (starEach [e,f] X.env)=[(false,eval e X.env),(false,eval f X.env)]
section
variable {X:Cx}{pins:List (Addr×Obj)}{σ:St}{H:Hp}{s:Shared}{a:Addr}{y d:V}{u r:Value}{o:Option V}{A:Around}{E:Value→Shared→Prop}
end
section
variable {X:Cx}{o e f:Expr}{apos cpos:Pos}{td ty tx:TE}
end
section
variable {X:Cx}{pins:List (Addr×Obj)}{σ:St}{H:Hp}{s:Shared}{a:Addr}{kvs:List (Key×V)}{A:Around}{E:Value→Shared→Prop}
end
section
variable {X:Cx}{pins:List (Addr×Obj)}{σ:St}{H:Hp}{s:Shared}{a:Addr}{y:V}{u:Value}{A:Around}{E:Value→Shared→Prop}
end
end L2
namespace L2
open PySem PySem.Spec PyProof.Rows
section
variable {X:Cx}
end
section
variable {κ:Type} [DecidableEq κ]
end
end L2
namespace L2
open PySem PySem.Spec PyProof.Rows
section
variable {X:Cx}
theorem vals_of:∀{xs:List V}{us:List Value},xs.length=us.length→(∀(i:Nat) x u,xs[i]?=some x→us[i]?=some u→RelV x u)→Vals xs us
 | [],[],_,_=>.nil
 | [],_::_,h,_=>by simp at h
 | _::_,[],h,_=>by simp at h
 | x::xs,u::us,h,f=>.cons (f 0 x u rfl rfl) (vals_of (by simpa using h) fun i y v hy hv=>f (i+1) y v (by simpa using hy) (by simpa using hv))
def tListRange (ta:TA):TE:=fun σ H Q=>ta σ H fun vs H1=>∃n:Nat,vs=[.int (n:Int)]∧n≤1000000∧∀p,H1 p=none→Q (.ref p) (upd H1 p (.lst ((List.range n).map fun(j:Nat)=>V.int (j:Int))))
theorem pe_listRange {a:Expr}{ta:TA}{p pos p2 pos2:Pos}(hc:X.calm=true)(hg:Gl X "list")(hm:X.mg "list"=none)(hg2:Gl X "range")(hm2:X.mg "range"=none)(ha:PA X [a] ta)(hs:starEach [a] X.env=[(false,eval a X.env)]:=by rfl)
  (hs2:starEach [.Call (.Name "range" p2) [a] [] pos2] X.env=[(false,eval (.Call (.Name "range" p2) [a] [] pos2) X.env)]:=by rfl):PE X (.Call (.Name "list" p) [.Call (.Name "range" p2) [a] [] pos2] [] pos) (tListRange ta):=by
 intro pins s σ H Q I h
 refine Call_ (ld_blt I hg hm L3.bt_list (PyProof.Rows.callWith_type1 ?_ hs2 rfl))
 rw[hs2]
 show wpAny _ _ (spliced ((false,eval (.Call (.Name "range" p2) [a] [] pos2) X.env)::backTo pos [])) _ _ s
 refine Calls.spliced_cons ?_
 refine Call_ (ld_blt I hg2 hm2 boot_range (PyProof.Rows.callWith_type1 (thn (ha pos2 pins s σ H _ I h) fun us s1 ⟨vs,H1,I1,r1,q1⟩=>?_) hs rfl))
 obtain⟨n,e,hn,q⟩:=q1
 subst e
 obtain⟨u,rfl,t,rfl⟩:=vals1 r1
 refine call_range_1 ?_
 refine Calls.spliced_nil ?_
 have hsz:Builtin.Range.rangeSize 0 (n:Int) 1=(n:Nat):=by rw[rangeSize_one];split<;>omega
 refine call_list_range (n:=n) (I.ok.hd hc) (IsRange.new ..) (small_one (by omega) (by omega) (by omega) (by omega)) hsz (by omega) fun h' tk acc c' kp e hacc=>?_
 have I2:Inv X pins σ H1 { s1 with heap:=s1.heap.push { cls:=.type "range",data:=.fields #[.int 0 (s1.toks),.int (n:Int) t,.int 1 (s1.toks+1)] },toks:=s1.toks+1+1 }:=I1.kept fun b o e=>Heap.get?_push_of_some _ e
 refine⟨.ref _,_,I2.laid (t':=tk) (o:=.lst ((List.range n).map fun(j:Nat)=>V.int (j:Int))) kp (Nat.le_refl _) ?_,rfl,q _ (I2.hok.fresh (Nat.le_refl _))⟩
 refine⟨by rw[List.length_map,List.length_range];exact Nat.le_trans hn (by decide),acc.toList,c',?_,by rw[Array.toArray_toList];exact e⟩
 refine vals_of (by rw[List.length_map,List.length_range,Array.length_toList,hacc.1]) fun i x u hx hu=>?_
 rw[Array.getElem?_toList]at hu
 obtain⟨t2,rfl⟩:=hacc.2 i u hu
 rw[List.getElem?_map]at hx
 have hi:i<n:=by
  rw[←hacc.1]
  exact(Array.getElem?_eq_some_iff.mp hu).1
 rw[List.getElem?_eq_getElem (by rw[List.length_range];exact hi),List.getElem_range]at hx
 cases hx
 exact⟨t2,by rw[Int.zero_add,Int.mul_one]⟩
end
end L2
namespace L2
open PySem
theorem se_Constant {es:List Expr}{env:Env}{value:Const}{k:Nat}{pos:Pos}:starEach (.Constant value k pos::es) env=(false,eval (.Constant value k pos) env)::starEach es env:=rfl
theorem se_Tuple {es:List Expr}{env:Env}{elts:List Expr}{k:Nat}{pos:Pos}:starEach (.Tuple elts k pos::es) env=(false,eval (.Tuple elts k pos) env)::starEach es env:=rfl
theorem se_List {es:List Expr}{env:Env}{elts:List Expr}{pos:Pos}:starEach (.List elts pos::es) env=(false,eval (.List elts pos) env)::starEach es env:=rfl
theorem se_Name {es:List Expr}{env:Env}{id:Str}{pos:Pos}:starEach (.Name id pos::es) env=(false,eval (.Name id pos) env)::starEach es env:=rfl
theorem se_BinOp {es:List Expr}{env:Env}{l:Expr}{op:Operator}{r:Expr}{pos:Pos}:starEach (.BinOp l op r pos::es) env=(false,eval (.BinOp l op r pos) env)::starEach es env:=rfl
end L2
namespace L3
open PySem
open Sem (wp)
abbrev IsZipF (h:Heap)(z TI TO:Addr)(f0:Value)(f:Bool):Prop :=
 h.get? z=some { cls:=.type "zip",dict:=none,data:=.fields #[f0,.bool f,.bool false,.ref TI,.ref TO],slots:=#[] }
structure ZipOut (z TI TO i1 i2 t1 t2:Addr)(xs ys:Array Value)(i:Nat)(a:Addr)(f:Bool)(h:Heap):Prop where
 hz:IsZipF h z TI TO (rawInt a) f
 hTI:IsPair h TI (.ref i1) (.ref i2)
 one:AtT i1 t1 xs i h
 two:AtT i2 t2 ys i h
 al:∃o,h.get? a=some o
 az:a≠z
 a1:a≠i1
 a2:a≠i2
 lt:TO<h.objs.size
section
variable {prog:Program}{w:World}{A:Around}{E:Value→Shared→Prop}{s:Shared}
end
end L3
namespace L3
open PySem
section
variable {prog:Program}{w:World}{A:Around}{E:Value→Shared→Prop}{s:Shared}
end
end L3
namespace L2
open PySem PySem.Spec PyProof.Rows
end L2
namespace L2
open PySem PySem.Spec PyProof.Rows
end L2
namespace L2
open PySem PySem.Spec PyProof.Rows
section
variable {X:Cx}{tg:Expr}
end
end L2
namespace L2
open PySem PySem.Spec PyProof.Rows
abbrev tJoin (t:TS):TS:=fun D σ H=>∃J:St→Hp→Prop,(∀σ' H',J σ' H'→D.nx σ' H')∧t { D with nx:=J } σ H
theorem ps_joinN {X:Cx}{st:Stmt}{t:TS}(h:PS X st t):PS X st (tJoin t):=ps_join h
end L2
namespace L2
open PySem PySem.Spec PyProof.Rows
section
variable {X:Cx}
end
end L2
namespace L2
open PySem PySem.Spec PyProof.Rows
end L2
namespace L2
open PySem PySem.Spec PyProof.Rows
section
variable {X:Cx}
end
end L2
namespace L2
open PySem PySem.Spec PyProof.Rows
end L2
namespace L2
open PySem PySem.Spec PyProof.Rows
theorem comp_of {J:It}{n:Nat}{g:TG}{tt:TT}{te:TE}{σ:St}{H:Hp}{Q:VK}(Pv:Nat→List V→St→Hp→Prop)(h0:Pv 0 [] σ H)(hl:∀i acc σ H,i≤n→Pv i acc σ H→acc.length≤1000000)
  (hgo:∀i acc σ H,i<n→Pv i acc σ H→J.go i H)(hstop:∀acc σ H,Pv n acc σ H→J.stop n H)
  (hs:∀i acc σ H,i<n→Pv i acc σ H→∀x H2,J.yld i H x H2→g x σ H2 fun σ2 H3=>tt σ2 H3 fun b H4=>if b=true then te σ2 H4 fun y H5=>Pv (i+1) (acc++[y]) σ2 H5 else Pv (i+1) acc σ2 H4)
  (hd:∀acc σ H D,Pv n acc σ H→H D=none→Q (.ref D) (upd H D (.lst acc))):compW J g tt te σ H Q:=by
 refine⟨fun i m acc σ H=>m=n-i∧i≤n∧Pv i acc σ H,⟨n,by simp,Nat.zero_le _,h0⟩,?_⟩
 rintro i m acc σ H ⟨rfl,hi,p⟩
 have hz:=hl i acc σ H hi p
 by_cases hlt:i<n
 ·exact .inr ⟨hgo i acc σ H hlt p,smallL hz,Pv (i+1),fun acc' σ' H' p'=>⟨n-(i+1),by omega,rfl,hlt,p'⟩,hs i acc σ H hlt p⟩
 ·have e:i=n:=by omega
  subst e
  exact .inl ⟨hstop acc σ H p,small hz,fun D fD=>hd acc σ H D p fD⟩
theorem comp_range {lo:Int}{n:Nat}{g:TG}{tt:TT}{te:TE}{σ:St}{H:Hp}{Q:VK}(Pv:Nat→List V→St→Hp→Prop)(h0:Pv 0 [] σ H)(hl:∀i acc σ H,i≤n→Pv i acc σ H→acc.length≤1000000)
  (hs:∀i acc σ H,i<n→Pv i acc σ H→g (.int (lo+i)) σ H fun σ2 H3=>tt σ2 H3 fun b H4=>if b=true then te σ2 H4 fun y H5=>Pv (i+1) (acc++[y]) σ2 H5 else Pv (i+1) acc σ2 H4)
  (hd:∀acc σ H D,Pv n acc σ H→H D=none→Q (.ref D) (upd H D (.lst acc))):compW (Itr lo n) g tt te σ H Q :=
 comp_of Pv h0 hl (fun i acc σ H h _=>h) (fun acc σ H _=>Nat.le_refl _) (fun i acc σ H h p x H2 y=>by
  obtain⟨e,y⟩:=y
  subst e y
  exact hs i acc σ _ h p) hd
theorem comp_tup {K:PySem.W.Frag}{a:Addr}{xs:List V}{g:TG}{tt:TT}{te:TE}{σ:St}{H:Hp}{Q:VK}(Pv:Nat→List V→St→Hp→Prop)(h0:Pv 0 [] σ H)(hl:∀i acc σ H,i≤xs.length→Pv i acc σ H→acc.length≤1000000)
  (ha:∀i acc σ H,i≤xs.length→Pv i acc σ H→SqT K H a xs)
  (hs:∀i x acc σ H,xs[i]?=some x→Pv i acc σ H→g x σ H fun σ2 H3=>tt σ2 H3 fun b H4=>if b=true then te σ2 H4 fun y H5=>Pv (i+1) (acc++[y]) σ2 H5 else Pv (i+1) acc σ2 H4)
  (hd:∀acc σ H D,Pv xs.length acc σ H→H D=none→Q (.ref D) (upd H D (.lst acc))):compW (Itt K a) g tt te σ H Q :=
 comp_of Pv h0 hl (fun i acc σ H h p=>⟨xs,xs[i],ha i acc σ H (Nat.le_of_lt h) p,List.getElem?_eq_getElem h⟩) (fun acc σ H p=>⟨xs,ha _ acc σ H (Nat.le_refl _) p,Nat.le_refl _⟩) (fun i acc σ H h p x H2 y=>by
  obtain⟨e,y⟩:=y
  subst e
  exact hs i x acc σ _ (y xs (ha i acc σ _ (Nat.le_of_lt h) p)) p) hd
theorem comp_list {K:PySem.W.Frag}{a:Addr}{xs:List V}{g:TG}{tt:TT}{te:TE}{σ:St}{H:Hp}{Q:VK}(Pv:Nat→List V→St→Hp→Prop)(h0:Pv 0 [] σ H)(hl:∀i acc σ H,i≤xs.length→Pv i acc σ H→acc.length≤1000000)
  (ha:∀i acc σ H,i≤xs.length→Pv i acc σ H→SqL K H a xs)
  (hs:∀i x acc σ H,xs[i]?=some x→Pv i acc σ H→g x σ H fun σ2 H3=>tt σ2 H3 fun b H4=>if b=true then te σ2 H4 fun y H5=>Pv (i+1) (acc++[y]) σ2 H5 else Pv (i+1) acc σ2 H4)
  (hd:∀acc σ H D,Pv xs.length acc σ H→H D=none→Q (.ref D) (upd H D (.lst acc))):compW (Itl K a) g tt te σ H Q :=
 comp_of Pv h0 hl (fun i acc σ H h p=>⟨xs,xs[i],ha i acc σ H (Nat.le_of_lt h) p,List.getElem?_eq_getElem h⟩) (fun acc σ H p=>⟨xs,ha _ acc σ H (Nat.le_refl _) p,Nat.le_refl _⟩) (fun i acc σ H h p x H2 y=>by
  obtain⟨e,y⟩:=y
  subst e
  exact hs i x acc σ _ (y xs (ha i acc σ _ (Nat.le_of_lt h) p)) p) hd
theorem comp_enum {K:PySem.W.Frag}{a:Addr}{xs:List V}{g:TG}{tt:TT}{te:TE}{σ:St}{H:Hp}{Q:VK}(Pv:Nat→List V→St→Hp→Prop)(h0:Pv 0 [] σ H)(hl:∀i acc σ H,i≤xs.length→Pv i acc σ H→acc.length≤1000000)
  (ha:∀i acc σ H,i≤xs.length→Pv i acc σ H→SqT K H a xs)
  (hs:∀i x acc σ H p,xs[i]?=some x→Pv i acc σ H→H p=none→g (.ref p) σ (upd H p (.tup [.int i,x])) fun σ2 H3=>tt σ2 H3 fun b H4=>if b=true then te σ2 H4 fun y H5=>Pv (i+1) (acc++[y]) σ2 H5 else Pv (i+1) acc σ2 H4)
  (hd:∀acc σ H D,Pv xs.length acc σ H→H D=none→Q (.ref D) (upd H D (.lst acc))):compW (Ite K a) g tt te σ H Q :=
 comp_of Pv h0 hl (fun i acc σ H h p=>⟨xs,xs[i],ha i acc σ H (Nat.le_of_lt h) p,List.getElem?_eq_getElem h⟩) (fun acc σ H p=>⟨xs,ha _ acc σ H (Nat.le_refl _) p,Nat.le_refl _⟩) (fun i acc σ H h p x H2 y=>by
  obtain⟨q,z,fq,rfl,rfl,y⟩:=y
  exact hs i z acc σ _ q (y xs (ha i acc σ _ (Nat.le_of_lt h) p)) p fq) hd
theorem for_of {J:It}{n:Nat}{g:TG}{tb:TS}{D:Ends}{σ:St}{H:Hp}(Pv:Nat→St→Hp→Prop)(h0:Pv 0 σ H)(hgo:∀i σ H,i<n→Pv i σ H→J.go i H)(hstop:∀σ H,Pv n σ H→J.stop n H)
  (hs:∀i σ H,i<n→Pv i σ H→∀x H2,J.yld i H x H2→g x σ H2 fun σ2 H3=>tb { D with nx:=Pv (i+1),ct:=Pv (i+1),bk:=D.nx } σ2 H3)(hd:∀σ H,Pv n σ H→D.nx σ H) :
  ∃W:Nat→Nat→St→Hp→Prop,(∃m,W 0 m σ H)∧∀i m σ H,W i m σ H →
   (J.stop i H∧D.nx σ H)∨(J.go i H∧∃N:St→Hp→Prop,(∀σ' H',N σ' H'→∃m',m'<m∧W (i+1) m' σ' H')∧∀x H',J.yld i H x H'→g x σ H' fun σ2 H2=>tb { D with nx:=N,ct:=N,bk:=D.nx } σ2 H2):=by
 refine⟨fun i m σ H=>m=n-i∧i≤n∧Pv i σ H,⟨n,by simp,Nat.zero_le _,h0⟩,?_⟩
 rintro i m σ H ⟨rfl,hi,p⟩
 by_cases hlt:i<n
 ·exact .inr ⟨hgo i σ H hlt p,Pv (i+1),fun σ' H' p'=>⟨n-(i+1),by omega,rfl,hlt,p'⟩,hs i σ H hlt p⟩
 ·have e:i=n:=by omega
  subst e
  exact .inl ⟨hstop σ H p,hd σ H p⟩
end L2
namespace L2
open PySem PySem.Spec PyProof.Rows
def Fit (n:Nat):Prop:=∃k,k≤8000∧n<2 ^ k
theorem Fit.of {n:Nat}(h:n<18446744073709551616):Fit n:=⟨64,by decide,h⟩
theorem Fit.bits {i:Int}(h:Fit i.natAbs):Builtin.Int.intBits i≤2 ^ 20:=by
 obtain⟨k,h1,h2⟩:=h
 refine Nat.le_trans (PyProof.Rows.intBits_le h2) (Nat.le_trans h1 ?_)
 decide
section
variable {X:Cx}
end
end L2
namespace PySem
open PySem.W PyProof.Rows
section
variable {prog:Program}{w:World}{A:Around}{E:Value→Shared→Prop}{s:Shared}{T:String}{r d:Addr}{n:Nat}{P:Nat→Value→Prop}{OK:Heap→Prop}
end
end PySem
namespace L2
open PySem PySem.Spec PyProof.Rows PySem.W
section
variable {X:Cx}
end
end L2
namespace L2
open PySem PySem.Spec PyProof.Rows
section
variable {X:Cx}
end
end L2
namespace L2
open PySem PySem.Spec PyProof.Rows
end L2
namespace L2
open PySem PySem.Spec PyProof.Rows
section
variable {X:Cx}
end
end L2
namespace L2
open PySem PySem.Spec PyProof.Rows
end L2
set_option maxRecDepth 100000
namespace L2
open PySem PySem.Spec PyProof.Rows
noncomputable abbrev Cx.tr (X:Cx)(ps:List (Addr×Obj))(Kx:Value→Shared→Prop):Cx:={ X with pn:=X.pn++ps,xe:=fun e s'=>wpAny (model X.prog X.w) X.A (noteFrame e X.env) (fun _ s''=>Kx e s'') X.xe s' }
section
variable {X:Cx}{ps pins:List (Addr×Obj)}{Kx:Value→Shared→Prop}{σ:St}{H:Hp}{s:Shared}{Ex:St→XK}
theorem Inv.tr (I:Inv X ps σ H s)(Kx:Value→Shared→Prop):Inv (X.tr ps Kx) [] σ H s :=
 ⟨⟨I.ok.mod,I.ok.kind,I.ok.glob,I.ok.blt,I.ok.above,I.ok.inj,I.ok.has,I.ok.cab,I.ok.hd,I.ok.frames,I.ok.stk,I.ok.exf,I.ok.bs,I.ok.bsz,I.ok.noex,I.ok.exfs,I.ok.funs,I.ok.frf⟩,I.os,I.bare,I.base,I.loc,I.cell,I.free,I.freeC,fun p hp=>I.pin p (by
  have:p∈(X.pn++ps)++[]:=hp
  rwa[List.append_nil]at this),I.hok,I.len⟩
theorem Inv.untr (I:Inv (X.tr ps Kx) pins σ H s):Inv X ps σ H s :=
 ⟨⟨I.ok.mod,I.ok.kind,I.ok.glob,I.ok.blt,I.ok.above,I.ok.inj,I.ok.has,I.ok.cab,I.ok.hd,I.ok.frames,I.ok.stk,I.ok.exf,I.ok.bs,I.ok.bsz,I.ok.noex,I.ok.exfs,I.ok.funs,I.ok.frf⟩,I.os,I.bare,I.base,I.loc,I.cell,I.free,I.freeC,fun p hp=>I.pin p (List.mem_append_left _ hp),I.hok,I.len⟩
theorem SP.untr {D:Ends}{f:Flow}{s':Shared}(h:SP (X.tr ps Kx) pins D f s'):SP X ps D f s':=by
 cases f with
 | next=>obtain⟨σ',H',I,q⟩:=h;exact⟨σ',H',I.untr,q⟩
 | brk=>obtain⟨σ',H',I,q⟩:=h;exact⟨σ',H',I.untr,q⟩
 | cont=>obtain⟨σ',H',I,q⟩:=h;exact⟨σ',H',I.untr,q⟩
 | ret u=>obtain⟨v,σ',H',I,r,q⟩:=h;exact⟨v,σ',H',I.untr,r,q⟩
def Pas (X:Cx)(ps:List (Addr×Obj))(Kx:Value→Shared→Prop)(Ex:St→XK):Prop:=∀(σ':St)(H1:Hp)(s1:Shared)(e:Value)(s':Shared),Inv X ps σ' H1 s1→CXR X.prog X.w X.stack H1 s1 (Ex σ') e s'→(X.tr ps Kx).xe e s'
theorem run_fnT {k:Nat}{f:Addr}{fd:FuncData}{qs:List Str}{sp:Sp}{Q:VK}{us:List Value}{vs:List V}(F:FnOk X.prog X.w X.K X.mg X.base (CXR X.prog X.w) k f fd qs sp)(hr:Room k X.A)(hb:Binds X.K fd qs [])(hp:Pas X ps Kx Ex)
  (I:Inv (X.tr ps Kx) pins σ H s)(r:Vals vs us)(h:sp vs H Q (Ex σ)):wpAny (model X.prog X.w) X.A (call (.ref f) us) (EP (X.tr ps Kx) pins σ Q) (X.tr ps Kx).xe s :=
 wpAny_mono (run_fnx (X:=X.tr ps Kx) F hr hb I r h) (fun _ _ z=>z) fun e s' ⟨H1,s1,I1,c⟩=>hp σ H1 s1 e s' I1.untr c
end
section
variable {X:Cx}{ps:List (Addr×Obj)}{Kx:Value→Shared→Prop}{Ex:St→XK}{k k':Nat}{f C:Addr}{fd:FuncData}{qs:List Str}{sp:Sp}{m x:Str}{p pos apos:Pos}{o e:Expr}{es:List Expr}{ta:TE}{t:TA}
theorem pe_fnT (hp:Pas X ps Kx Ex)(F:FnX X.prog X.w X.K X.mg X.base x f fd qs k sp)(hr:Room k' X.A)(ha:PA (X.tr ps Kx) (e::es) t)(hk:k≤k':=by first|decide|exact Nat.le_refl _)(hg:Gl X x:=by rfl)(hdb:(x==("__debug__" : Str))=false:=by decide)
  (he:starEach (e::es) X.env=(false,eval e X.env)::starEach es X.env:=by rfl)(hpl:(backTo pos (starEach es X.env)).any (·.1)=false:=by rfl) :
  PE (X.tr ps Kx) (.Call (.Name x p) (e::es) [] pos) (fun σ H Q=>t σ H fun vs H1=>sp vs H1 Q (Ex σ)):=by
 intro pins s σ H Q I h
 refine wpAny_Call_Name_kw (ld_glob I hg F.mg ?_ hdb)
 refine PySem.W.callWith_K (h₀:=X.base) I.ok.mod.kin F.kp (thn (ha pos pins s σ H _ I h) fun us s1 ⟨vs,H1,I1,r,q⟩=>⟨I1.kIn,?_⟩) he hpl
 exact run_fnT F.ok (hr.mono hk) F.bd hp I1 r q
end
end L2
namespace L3
open PySem
open Sem (wp)
open AutoSeq1 (wpAny_loadPart')
def AtQ (c:Bool)(it t:Addr)(xs:Array Value)(i:Nat)(h:Heap):Prop:=(c=true∧AtT it t xs i h)∨(c=false∧h.IsListIter it t i∧h.IsList t xs)
theorem AtQ.keeps {c:Bool}{it t:Addr}{xs:Array Value}{i:Nat}{h h':Heap}(a:AtQ c it t xs i h)(k1:∀o,h.get? it=some o→h'.get? it=some o)(k2:∀o,h.get? t=some o→h'.get? t=some o):AtQ c it t xs i h':=by
 rcases a with ⟨e,a⟩|⟨e,⟨o,ho,r⟩,o',ho',r'⟩
 ·exact .inl ⟨e,a.keeps k1 k2⟩
 ·exact .inr ⟨e,⟨o,k1 o ho,r⟩,o',k2 o' ho',r'⟩
def ItQ (c:Bool)(it t:Addr)(i:Nat)(h:Heap):Prop:=(c=true∧h.IsTupleIter it t i)∨(c=false∧h.IsListIter it t i)
theorem ItQ.at {c:Bool}{it t:Addr}{i:Nat}{h h':Heap}(a:ItQ c it t i h)(k:∀o,h.get? it=some o→h'.get? it=some o):ItQ c it t i h':=by
 rcases a with ⟨e,o,ho,r⟩|⟨e,o,ho,r⟩
 ·exact .inl ⟨e,o,k o ho,r⟩
 ·exact .inr ⟨e,o,k o ho,r⟩
def SeqQ (c:Bool)(t:Addr)(xs:Array Value)(h:Heap):Prop:=(c=true∧h.IsTuple t xs)∨(c=false∧h.IsList t xs)
theorem AtQ.of {c:Bool}{it t:Addr}{xs:Array Value}{i:Nat}{h:Heap}(a:ItQ c it t i h)(b:SeqQ c t xs h):AtQ c it t xs i h:=by
 rcases a with ⟨e,a⟩|⟨e,a⟩<;>rcases b with ⟨e',b⟩|⟨e',b⟩
 ·exact .inl ⟨e,a,b⟩
 ·rw[e]at e';cases e'
 ·rw[e]at e';cases e'
 ·exact .inr ⟨e,a,b⟩
theorem SeqQ.keeps {c:Bool}{t:Addr}{xs:Array Value}{h h':Heap}(b:SeqQ c t xs h)(k:∀o,h.get? t=some o→h'.get? t=some o):SeqQ c t xs h':=by
 rcases b with ⟨e,o,ho,r⟩|⟨e,o,ho,r⟩
 ·exact .inl ⟨e,o,k o ho,r⟩
 ·exact .inr ⟨e,o,k o ho,r⟩
section
variable {prog:Program}{w:World}{A:Around}{E:Value→Shared→Prop}{s:Shared}
structure ZipQ (c1 c2:Bool)(z TI TO i1 i2 t1 t2:Addr)(xs ys:Array Value)(i:Nat)(f0:Value)(h:Heap):Prop where
 z:IsZip h z TI TO f0
 TI:IsPair h TI (.ref i1) (.ref i2)
 TO:∃a b,IsPair h TO a b
 one:AtQ c1 i1 t1 xs i h
 two:AtQ c2 i2 t2 ys i h
theorem ZipQ.keeps {c1 c2:Bool}{z TI TO i1 i2 t1 t2:Addr}{xs ys:Array Value}{i:Nat}{f0:Value}{h h':Heap}(Z:ZipQ c1 c2 z TI TO i1 i2 t1 t2 xs ys i f0 h)(k:∀b∈[z,TI,TO,i1,i2],∀o,h.get? b=some o→h'.get? b=some o)
  (k1:∀o,h.get? t1=some o→h'.get? t1=some o)(k2:∀o,h.get? t2=some o→h'.get? t2=some o):ZipQ c1 c2 z TI TO i1 i2 t1 t2 xs ys i f0 h' :=
 ⟨k z (by simp) _ Z.z,k TI (by simp) _ Z.TI,let ⟨a,b,q⟩:=Z.TO;⟨a,b,k TO (by simp) _ q⟩,Z.one.keeps (k i1 (by simp)) k1,Z.two.keeps (k i2 (by simp)) k2⟩
end
section
variable {prog:Program}{w:World}{A:Around}{E:Value→Shared→Prop}{s:Shared}
end
end L3
namespace L2
open PySem PySem.Spec PyProof.Rows
section
variable {X:Cx}
end
end L2
namespace PySem
open PySem.W PyProof.Rows
section
variable {prog:Program}{w:World}{A:Around}{E:Value→Shared→Prop}{s:Shared}{r:Addr}{a b c:Int}{t u v:Tok}{n:Nat}
theorem collect_range {Q:List Value→Shared→Prop}(hh:A.handled=none)(hr:IsRange s.heap r a b c t u v)(hsmall:Builtin.Range.small a b c=true)(hn:Builtin.Range.rangeSize a b c=n)(hlen:n≤2 ^ 24)
  (hQ:∀(h':Heap)(tk:Nat)(acc:Array Value),(∀b o,s.heap.get? b=some o→h'.get? b=some o)→ItemsOf (fun i v=>∃t,v=.int (a+i*c) t) acc n→Q acc.toList { s with heap:=h',toks:=tk }):wpAny (model prog w) A (collect (.ref r)) Q E s:=by
 unfold collect
 refine wpAny_bind (wpAny_runValue (codeAny_builtin F.entry_proto_collect ?_))
 rw[Around.under_plainId F.plain_proto_collect _]
 show wpAny _ A.in1 (newList [] >>= fun l=>again (.builtin "list.__iadd__" ⟨[l,.ref r],[]⟩)) _ _ s
 refine wpAny_bind (wpAny_newObj_type ?_)
 refine wpAny_pure ⟨plainId_quiet F.plain_list_iadd _,codeAny_builtin F.entry_list_iadd ?_⟩
 rw[Around.under_plainId F.plain_list_iadd _]
 show wpAny _ A.in1 (Builtin.List.listExtendWith (.ref s.heap.objs.size) (.ref r) (.ref s.heap.objs.size)) _ _ _
 have hS0:(s.heap.push { cls:=.type "list",data:=.seq ([]:List Value).toArray }).get? s.heap.objs.size=some { cls:=.type "list",data:=.seq #[] 0 }:=Heap.get?_push_size _ rfl
 refine wpAny_extend_range (R:=fun r s'=>match r with
  |.ok (.ret v)=>wpAny (model prog w) A (match v with
   |.ref a=>do
    let o ←load a
    match o.data with
     |.seq xs _=>pure xs.toList
     | _=>unsupported "internal:collect"
   | _=>unsupported "internal:collect") Q E s'
  |.ok _=>False
  |.error e=>E e s') (s:={ s with heap:=s.heap.push { cls:=.type "list",data:=.seq ([]:List Value).toArray } }) hh (Heap.get?_push_of_some _ hr) hsmall hn hlen _ _ 0 hS0 (fun h' tk acc c hk hS hacc=>?_)
 show wpAny _ A (load s.heap.objs.size >>= _) _ _ _
 refine wpAny_bind (wpAny_load hS ?_)
 exact wpAny_pure (hQ h' tk acc (fun b o e=>hk b o (Nat.ne_of_lt (Heap.lt_size e)) (Heap.get?_push_of_some _ e)) hacc)
theorem range_not_tuple:isSubtype (.type "range") (.type "tuple")=pure false:=by rw[isSubtype_type];kernel_rfl
theorem code_tuple_range {Q₁:Value→Shared→Prop}(hh:A.in1.handled=none)(hr:IsRange s.heap r a b c t u v)(hsmall:Builtin.Range.small a b c=true)(hn:Builtin.Range.rangeSize a b c=n)(hlen:n≤2 ^ 24)
  (h:∀(h':Heap)(tk:Nat)(acc:Array Value),(∀b o,s.heap.get? b=some o→h'.get? b=some o)→ItemsOf (fun i v=>∃t,v=.int (a+i*c) t) acc n→Q₁ (.ref h'.objs.size) { s with heap:=h'.push { cls:=.type "tuple",data:=.seq acc },toks:=tk }) :
  codeAny (model prog w) A (.call (.builtin "tuple.__new__") ⟨[.type "tuple",.ref r],[]⟩) (wants Q₁ E) s:=by
 refine codeAny_of_tree ?_
 show wpAny _ A.in1 (do checkBuiltinCall "tuple.__new__" ⟨[.type "tuple",.ref r],[]⟩;again (.builtin "tuple.__new__" ⟨[.type "tuple",.ref r],[]⟩)) _ _ s
 refine wpAny_bind (wpAny_of_eq (F.newCall_tuple_1 _) (wpAny_pure ⟨plainId_quiet F.plain_tuple_new _,codeAny_builtin F.entry_tuple_new ?_⟩))
 rw[Around.under_plainId F.plain_tuple_new _]
 have hsub:=sub_tuple_self
 have hinit:=init_tuple_lookup
 have hmh:=madeHere_tuple
 have hTI:s.TypeIs (.ref r) "range":=⟨_,hr,rfl⟩
 have hnt:=range_not_tuple
 wp_walk using wpAny_typeOf hTI,collect_range hh hr hsmall hn hlen
 intro h' tk acc hm hacc
 show wpAny _ _ (Builtin.Tuple.tupleExact acc.toList.toArray >>= fun v=>ret v) _ _ _
 unfold Builtin.Tuple.tupleExact
 refine wpAny_bind (wpAny_newObj_type ?_ (by show acc.toList.toArray.size≤sizeLine;simp only[Array.toArray_toList];rw[hacc.1,sizeLine_eq];omega))
 refine wpAny_pure ?_
 have e:acc.toList.toArray=acc:=by simp
 rw[e]
 exact h h' tk acc hm hacc
theorem call_tuple_range {Q:Value→Shared→Prop}(hh:A.in1.in1.handled=none)(hr:IsRange s.heap r a b c t u v)(hsmall:Builtin.Range.small a b c=true)(hn:Builtin.Range.rangeSize a b c=n)(hlen:n≤2 ^ 24)
  (hQ:∀(h':Heap)(tk:Nat)(acc:Array Value),(∀b o,s.heap.get? b=some o→h'.get? b=some o)→ItemsOf (fun i v=>∃t,v=.int (a+i*c) t) acc n→Q (.ref h'.objs.size) { s with heap:=h'.push { cls:=.type "tuple",data:=.seq acc },toks:=tk }) :
  wpAny (model prog w) A (call (.type "tuple") [.ref r]) Q E s:=by
 refine callType_codes (Q₁:=fun obj s₁=>s₁.TypeIs obj "tuple"∧Q obj s₁) F.called_tuple (F.typeCall_tuple_1 _) F.entry_object_init
  (code_tuple_range hh hr hsmall hn hlen fun h' tk acc hm hacc=>⟨⟨_,Heap.get?_push_size _ rfl,rfl⟩,hQ h' tk acc hm hacc⟩) fun obj s₁ h₁=>?_
 exact⟨h₁.1,F.args_object_init_2 obj _,object_init_meets F.called_tuple.init.lookup F.called_tuple.made (by decide) prog w A.in1 _ s₁ ⟨h₁.1,rfl,h₁.2⟩⟩
end
end PySem
namespace PyProof.Rows
open PySem
section
variable {prog:Program}{w:World}{A:Around}{E:Value→Shared→Prop}{s:Shared}
end
end PyProof.Rows
namespace L2
open PySem PySem.Spec PyProof.Rows
section
variable {X:Cx}
noncomputable def downL (lo hi:Int):List V:=(List.range (lo-hi).toNat).map fun(j:Nat)=>V.int (lo-(j:Int))
def tTupDown (ta:TA):TE:=fun σ H Q=>ta σ H fun vs H1=>∃lo hi:Int,vs=[.int lo,.int hi,.int (-1)]∧(-1000≤lo∧lo≤1000000∧-1000≤hi∧hi≤1000000)∧∀p,H1 p=none→Q (.ref p) (upd H1 p (.tup (downL lo hi)))
def tLstDown (ta:TA):TE:=fun σ H Q=>ta σ H fun vs H1=>∃lo hi:Int,vs=[.int lo,.int hi,.int (-1)]∧(-1000≤lo∧lo≤1000000∧-1000≤hi∧hi≤1000000)∧∀p,H1 p=none→Q (.ref p) (upd H1 p (.lst (downL lo hi)))
theorem downL_len (lo hi:Int):(downL lo hi).length=(lo-hi).toNat:=by rw[downL,List.length_map,List.length_range]
theorem down_vals {lo hi:Int}{acc:Array Value}(hacc:ItemsOf (fun i v=>∃t,v=.int (lo+i*(-1)) t) acc (lo-hi).toNat):Vals (downL lo hi) acc.toList:=by
 refine vals_of (by rw[downL_len,Array.length_toList,hacc.1]) fun i x u hx hu=>?_
 rw[Array.getElem?_toList]at hu
 obtain⟨t2,rfl⟩:=hacc.2 i u hu
 have hi:i<(lo-hi).toNat:=by
  rw[←hacc.1]
  exact(Array.getElem?_eq_some_iff.mp hu).1
 rw[downL,List.getElem?_map,List.getElem?_eq_getElem (by rw[List.length_range];exact hi),List.getElem_range]at hx
 cases hx
 exact⟨t2,by congr 1;omega⟩
theorem pe_tupDown {a b c:Expr}{ta:TA}{p pos p2 pos2:Pos}(hc:X.calm=true)(hg:Gl X "tuple")(hm:X.mg "tuple"=none)(hg2:Gl X "range")(hm2:X.mg "range"=none)(ha:PA X [a,b,c] ta)(hs:starEach [a,b,c] X.env=[(false,eval a X.env),(false,eval b X.env),(false,eval c X.env)]:=by rfl)
  (hs1:starEach [b,c] X.env=[(false,eval b X.env),(false,eval c X.env)]:=by rfl)
  (hs2:starEach [.Call (.Name "range" p2) [a,b,c] [] pos2] X.env=[(false,eval (.Call (.Name "range" p2) [a,b,c] [] pos2) X.env)]:=by rfl):PE X (.Call (.Name "tuple" p) [.Call (.Name "range" p2) [a,b,c] [] pos2] [] pos) (tTupDown ta):=by
 intro pins s σ H Q I h
 refine Call_ (ld_blt I hg hm L3.bt_tuple (PyProof.Rows.callWith_type1 ?_ hs2 rfl))
 rw[hs2]
 show wpAny _ _ (spliced ((false,eval (.Call (.Name "range" p2) [a,b,c] [] pos2) X.env)::backTo pos [])) _ _ s
 refine Calls.spliced_cons ?_
 refine Call_ (ld_blt I hg2 hm2 boot_range (PyProof.Rows.callWith_type1 (thn (ha pos2 pins s σ H _ I h) fun us s1 ⟨vs,H1,I1,r1,q1⟩=>?_) (by rw[hs,hs1]) (by rw[hs1];rfl)))
 obtain⟨lo,hi,e,⟨b1,b2,b3,b4⟩,q⟩:=q1
 subst e
 cases r1 with
 | cons r rr =>
  cases rr with
  | cons r' rr =>
   cases rr with
   | cons r'' rr =>
    cases rr
    obtain⟨t,rfl⟩:=r
    obtain⟨t',rfl⟩:=r'
    obtain⟨t'',rfl⟩:=r''
    refine call_range_3 (by decide) ?_ (Or.inl (PyProof.noPylong_small (by omega)))
    refine Calls.spliced_nil ?_
    have hsz:Builtin.Range.rangeSize lo hi (-1)=((lo-hi).toNat:Nat):=by rw[rangeSize_down];omega
    refine call_tuple_range (n:=(lo-hi).toNat) (I.ok.hd hc) (IsRange.new ..) (small_down (by omega) (by omega) (by omega) (by omega)) hsz (by omega) fun h' tk acc kp hacc=>?_
    have I2:Inv X pins σ H1 { s1 with heap:=s1.heap.push { cls:=.type "range",data:=.fields #[.int lo t,.int hi t',.int (-1) t''] },toks:=s1.toks }:=I1.kept fun b o e=>Heap.get?_push_of_some _ e
    have I3:Inv X pins σ H1 { s1 with heap:=h',toks:=tk }:=I2.kept fun b o e=>kp b o e
    refine⟨.ref h'.objs.size,_,I3.laid (t':=tk) (o:=.tup (downL lo hi)) (fun b o e=>Heap.get?_push_of_some _ e) (Nat.le_refl _) ?_,rfl,q _ (I3.hok.fresh (Nat.le_refl _))⟩
    exact⟨by rw[downL_len];exact Nat.le_trans (show(lo-hi).toNat≤1001000 by omega) (by decide),acc.toList,down_vals hacc,⟨_,Heap.get?_push_size _ rfl,rfl,0,by simp⟩,_,Heap.get?_push_size _ rfl,rfl⟩
theorem pe_lstDown {a b c:Expr}{ta:TA}{p pos p2 pos2:Pos}(hc:X.calm=true)(hg:Gl X "list")(hm:X.mg "list"=none)(hg2:Gl X "range")(hm2:X.mg "range"=none)(ha:PA X [a,b,c] ta)(hs:starEach [a,b,c] X.env=[(false,eval a X.env),(false,eval b X.env),(false,eval c X.env)]:=by rfl)
  (hs1:starEach [b,c] X.env=[(false,eval b X.env),(false,eval c X.env)]:=by rfl)
  (hs2:starEach [.Call (.Name "range" p2) [a,b,c] [] pos2] X.env=[(false,eval (.Call (.Name "range" p2) [a,b,c] [] pos2) X.env)]:=by rfl):PE X (.Call (.Name "list" p) [.Call (.Name "range" p2) [a,b,c] [] pos2] [] pos) (tLstDown ta):=by
 intro pins s σ H Q I h
 refine Call_ (ld_blt I hg hm L3.bt_list (PyProof.Rows.callWith_type1 ?_ hs2 rfl))
 rw[hs2]
 show wpAny _ _ (spliced ((false,eval (.Call (.Name "range" p2) [a,b,c] [] pos2) X.env)::backTo pos [])) _ _ s
 refine Calls.spliced_cons ?_
 refine Call_ (ld_blt I hg2 hm2 boot_range (PyProof.Rows.callWith_type1 (thn (ha pos2 pins s σ H _ I h) fun us s1 ⟨vs,H1,I1,r1,q1⟩=>?_) (by rw[hs,hs1]) (by rw[hs1];rfl)))
 obtain⟨lo,hi,e,⟨b1,b2,b3,b4⟩,q⟩:=q1
 subst e
 cases r1 with
 | cons r rr =>
  cases rr with
  | cons r' rr =>
   cases rr with
   | cons r'' rr =>
    cases rr
    obtain⟨t,rfl⟩:=r
    obtain⟨t',rfl⟩:=r'
    obtain⟨t'',rfl⟩:=r''
    refine call_range_3 (by decide) ?_ (Or.inl (PyProof.noPylong_small (by omega)))
    refine Calls.spliced_nil ?_
    have hsz:Builtin.Range.rangeSize lo hi (-1)=((lo-hi).toNat:Nat):=by rw[rangeSize_down];omega
    refine call_list_range (n:=(lo-hi).toNat) (I.ok.hd hc) (IsRange.new ..) (small_down (by omega) (by omega) (by omega) (by omega)) hsz (by omega) fun h' tk acc c' kp e hacc=>?_
    have I2:Inv X pins σ H1 { s1 with heap:=s1.heap.push { cls:=.type "range",data:=.fields #[.int lo t,.int hi t',.int (-1) t''] },toks:=s1.toks }:=I1.kept fun b o e=>Heap.get?_push_of_some _ e
    refine⟨.ref _,_,I2.laid (t':=tk) (o:=.lst (downL lo hi)) kp (Nat.le_refl _) ?_,rfl,q _ (I2.hok.fresh (Nat.le_refl _))⟩
    exact⟨by rw[downL_len];exact Nat.le_trans (show(lo-hi).toNat≤1001000 by omega) (by decide),acc.toList,c',down_vals hacc,by rw[Array.toArray_toList];exact e⟩
end
end L2
namespace PySem
open Sem (wp)
end PySem
namespace PySem.F
end PySem.F
namespace L2
open PySem PySem.Spec PyProof.Rows
end L2
namespace L2
open PySem PySem.Spec PyProof.Rows
def asciiS (x:Str):Prop:=x.cps.all (·<128)=true
noncomputable def Its (x:Str):It:=⟨fun i _=>i<x.cps.size,fun i H v H'=>H'=H∧∃c,x.cps[i]?=some c∧v=.str ⟨#[c]⟩,fun i _=>x.cps.size≤i⟩
theorem turn_str {P:Program}{w:World}{K:PySem.W.Frag}{tg:Expr}(x:Str)(t:Tok)(it:Addr):Turn P w K tg (Its x) [it] it (fun i h=>h.IsStrIter it "str_ascii_iterator" x t i) where
 mem:=by simp
 obj:=fun i h st b hb=>by
  have e:b=it:=by simpa using hb
  subst e
  obtain⟨o,e,c,d⟩:=st
  exact⟨o,e,fun v z=>by rw[d]at z;cases z⟩
 keep:=fun i h h' st k=>let ⟨o,e,r⟩:=st;⟨o,k it (by simp) o e,r⟩
 item:=by
  intro X hP hw hK hc i pins s σ H E I hf st hg
  subst hP hw hK
  have hx:x.cps[i]?=some x.cps[i]:=Array.getElem?_eq_getElem hg
  obtain⟨f0,f1,f2,f3,f4,f5⟩:=hf it (by simp)
  refine wpAny_pyNext_ascii_item st hx fun h' st' sb=>?_
  have I1:Inv X pins σ H { s with heap:=h',toks:=s.toks+1 }:=I.turned (t':=s.toks+1) (fun b o hb e=>(sb.2 b hb).trans e) f0 f1 f3 f4 f5
  obtain⟨o,e,c,d⟩:=id st'
  exact⟨_,rfl,go_of (s:={ s with heap:=h',toks:=s.toks+1 }) e c d (by decide) ⟨.str ⟨#[x.cps[i]]⟩,H,I1,⟨_,rfl⟩,⟨rfl,_,hx,rfl⟩,st',fun b hb=>(hf b hb).1⟩⟩
 done:=by
  intro X hP hw hK hc i pins s σ H E I hf st hg
  subst hP hw hK
  obtain⟨f0,f1,f2,f3,f4,f5⟩:=hf it (by simp)
  exact wpAny_pyNext_ascii_end (I.ok.hd hc) st (Array.getElem?_eq_none hg) fun h' eb=>⟨rfl,I.turned (t':=s.toks) (fun b o hb e=>eb b o hb e) f0 f1 f3 f4 f5⟩
 self:=fun _ _ _ _ _ st h=>wpAny_pyIter_striter_ascii st h
section
variable {X:Cx}{tg:Expr}
def iStr (tl:TE):TI:=fun σ H R=>tl σ H fun v H1=>∃x,v=.str x∧asciiS x∧R (Its x) H1
theorem pi_str {l:Expr}{tl:TE}(hl:PE X l tl):PI X tg l (iStr tl):=by
 intro pins s σ H R I h
 refine thn (hl pins s σ H _ I h) fun v s1 ⟨y,H1,I1,r1,q1⟩=>?_
 obtain⟨x,e,ha,q⟩:=q1
 subst e
 obtain⟨t,rfl⟩:=r1
 refine wpAny_pyIter_ascii ha ?_
 refine⟨s1.heap.objs.size,[s1.heap.objs.size],_,_,H1,rfl,I1.kept (t':=s1.toks) fun b o e=>Heap.get?_push_of_some _ e,turn_str x t _,⟨_,Heap.get?_push_size _ rfl,rfl,rfl⟩,fun b hb=>?_,q⟩
 have e:b=s1.heap.objs.size:=by simpa using hb
 subst e
 exact I1.fpOk (Nat.le_refl _) (I1.hok.fresh (Nat.le_refl _))
theorem for_str {x:Str}{g:TG}{tb:TS}{D:Ends}{σ:St}{H:Hp}(Pv:Nat→St→Hp→Prop)(h0:Pv 0 σ H)
  (hs:∀i c σ H,x.cps[i]?=some c→Pv i σ H→g (.str ⟨#[c]⟩) σ H fun σ2 H3=>tb { D with nx:=Pv (i+1),ct:=Pv (i+1),bk:=D.nx } σ2 H3)(hd:∀σ H,Pv x.cps.size σ H→D.nx σ H) :
  ∃W:Nat→Nat→St→Hp→Prop,(∃m,W 0 m σ H)∧∀i m σ H,W i m σ H →
   ((Its x).stop i H∧D.nx σ H)∨((Its x).go i H∧∃N:St→Hp→Prop,(∀σ' H',N σ' H'→∃m',m'<m∧W (i+1) m' σ' H')∧∀v H',(Its x).yld i H v H'→g v σ H' fun σ2 H2=>tb { D with nx:=N,ct:=N,bk:=D.nx } σ2 H2) :=
 for_of (n:=x.cps.size) Pv h0 (fun i σ H h _=>h) (fun σ H _=>Nat.le_refl _) (fun i σ H h p v H2 y=>by
  obtain⟨rfl,c,hc,rfl⟩:=y
  exact hs i c σ _ hc p) hd
def rSIndex:V→List V→Hp→VK→Prop:=fun x vs H Q=>∃(z y:Str)(i:Nat)(rest:List Nat),x=.str z∧vs=[.str y]∧Builtin.Str.occurrences z y 0 z.length 1=i::rest∧Q (.int (i:Int)) H
theorem mt_sindex:MtR X "str.index" rSIndex:=by
 intro pins s σ H x vs v us Q I rx rv h
 obtain⟨z,y,i,rest,rfl,rfl,ho,q⟩:=h
 obtain⟨t,rfl⟩:=rx
 obtain⟨u,rfl,ru⟩:=rv.one
 obtain⟨t',rfl⟩:=ru
 exact SC.index ho ⟨.int (i:Int),H,I.tok _,⟨_,rfl⟩,q⟩
end
end L2
namespace L2
open PySem PySem.Spec PyProof.Rows
section
variable {X:Cx}
end
end L2
namespace PySem
open Sem (wp)
section
variable {prog:Program}{w:World}{A:Around}{E:Value→Shared→Prop}{s:Shared}
end
end PySem
namespace L2
open PySem PySem.Spec PyProof.Rows PySem.W
section
variable {X:Cx}{tg:Expr}
end
end L2
namespace PySem
open Sem (wp)
section
variable {prog:Program}{w:World}{K:Type} [DecidableEq K]{knd:KeyKind prog w K}{A:Around}{E:Value→Shared→Prop}{s:Shared}
end
end PySem
namespace L2
open PySem PySem.Spec PyProof.Rows PySem.W
section
variable {X:Cx}{o e f:Expr}{apos cpos:Pos}{td ty tx:TE}
end
end L2
namespace L2
open PySem PySem.Spec PyProof.Rows PySem.W
section
variable {X:Cx}
end
end L2
namespace L2
open PySem PySem.Spec PyProof.Rows PySem.W
section
variable {X:Cx}
def rEqTA (K:PySem.W.Frag)(neg:Bool):R2:=fun x y H Q=>∃(a b:Addr)(d c:Str)(rest:List V),x=.ref a∧y=.ref b∧SqT K H a (.str d::rest)∧SqT K H b [.str c]∧Q (.bl (if neg then !(decide (d=c)&&rest.isEmpty)else (decide (d=c)&&rest.isEmpty))) H
theorem op_eqTA (hu:X.A.units+64<cLine):OpR X (compareOp .Eq) (rEqTA X.K false):=by
 intro pins s σ H x y v u Q I rx ry h
 obtain⟨a,b,d,c,rest,rfl,rfl,ha,hb,q⟩:=h
 cases rx
 cases ry
 obtain⟨its,r1,p1,_⟩:=I.tuple ha
 obtain⟨its2,r2,p2,_⟩:=I.tuple hb
 obtain⟨u2,rfl,ru2⟩:=vals1 r2
 obtain⟨t2,rfl⟩:=ru2
 have hl:=r1.length
 obtain⟨u1,us,rfl,t1,rfl⟩:∃u1 us,its=u1::us∧∃t,u1=.str d t:=by
  cases r1 with
  | cons r t=>obtain⟨t',rfl⟩:=r;exact⟨_,_,rfl,t',rfl⟩
 obtain⟨⟨oc,od,odt,osl⟩,e,hc,n,hd⟩:=id p1
 replace hc:oc=.type "tuple":=hc
 replace hd:odt=.seq (Value.str d t1::us).toArray n:=hd
 subst hc hd
 obtain⟨⟨oc,od2,odt,osl2⟩,e2,hc,n2,hd⟩:=id p2
 replace hc:oc=.type "tuple":=hc
 replace hd:odt=.seq [Value.str c t2].toArray n2:=hd
 subst hc hd
 have hlu:us.length=rest.length:=by simpa using hl.symm
 have hv:((List.range (min (Value.str d t1::us).toArray.size [Value.str c t2].toArray.size)).all (fun _=>decide (d=c))&&(Value.str d t1::us).toArray.size==[Value.str c t2].toArray.size)=(decide (d=c)&&rest.isEmpty):=by
  rw[List.size_toArray,List.size_toArray,List.length_cons,List.length_singleton,hlu,show min (rest.length+1) 1=1 by omega]
  show((decide (d=c)&&true)&&_)=_
  rw[Bool.and_true]
  congr 1
  cases rest<;>simp
 have ed:eqV (.str d) (.str c)=decide (d=c):=by
  show(d==c)=decide (d=c)
  by_cases z:d=c
  ·rw[decide_eq_true z,z];exact beq_self_eq_true _
  ·rw[decide_eq_false z]
   cases e:d==c with
   | false=>rfl
   | true=>exact absurd (eq_of_beq e) z
 exact richCompare_meets_room (op:=.Eq) ⟨_,e,rfl⟩ ⟨_,e2,rfl⟩ slot_tuple_eq entry_tuple_eq (args_tuple_eq _ _) (SeqAt.tuple_eqAt a b (Value.str d t1::us).toArray [Value.str c t2].toArray n n2 od od2 osl osl2 (fun _=>decide (d=c)))
  ⟨e,e2,fun j h1 h2=>by
   have:j=0:=by
    have:j<1:=h2
    omega
   subst this
   rw[←ed]
   exact eqAt_V (y:=.str d) (x:=.str c) ⟨t1,rfl⟩ ⟨t2,rfl⟩ rfl rfl,by
   rw[hv]
   exact⟨(fun x=>nomatch x),⟨.bl _,H,I,rfl,q⟩⟩⟩ (by omega)
theorem op_neTA (hu:X.A.units+64<cLine):OpR X (compareOp .NotEq) (rEqTA X.K true):=by
 intro pins s σ H x y v u Q I rx ry h
 obtain⟨a,b,d,c,rest,rfl,rfl,ha,hb,q⟩:=h
 cases rx
 cases ry
 obtain⟨its,r1,p1,_⟩:=I.tuple ha
 obtain⟨its2,r2,p2,_⟩:=I.tuple hb
 obtain⟨u2,rfl,ru2⟩:=vals1 r2
 obtain⟨t2,rfl⟩:=ru2
 have hl:=r1.length
 obtain⟨u1,us,rfl,t1,rfl⟩:∃u1 us,its=u1::us∧∃t,u1=.str d t:=by
  cases r1 with
  | cons r t=>obtain⟨t',rfl⟩:=r;exact⟨_,_,rfl,t',rfl⟩
 have hlu:us.length=rest.length:=by simpa using hl.symm
 have ed:eqV (.str d) (.str c)=decide (d=c):=by
  show(d==c)=decide (d=c)
  by_cases z:d=c
  ·rw[decide_eq_true z,z];exact beq_self_eq_true _
  ·rw[decide_eq_false z]
   cases e:d==c with
   | false=>rfl
   | true=>exact absurd (eq_of_beq e) z
 refine SeqAt.RcNeAt.tuples (e:=fun _=>decide (d=c)) (show s.heap.IsTuple a (Value.str d t1::us).toArray from p1) (show s.heap.IsTuple b [Value.str c t2].toArray from p2) (by omega) (fun j g1 g2=>?_) X.prog X.w _ _ ?_
 ·have:j=0:=by
   have:j<1:=g2
   omega
  subst this
  rw[←ed]
  exact eqAt_V (y:=.str d) (x:=.str c) ⟨t1,rfl⟩ ⟨t2,rfl⟩ rfl rfl
 ·have hv:((List.range (min (Value.str d t1::us).toArray.size [Value.str c t2].toArray.size)).all (fun _=>decide (d=c))&&(Value.str d t1::us).toArray.size==[Value.str c t2].toArray.size)=(decide (d=c)&&rest.isEmpty):=by
   rw[List.size_toArray,List.size_toArray,List.length_cons,List.length_singleton,hlu,show min (rest.length+1) 1=1 by omega]
   show((decide (d=c)&&true)&&_)=_
   rw[Bool.and_true]
   congr 1
   cases rest<;>simp
  rw[hv]
  exact⟨.bl _,H,I,rfl,q⟩
end
end L2
namespace PySem
open Sem (wp)
section
variable {prog:Program}{w:World}{A:Around}{E:Value→Shared→Prop}{s:Shared}
theorem wpAny_pyHash_none {Q:Int→Shared→Prop}(h:Q 4238894112 { s with toks:=s.toks+1 }):wpAny (model prog w) A (pyHash .none) Q E s:=by
 unfold pyHash
 have hv:[Value.none].any Value.onHeap=false:=rfl
 refine wpAny_bind ?_
 rw[cRoomFor,if_neg (by rw[hv];exact Bool.false_ne_true)];refine wpAny_pure ?_
 refine wpAny_bind (wpAny_specialOf (typeIs_none s) F.slot_NoneType_hash.lookup ?_)
 show wpAny _ _ (if (some (Value.builtin "NoneType.__hash__")==some Value.none)=true then _ else _) Q E s
 rw[if_neg (by rw[beq_builtin_none];exact Bool.false_ne_true)]
 refine wpAny_bind (wpAny_specialOf (typeIs_none s) F.slot_NoneType_hash.lookup ?_)
 show wpAny _ _ (callSpecialIfBoundUnlessNone? .none "__hash__" _ >>= _) Q E s
 refine wpAny_bind (wpAny_callSpecialIfBoundUnlessNone?_slot (typeIs_none s) F.slot_NoneType_hash
  (wpAny_call_entry F.slot_NoneType_hash (typeIs_none s) F.entry_NoneType_hash
   (show wpAny _ _ (do ret (←mkInt 4238894112)) _ _ s from wpAny_ret_mkInt ?_) (F.args_NoneType_hash_1 _)))
 show wpAny _ _ (if (decide (-(2:Int) ^ 63≤4238894112)&&decide ((4238894112:Int)<2 ^ 63))=true then _ else _) Q E _
 rw[if_pos (by decide)]
 exact wpAny_pure h
end
end PySem
namespace L2
open PySem PySem.Spec PyProof.Rows
noncomputable def oIs:Option Int→Value→Bool
 | none,.none=>true
 | none,_=>false
 | some i,v=>Value.isInt i v
noncomputable def oH:Option Int→Int
 | none=>4238894112
 | some i=>hashInt i
theorem oIs_shape:∀{k:Option Int}{v:Value},oIs k v=true→(k=none∧v=Value.none)∨(∃i t,k=some i∧v=Value.int i t)
 | none,v,h=>by
  cases v with
  | none=>exact .inl ⟨rfl,rfl⟩
  | _=>cases h
 | some i,v,h=>by
  obtain⟨t,e⟩:=Value.isInt_shape (k:=i) (v:=v) h
  exact .inr ⟨i,t,rfl,e⟩
noncomputable def noneKind (prog:Program)(w:World):PySem.KeyKind prog w (Option Int) where
 is:=oIs
 hash:=oH
 inj:=fun v a b ha hb=>by
  rcases oIs_shape ha with ⟨rfl,rfl⟩|⟨i,t,rfl,rfl⟩
  ·rcases oIs_shape hb with ⟨rfl,e⟩|⟨j,u,rfl,e⟩
   ·rfl
   ·exact nomatch e
  ·rcases oIs_shape hb with ⟨rfl,e⟩|⟨j,u,rfl,e⟩
   ·exact nomatch e
   ·injection e with e1 _;rw[e1]
 byValue:=fun k v h=>by
  rcases oIs_shape h with ⟨rfl,rfl⟩|⟨i,t,rfl,rfl⟩<;>rfl
 pyHash:=fun hv h=>by
  rcases oIs_shape hv with ⟨rfl,rfl⟩|⟨i,t,rfl,rfl⟩
  ·exact wpAny_pyHash_none h
  ·exact wpAny_pyHash_int h
 eqBool:=fun {A E s a b u v Q} hu hv h=>by
  rcases oIs_shape hu with ⟨rfl,rfl⟩|⟨i,t,rfl,rfl⟩
  ·rcases oIs_shape hv with ⟨rfl,rfl⟩|⟨j,u,rfl,rfl⟩
   ·exact SeqAt.EqAt.same .none _ _ _ _ h
   ·exact SeqAt.EqAt.none_int j u _ _ _ _ h
  ·rcases oIs_shape hv with ⟨rfl,rfl⟩|⟨j,u,rfl,rfl⟩
   ·exact SeqAt.EqAt.int_none i t _ _ _ _ h
   ·have e:decide ((some i:Option Int)=some j)=(i==j):=by
     by_cases c:i=j
     ·subst c;simp
     ·rw[decide_eq_false (fun z=>c (Option.some.inj z))];exact(beq_eq_false_iff_ne.mpr c).symm
    rw[e]at h
    exact wpAny_eqBool_int h
 «strs»:=fun k x t v h=>by
  rcases oIs_shape h with ⟨_,e⟩|⟨_,_,_,e⟩<;>exact nomatch e
noncomputable def oV:Option Int→V
 | none=>.non
 | some i=>.int i
theorem oV_is:∀{k:Option Int}{v:Value},RelV (oV k) v→oIs k v=true
 | none,_,r=>by cases (show _=Value.none from r);rfl
 | some i,_,r=>by
  obtain⟨t,rfl⟩:=r
  simp[oIs,Value.isInt]
theorem oItems {P:Program}{w:World}:∀{ks:List (Option Int)}{us:List Value},Vals (ks.map oV) us→ItemsAre (noneKind P w) ks us
 | [],_,r=>by rw[List.map_nil]at r;cases r;exact .nil
 | k::ks,_,r=>by
  rw[List.map_cons]at r
  cases r with
  | cons h t=>exact .cons (oV_is h) (oItems t)
theorem oKey {P:Program}{w:World}{H:Hp}{h:Heap}{a:Addr}{ks:List (Option Int)}(ok:HOk P w H h)(e:H a=some (.tup (ks.map oV))):(tupleKind (noneKind P w)).is h ks a:=by
 obtain⟨_,its,r,⟨o,h1,h2,n,h3⟩,_⟩:=(show ObjOk P w H h a (.tup (ks.map oV))from ok a _ e)
 exact⟨o,its.toArray,n,h1,h2,h3,by simpa using oItems r⟩
def OD (P:Program)(w:World)(H:Hp)(h:Heap)(S:Addr)(ks:List (List (Option Int))):Prop:=∃(xs:List (List (Option Int)×Addr×Value))(o:Obj)(es:Array DictEntry)(ep:Nat),xs.map (·.1)=ks∧(∀x∈xs,H x.2.1=some (.tup (x.1.map oV)))∧h.get? S=some o∧o.ExactDict∧o.data=.dict es ep∧es.toList=xs.map (entryOfKey (tupleKind (noneKind P w)))
theorem OD.set {X:Cx}{pins:List (Addr×Obj)}{σ:St}{H:Hp}{s:Shared}{S a:Addr}{r:Value}{A:Around}{E:Value→Shared→Prop}{ks:List (List (Option Int))}{k:List (Option Int)}{Q:Unit→Shared→Prop}(I:Inv X pins σ H s)(d:OD X.prog X.w H s.heap S ks)(hn:(ks++[k]).Nodup)(l:ks.length≤1000000)(hu:A.units<cLine)(ha:H a=some (.tup (k.map oV)))
  (h:∀h' tk,Heap.SameBut S s.heap h'→OD X.prog X.w H h' S (ks++[k])→Q () { s with heap:=h',toks:=tk }):wpAny (model X.prog X.w) A (dictSet S (.ref a) r) Q E s:=by
 obtain⟨xs,o,es,ep,e1,e2,e3,e4,e5,e6⟩:=d
 rw[List.nodup_append]at hn
 have hx:∀x∈xs,(tupleKind (noneKind X.prog X.w)).is s.heap x.1 x.2.1:=fun x hx=>oKey I.hok (e2 x hx)
 have dd:s.heap.DictOfH (tupleKind (noneKind X.prog X.w)) S xs:=⟨o,es,ep,e3,e4,e5,e6,hx,by rw[e1];exact hn.1⟩
 have hz:xs.length≤sizeLine:=by
  have:xs.length=ks.length:=by rw[←e1,List.length_map]
  exact Nat.le_trans (show xs.length≤1000000 by omega) (by decide)
 refine wpAny_dictSet_heap (knd:=tupleKind (noneKind X.prog X.w)) (hsz:=hz) hu (oKey I.hok ha) dd fun h' dd' hs=>h h' _ hs ?_
 have hnew:atKey xs k=none:=atKey_none_of_get fun j p hj=>hn.2.2 k (by rw[←e1];exact List.mem_map.mpr ⟨_,List.mem_of_getElem? hj,rfl⟩) k (by simp) rfl
 rw[storedH_new hnew]at dd'
 obtain⟨o',es',ep',f1,f2,f3,f4,f5,f6⟩:=dd'
 refine⟨_,o',es',ep',by rw[List.map_append,e1];rfl,fun x hx=>?_,f1,f2,f3,f4⟩
 rcases List.mem_append.mp hx with y|y
 ·exact e2 x y
 ·have:x=(k,a,r):=by simpa using y
  rw[this];exact ha
section
variable {X:Cx}
theorem call_maxL (hc:X.calm=true):CallR X (.builtin "max") (fun xs H Q=>∃(p:Addr)(ns:List Int),xs=[.ref p]∧SqL X.K H p (ns.map V.int)∧0<ns.length∧∀M,M∈ns→(∀a∈ns,a≤M)→Q (.int M) H):=by
 intro pins s σ H xs us Q I r h
 obtain⟨p,ns,rfl,hq,hne,q⟩:=h
 obtain⟨u,rfl,rx⟩:=vals1 r
 cases rx
 obtain⟨its,rv,pl,hz⟩:=I.list hq
 have hi:=intsAre_of rv
 have hl:=pl.isList
 obtain⟨ys,e⟩:=hi.allInts.items
 have hns:ns=ys.toList.map (·.1):=by
  rw[←hi.numsOf,←nums_intItems,←e]
 have hsz:0<ys.size:=by
  have h3:=hne;rw[hns,List.length_map,Array.length_toList]at h3;exact h3
 rw[e]at hl
 have hh:X.A.handled=none:=I.ok.hd hc
 refine max_intList hh hl hsz fun v h' tk hv hk=>?_
 obtain⟨t,rfl⟩:=intItems_at hv
 obtain⟨h1,h2⟩:=argBest_gt (numAt ys) (ys.size-1)
 refine⟨.int _,H,I.kept (t':=tk) hk,⟨t,rfl⟩,q _ ?_ fun a ha=>?_⟩
 ·rw[hns,numAt_eq];exact getD_mem (by rw[List.length_map,Array.length_toList];omega)
 ·rw[hns]at ha
  obtain⟨j,hj,rfl⟩:=mem_getD ha
  rw[List.length_map,Array.length_toList]at hj
  rw[←numAt_eq];exact h2 j (by omega)
end
end L2
namespace L2
open PySem PySem.Spec PyProof.Rows
end L2
namespace L2
open PySem PySem.Spec PyProof.Rows
section
variable {X:Cx}
def rSlS:V→Option Int→Option Int→Hp→VK→Prop:=fun x lo hi H Q=>∃z:Str,x=.str z∧z.length≤sizeLine∧Q (.str (Txt.slice z lo hi)) H
theorem sl_str:SlR X rSlS:=by
 intro pins s σ H x v vl vu lo hi sl Q I rx hs pl pu h
 obtain⟨z,rfl,hz,q⟩:=h
 obtain⟨t,rfl⟩:=rx
 refine⟨"str",_,F.slot_str_getitem.lookup,typeIs_str _ _ _,?_⟩
 obtain⟨l,hl,el⟩:∃l:Option (Int×Tok),vl=partValue l∧l.map (·.1)=lo:=by
  cases lo with
  | none=>cases pl;exact⟨none,rfl,rfl⟩
  | some i=>cases pl with|int _ t'=>exact⟨some (i,t'),rfl,rfl⟩
 obtain⟨u,hu,eu⟩:∃u:Option (Int×Tok),vu=partValue u∧u.map (·.1)=hi:=by
  cases hi with
  | none=>cases pu;exact⟨none,rfl,rfl⟩
  | some i=>cases pu with|int _ t'=>exact⟨some (i,t'),rfl,rfl⟩
 subst hl hu el eu
 refine wpAny_getItem_str_slice (l:=l) (u:=u) (st:=none) hs rfl ?_
 exact(post_val_or_str ⟨Nat.le_trans (Txt.slice_le z _ _) hz,fun t' k=>⟨.str _,H,I.tok _,⟨_,rfl⟩,q⟩⟩)
end
end L2
namespace L2
open PySem PySem.Spec PyProof.Rows
section
variable {X:Cx}
end
end L2
namespace L2
open PySem PySem.Spec PyProof.Rows
section
variable {X:Cx}
theorem mt_find3:MtR X "str.find" (fun x vs H Q=>∃z y i,x=.str z∧vs=[.str y,.int i]∧Q (.int (Txt.find3 z y i)) H):=by
 intro pins s σ H x vs v us Q I rx rv h
 obtain⟨z,y,i,rfl,rfl,q⟩:=h
 obtain⟨t,rfl⟩:=rx
 obtain⟨u,u',rfl,ru,ru'⟩:=rv.two
 obtain⟨t',rfl⟩:=ru
 obtain⟨t2,rfl⟩:=ru'
 exact SC.find3 ⟨.int _,H,I.tok _,⟨_,rfl⟩,q⟩
end
end L2
set_option maxRecDepth 100000
namespace L2
open PySem PyProof.Rows
section
variable {prog:Program}{w:World}{A:Around}{E:Value→Shared→Prop}{s:Shared}{kd:SortKind}{k:Keyed→Int}{G:Keyed→Prop}
end
end L2
namespace L2
open PySem PyProof.Rows
def Up (k:Keyed→Int)(l:List Keyed):Prop:=l.Pairwise fun x y=>k x≤k y
structure MI (k:Keyed→Int)(tot L ra rb:List Keyed):Prop where
 perm:(L++ra++rb).Perm tot
 up:Up k L
 ua:Up k ra
 ub:Up k rb
 bnd:∀x∈L,∀y,y∈ra∨y∈rb→k x≤k y
theorem Up.app {k:Keyed→Int}{u v:List Keyed}(h1:Up k u)(h2:Up k v)(h:∀x∈u,∀y∈v,k x≤k y):Up k (u++v):=List.pairwise_append.mpr ⟨h1,h2,h⟩
theorem Up.left {k:Keyed→Int}{u v:List Keyed}(h:Up k (u++v)):Up k u:=(List.pairwise_append.mp h).1
theorem Up.right {k:Keyed→Int}{u v:List Keyed}(h:Up k (u++v)):Up k v:=(List.pairwise_append.mp h).2.1
theorem Up.mid {k:Keyed→Int}{u v:List Keyed}(h:Up k (u++v)):∀x∈u,∀y∈v,k x≤k y:=(List.pairwise_append.mp h).2.2
namespace MI
variable {k:Keyed→Int}{tot L ra rb:List Keyed}
theorem take {u ra':List Keyed}(h:MI k tot L ra rb)(e:ra=u++ra')(hu:∀x∈u,∀y∈rb,k x≤k y):MI k tot (L++u) ra' rb:=by
 subst e
 refine⟨?_,h.up.app h.ua.left fun x hx y hy=>h.bnd x hx y (.inl (List.mem_append_left _ hy)),h.ua.right,h.ub,fun x hx y hy=>?_⟩
 ·rw[List.append_assoc L u];exact h.perm
 ·rcases List.mem_append.mp hx with hx|hx
  ·exact h.bnd x hx y (hy.imp (List.mem_append_right _) id)
  ·rcases hy with hy|hy
   ·exact h.ua.mid x hx y hy
   ·exact hu x hx y hy
end MI
section
variable {prog:Program}{w:World}{A:Around}{E:Value→Shared→Prop}{s:Shared}{kd:SortKind}{k:Keyed→Int}{G:Keyed→Prop}
end
end L2
namespace L2
open PySem PyProof.Rows
section
variable {prog:Program}{w:World}{A:Around}{E:Value→Shared→Prop}{s:Shared}{kd:SortKind}{k:Keyed→Int}{G:Keyed→Prop}
end
end L2
namespace L2
open PySem PyProof.Rows
section
variable {prog:Program}{w:World}{A:Around}{E:Value→Shared→Prop}{s:Shared}{kd:SortKind}{k:Keyed→Int}{G:Keyed→Prop}
end
end L2
namespace L2
open PySem PyProof.Rows
structure Kp (xs ys:Array Keyed)(lo:Nat):Prop where
 perm:ys.Perm xs
 low:∀i,i<lo→ys[i]?=xs[i]?
theorem Kp.trans {xs ys zs:Array Keyed}{lo:Nat}(h:Kp xs ys lo)(h':Kp ys zs lo):Kp xs zs lo:=⟨h'.perm.trans h.perm,fun i hi=>(h'.low i hi).trans (h.low i hi)⟩
theorem Kp.size {xs ys:Array Keyed}{lo:Nat}(h:Kp xs ys lo):ys.size=xs.size:=h.perm.size_eq
section
variable {prog:Program}{w:World}{A:Around}{E:Value→Shared→Prop}{s:Shared}{kd:SortKind}{k:Keyed→Int}{G:Keyed→Prop}{ps:Array (Nat×Nat×Nat)}{g:Nat}
end
end L2
namespace L2
open PySem PyProof.Rows
noncomputable def Mt:Nat→List (Nat×Nat×Nat)→List (List Keyed)→Prop
 | _,[],[]=>True
 | p,(a,n,_)::r,z::zs=>a=p∧n=z.length∧0<z.length∧Mt (p+z.length) r zs
 | _,_,_=>False
theorem Mt.len:∀{l:List (Nat×Nat×Nat)}{zs:List (List Keyed)}{p:Nat},Mt p l zs→l.length=zs.length
 | [],[],_,_=>rfl
 | [],_::_,_,h=>h.elim
 | _::_,[],_,h=>h.elim
 |(_,_,_)::r,z::zs,p,h=>by
  have:=Mt.len h.2.2.2
  simp[this]
theorem Mt.size:∀{l:List (Nat×Nat×Nat)}{zs:List (List Keyed)}{p:Nat},Mt p l zs→zs.length≤zs.flatten.length
 | [],[],_,_=>Nat.le_refl _
 | [],_::_,_,h=>h.elim
 | _::_,[],_,h=>h.elim
 |(_,_,_)::r,z::zs,p,h=>by
  have:=Mt.size h.2.2.2
  have:=h.2.2.1
  rw[List.flatten_cons,List.length_append,List.length_cons]
  omega
structure RI (k:Keyed→Int)(x0:List Keyed)(xs:Array Keyed)(ps:Array (Nat×Nat×Nat))(zs:List (List Keyed))(S:List Keyed):Prop where
 perm:xs.toList.Perm x0
 cut:xs.toList=zs.flatten++S
 told:Mt 0 ps.toList zs
 up:∀z∈zs,Up k z
section
variable {prog:Program}{w:World}{A:Around}{E:Value→Shared→Prop}{s:Shared}{kd:SortKind}{k:Keyed→Int}{G:Keyed→Prop}
end
end L2
namespace L2
open PySem PyProof.Rows
section
variable {prog:Program}{w:World}{A:Around}{E:Value→Shared→Prop}{s:Shared}{kd:SortKind}{k:Keyed→Int}{G:Keyed→Prop}
end
section
variable {prog:Program}{w:World}{A:Around}{E:Value→Shared→Prop}{s:Shared}
end
section
variable {prog:Program}{w:World}{A:Around}{E:Value→Shared→Prop}{s:Shared}
end
end L2
namespace L2
open PySem PySem.Spec PyProof.Rows
section
variable {X:Cx}
end
end L2
namespace L2
open PySem PySem.Spec PyProof.Rows
section
variable {X:Cx}
end
end L2
namespace L2
open PySem PySem.Spec PyProof.Rows
section
variable {X:Cx}
end
end L2
namespace L2
open PySem PySem.Spec PyProof.Rows
section
variable {X:Cx}
end
end L2
namespace L2
open PySem PySem.Spec PyProof.Rows
section
variable {X:Cx}
end
end L2
set_option maxRecDepth 100000
namespace PySem
open Sem (wp)
mutual
noncomputable def hashD (w:World):PyData→Int
 |.none=>4238894112
 |.int i=>hashInt i
 |.str x=>hashStr w x
 |.tuple xs=>reduceHash (Builtin.Tuple.tupleHashOf (hashDs w xs))
 |.bool _=>0
 |.list _=>0
 |.dict _=>0
noncomputable def hashDs (w:World):List PyData→List Int
 | []=>[]
 | x::xs=>hashD w x::hashDs w xs
end
noncomputable def kOk:Nat→PyData→Bool
 | _,.none=>true
 | _,.int _=>true
 | _,.str x=>PyData.strOk x
 | n+1,.tuple xs=>xs.all (kOk n)
 | _,_=>false
theorem kOk_lay:∀(n:Nat)(d:PyData),kOk n d=true→d.canLay0=true∧d.depth≤n
 | _,.none,_=>⟨rfl,Nat.zero_le _⟩
 | _,.int _,_=>⟨rfl,Nat.zero_le _⟩
 | n,.str x,h=>by
  refine⟨?_,Nat.zero_le _⟩
  cases n<;>simpa[kOk,PyData.canLay0]using h
 | 0,.tuple _,h=>by simp[kOk]at h
 | n+1,.tuple xs,h=>by
  have hx:∀x∈xs,kOk n x=true:=List.all_eq_true.mp (by simpa[kOk]using h)
  have go:∀ys:List PyData,(∀x∈ys,kOk n x=true)→PyData.canLayAll0 ys=true∧PyData.depthAll ys≤n:=by
   intro ys
   induction ys with
   | nil=>exact fun _=>⟨rfl,Nat.zero_le _⟩
   | cons y ys ih =>
    intro hy
    have h1:=kOk_lay n y (hy y List.mem_cons_self)
    have h2:=ih fun x hx=>hy x (List.mem_cons_of_mem _ hx)
    exact⟨by simp only[PyData.canLayAll0,h1.1,h2.1,Bool.and_self],by simp only[PyData.depthAll];exact Nat.max_le.mpr ⟨h1.2,h2.2⟩⟩
  have g:=go xs hx
  exact⟨by simpa[PyData.canLay0]using g.1,by simp only[PyData.depth];omega⟩
 | n,.bool _,h=>by cases n<;>simp[kOk]at h
 | n,.list _,h=>by cases n<;>simp[kOk]at h
 | n,.dict _,h=>by cases n<;>simp[kOk]at h
theorem hashDs_append (w:World):∀xs ys:List PyData,hashDs w (xs++ys)=hashDs w xs++hashDs w ys
 | [],_=>rfl
 | x::xs,ys=>by
  show hashD w x::hashDs w (xs++ys)=hashD w x::(hashDs w xs++hashDs w ys)
  rw[hashDs_append w xs ys]
theorem pyHash_dat {prog:Program}{w:World}:∀(n:Nat)(d:PyData),kOk n d=true→∀{A:Around}{E:Value→Shared→Prop}{s:Shared}{v:Value}{as:List Addr}{Q:Int→Shared→Prop},Reads s.heap v d as→A.units+n<cLine →
  (∀tk,Q (hashD w d) { s with toks:=tk })→wpAny (model prog w) A (pyHash v) Q E s:=by
 intro n
 induction n with
 | zero =>
  intro d hk A E s v as Q r hu h
  cases r with
  | none=>exact wpAny_pyHash_none (h _)
  | int i t=>exact wpAny_pyHash_int (h _)
  | str x t=>exact wpAny_pyHash_str (h _)
  | bool b=>simp[kOk]at hk
  | list=>simp[kOk]at hk
  | tuple=>simp[kOk]at hk
  | dict=>simp[kOk]at hk
 | succ n ih =>
  intro d hk A E s v as Q r hu h
  cases r with
  | none=>exact wpAny_pyHash_none (h _)
  | int i t=>exact wpAny_pyHash_int (h _)
  | str x t=>exact wpAny_pyHash_str (h _)
  | bool b=>simp[kOk]at hk
  | list=>simp[kOk]at hk
  | dict=>simp[kOk]at hk
  | @tuple a o items k xs as ho hc hd hi =>
   have hx:∀x∈xs,kOk n x=true:=List.all_eq_true.mp (by simpa[kOk]using hk)
   have hT:s.TypeIs (.ref a) "tuple":=⟨o,ho,hc⟩
   unfold pyHash
   first|unfold pyHashByItsType|skip
   first|refine wpAny_bind (wpAny_cRoomFor_or (.inr (by omega)) ?_)|skip
   refine wpAny_bind (wpAny_specialOf hT F.slot_tuple_hash.lookup ?_)
   show wpAny _ _ (if (some (Value.builtin "tuple.__hash__")==some Value.none)=true then _ else _) _ _ _
   rw[if_neg (by rw[beq_builtin_none];exact Bool.false_ne_true)]
   refine wpAny_bind (wpAny_specialOf hT F.slot_tuple_hash.lookup ?_)
   show wpAny _ _ (callSpecialIfBoundUnlessNone? (.ref a) "__hash__" _ >>= _) _ _ _
   refine wpAny_bind (wpAny_callSpecialIfBoundUnlessNone?_slot hT F.slot_tuple_hash (wpAny_call_entry F.slot_tuple_hash hT F.entry_tuple_hash ?_ (F.args_tuple_hash_1 _)))
   show wpAny _ _ (Builtin.Tuple.tupleItemsOf (.ref a) >>= _) _ _ _
   refine wpAny_bind (wpAny_tupleItemsOf ho hd (wpAny_bind ?_))
   rw[←Array.forIn_toList]
   refine wpAny_forIn_list _ (fun rest (b:Array Int) s'=>∃done left bs,xs=done++left∧ReadsAll s.heap rest left bs∧b.toList=hashDs w done∧∃tk,s'={ s with toks:=tk }) _ ?_ ?_ _ _ ⟨[],xs,as,rfl,hi,rfl,s.toks,rfl⟩
   ·rintro x rest b s' ⟨done,left,bs,rfl,hl,hb,tk,rfl⟩
    cases hl with
    | @cons _ _ d ds b1 b2 h1 hl' =>
     refine wpAny_bind (ih d (hx d (by simp)) h1 (by show A.units+1+n<cLine;omega) fun tk2=>?_)
     have e:∀{P:Prop},(P↔P):=Iff.rfl
     first
      | exact wpAny_pure ⟨done++[d],ds,b2,by simp,hl',by rw[hashDs_append];simp[hb,hashDs],tk2,rfl⟩
      | exact wpAny_bind (wpAny_pure (wpAny_pure ⟨done++[d],ds,b2,by simp,hl',by rw[hashDs_append];simp[hb,hashDs],tk2,rfl⟩))
   ·rintro b s' ⟨done,left,bs,rfl,hl,hb,tk,rfl⟩
    cases hl
    rw[List.append_nil]at h
    show wpAny _ _ (retInt (Builtin.Tuple.tupleHashOf b.toList)) _ _ _
    rw[hb]
    refine wpAny_ret_mkInt ?_
    have hh:hashD w (.tuple done)=reduceHash (Builtin.Tuple.tupleHashOf (hashDs w done)):=by simp only[hashD]
    rw[hh]at h
    generalize Builtin.Tuple.tupleHashOf (hashDs w done)=z at h ⊢
    unfold reduceHash at h
    show wpAny _ _ (if (decide (-(2:Int) ^ 63≤z)&&decide (z<2 ^ 63))=true then _ else _) _ _ _
    by_cases hr:(decide (-(2:Int) ^ 63≤z)&&decide (z<2 ^ 63))=true
    ·rw[if_pos hr]
     rw[if_pos hr]at h
     exact wpAny_pure (h _)
    ·rw[if_neg hr]
     rw[if_neg hr]at h
     exact wpAny_bind (wpAny_rule (wpAny_pure (h _)))
theorem quiet_dat {prog:Program}{w:World}:∀(n:Nat)(d:PyData),kOk n d=true→∀{A:Around}{E:Value→Shared→Prop}{s:Shared}{v:Value}{as:List Addr}{Q:Bool→Shared→Prop}{m:Nat},Reads s.heap v d as→n≤m →
  Q true s→wpAny (model prog w) A (eqIsQuiet m v) Q E s:=by
 intro n
 induction n with
 | zero =>
  intro d hk A E s v as Q m r hm h
  cases r with
  | none=>rw[eqIsQuiet_byValue _ rfl];exact wpAny_pure h
  | int i t=>rw[eqIsQuiet_byValue _ rfl];exact wpAny_pure h
  | str x t=>rw[eqIsQuiet_byValue _ rfl];exact wpAny_pure h
  | bool b=>simp[kOk]at hk
  | list=>simp[kOk]at hk
  | tuple=>simp[kOk]at hk
  | dict=>simp[kOk]at hk
 | succ n ih =>
  intro d hk A E s v as Q m r hm h
  cases r with
  | none=>rw[eqIsQuiet_byValue _ rfl];exact wpAny_pure h
  | int i t=>rw[eqIsQuiet_byValue _ rfl];exact wpAny_pure h
  | str x t=>rw[eqIsQuiet_byValue _ rfl];exact wpAny_pure h
  | bool b=>simp[kOk]at hk
  | list=>simp[kOk]at hk
  | dict=>simp[kOk]at hk
  | @tuple a o items k xs as ho hc hd hi =>
   have hx:∀x∈xs,kOk n x=true:=List.all_eq_true.mp (by simpa[kOk]using hk)
   have hT:s.TypeIs (.ref a) "tuple":=⟨o,ho,hc⟩
   obtain⟨m',rfl⟩:∃m',m=m'+1:=⟨m-1,by omega⟩
   unfold eqIsQuiet
   refine wpAny_bind (wpAny_specialOf hT F.slot_tuple_eq.lookup ?_)
   show wpAny _ _ (isInstance (.ref a) (.type "tuple") >>= _) _ _ _
   refine wpAny_bind (wpAny_isInstance hT isSubtype_tuple_tuple ?_)
   simp only[Bool.not_true,Bool.false_eq_true,if_false]
   refine wpAny_bind (wpAny_seqItems ho hd (wpAny_bind ?_))
   show wpAny _ _ (forIn items _ _) _ _ _
   rw[←Array.forIn_toList]
   refine wpAny_forIn_list _ (fun rest r s'=>r.1=none∧s'=s∧∃left bs,(∀x∈left,kOk n x=true)∧ReadsAll s.heap rest left bs) _ ?_ ?_ _ _ ⟨rfl,rfl,xs,as,hx,hi⟩
   ·rintro v rest r s' ⟨hr,rfl,left,bs,hl,hrd⟩
    cases hrd with
    | @cons _ _ d ds b1 b2 h1 h2 =>
     refine wpAny_bind (ih d (hl d List.mem_cons_self) h1 (by omega) ?_)
     simp only[Bool.not_true,Bool.false_eq_true,if_false]
     exact wpAny_pure ⟨rfl,rfl,ds,b2,fun x hx=>hl x (List.mem_cons_of_mem _ hx),h2⟩
   ·rintro ⟨r1,r2⟩ s' ⟨hr,rfl,_⟩
    simp only at hr
    subst hr
    exact wpAny_pure h
structure KD (K:Type) [DecidableEq K] where
 dat:K→PyData
 ok:∀k,kOk 8 (dat k)=true
 eq:∀x y,PyData.eqv (dat x) (dat y)=decide (x=y)
section
variable {prog:Program}{w:World}{K:Type} [DecidableEq K]{kd:KD K}
def KD.At (kd:KD K)(h:Heap)(k:K)(v:Value):Prop:=∃as,Reads h v (kd.dat k) as
theorem KD.inj {h:Heap}{x y:K}{v:Value}(hx:kd.At h x v)(hy:kd.At h y v):x=y:=by
 obtain⟨as,r⟩:=hx
 obtain⟨bs,q⟩:=hy
 have e:=SeqAt.Reads.unique _ _ _ _ _ (kOk_lay 8 _ (kd.ok x)).1 r q
 have h1:=kd.eq x y
 rw[←e,SeqAt.eqv_refl _ (kOk_lay 8 _ (kd.ok x)).1]at h1
 exact of_decide_eq_true h1.symm
variable {A:Around}{E:Value→Shared→Prop}{s:Shared}
theorem KD.same {x y:K}{u v:Value}{Q:Bool→Shared→Prop}(hu:A.units+8<cLine)(hx:kd.At s.heap x u)(hy:kd.At s.heap y v)(h:Q (decide (x=y)) s):wpAny (model prog w) A (eqBool u v) Q E s:=by
 obtain⟨as,r⟩:=hx
 obtain⟨bs,q⟩:=hy
 have h1:=kOk_lay 8 _ (kd.ok x)
 have h2:=kOk_lay 8 _ (kd.ok y)
 refine SeqAt.eqAt_reads _ _ A s u v as bs r q h1.1 h2.1 ?_ prog w E Q (by rw[kd.eq];exact h)
 have:=Nat.min_le_left (kd.dat x).depth (kd.dat y).depth
 omega
theorem KD.hashed {k:K}{v:Value}{Q:Int→Shared→Prop}(hu:A.units+8<cLine)(hk:kd.At s.heap k v)(h:∀tk,Q (hashD w (kd.dat k)) { s with toks:=tk }):wpAny (model prog w) A (pyHash v) Q E s :=
 let ⟨_,r⟩:=hk
 pyHash_dat 8 _ (kd.ok k) r hu h
end
end PySem
namespace PySem
open Sem (wp)
section
variable {prog:Program}{w:World}{K:Type} [DecidableEq K]{kd:KD K}{A:Around}{E:Value→Shared→Prop}{s:Shared}
noncomputable def KD.ent (kd:KD K)(w:World)(x:K×Value×Value):DictEntry:=⟨hashD w (kd.dat x.1),x.2.1,x.2.2⟩
structure KD.Ents (kd:KD K)(w:World)(h:Heap)(xs:List (K×Value×Value))(es:Array DictEntry):Prop where
 es:es.toList=xs.map (kd.ent w)
 is:∀x∈xs,kd.At h x.1 x.2.1
 nd:(xs.map (·.1)).Nodup
theorem KD.Ents.at {h:Heap}{xs:List (K×Value×Value)}{es:Array DictEntry}(e:kd.Ents w h xs es)(j:Nat):es[j]?=(xs[j]?).map (kd.ent w):=by
 rw[←Array.getElem?_toList,e.es,List.getElem?_map]
theorem KD.Ents.size {h:Heap}{xs:List (K×Value×Value)}{es:Array DictEntry}(e:kd.Ents w h xs es):es.size=xs.length:=by
 rw[←Array.length_toList,e.es,List.length_map]
theorem ix_one {xs:List (K×Value×Value)}(hn:(xs.map (·.1)).Nodup){i j:Nat}{k:K}{p q:Value×Value}(hi:xs[i]?=some (k,p))(hj:xs[j]?=some (k,q)):i=j:=by
 have hi':(xs.map (·.1))[i]?=some k:=by rw[List.getElem?_map,hi];rfl
 have hj':(xs.map (·.1))[j]?=some k:=by rw[List.getElem?_map,hj];rfl
 exact(List.getElem?_inj (List.getElem?_eq_some_iff.mp hi').1 hn).mp (hi'.trans hj'.symm)
theorem KD.mayTell {k:K}{key:Value}{stored:List Value}{Q:Bool→Shared→Prop}(hkey:kd.At s.heap k key)(hst:∀v∈stored,∃k',kd.At s.heap k' v)(h:Q false s):wpAny (model prog w) A (tableMayTell key stored) Q E s:=by
 unfold tableMayTell
 split
 ·exact wpAny_pure h
 ·obtain⟨_,r⟩:=hkey
  refine wpAny_bind (quiet_dat 8 _ (kd.ok k) r (Nat.le_refl _) ?_)
  simp only[Bool.not_true,Bool.false_eq_true,if_false]
  refine wpAny_bind ?_
  refine wpAny_forIn_list _ (fun rest r s'=>s'=s∧r=(none,())∧∀v∈rest,∃k',kd.At s.heap k' v) _ ?_ ?_ _ _ ⟨rfl,rfl,hst⟩
  ·rintro x rest r s' ⟨rfl,rfl,hr⟩
   obtain⟨k',_,hb⟩:=hr x List.mem_cons_self
   refine wpAny_bind (quiet_dat 8 _ (kd.ok k') hb (Nat.le_refl _) ?_)
   simp only[Bool.not_true,Bool.false_eq_true,if_false]
   exact wpAny_pure ⟨rfl,rfl,fun v hv=>hr v (List.mem_cons_of_mem _ hv)⟩
  ·rintro r s' ⟨rfl,rfl,_⟩
   exact wpAny_pure h
theorem KD.shape {h:Heap}{k:K}{v:Value}(hk:kd.At h k v):v=.none∨(∃i t,v=.int i t)∨(∃x t,v=.str x t∧kd.dat k=.str x)∨∃a,v=.ref a:=by
 obtain⟨as,r⟩:=hk
 have ok:=kd.ok k
 generalize kd.dat k=d at r ok
 cases r with
 | none=>exact .inl rfl
 | int i t=>exact .inr (.inl ⟨_,_,rfl⟩)
 | str x t=>exact .inr (.inr (.inl ⟨_,_,rfl,rfl⟩))
 | bool b=>simp[kOk]at ok
 | list=>exact .inr (.inr (.inr ⟨_,rfl⟩))
 | dict=>exact .inr (.inr (.inr ⟨_,rfl⟩))
 | tuple=>exact .inr (.inr (.inr ⟨_,rfl⟩))
theorem wp_ite {M:Model}{A:Around}{α:Type}{Q:α→Shared→Prop}{E:Value→Shared→Prop}{s:Shared}{c:Prop} [Decidable c]{x y:Sem α}(h1:c→wpAny M A x Q E s)(h2:¬c→wpAny M A y Q E s):wpAny M A (if c then x else y) Q E s:=by
 by_cases h:c
 ·rw[if_pos h];exact h1 h
 ·rw[if_neg h];exact h2 h
theorem KD.found {d : Addr} {o : Obj} {es : Array DictEntry} {ep : Nat} {xs : List (K × Value × Value)} {k : K} {key : Value} {Q : Option Nat→Shared→Prop} (hu : A.units + 8 < cLine) (hkey : kd.At s.heap k key) (ho : s.heap.get? d = some o) (hd : o.data = .dict es ep) (he : kd.Ents w s.heap xs es)
    (hnone : (∀ (j : Nat) (p : Value × Value),xs[j]?≠some (k,p))→Q none s) (hsome : ∀ (j : Nat) (p : Value × Value),xs[j]? = some (k,p)→Q (some j) s) : wpAny (model prog w) A (dictFind d key (hashD w (kd.dat k))) Q E s:=by
  have hat:=he.at
  have hpl : ∀ j ∈ placesWithHash es.size (fun i=>es[i]?.map (·.hash)) (hashD w (kd.dat k)), ∃ k' v z,xs[j]? = some (k',v,z)∧es[j]? = some ⟨hashD w (kd.dat k'),v,z⟩∧kd.At s.heap k' v∧(hashD w (kd.dat k') == hashD w (kd.dat k)) = true:=by
    intro j hj
    obtain ⟨h1,h2⟩:=List.mem_filter.mp hj
    have hlt : j < xs.length:=by rw [← he.size]; exact List.mem_range.mp h1
    have hx : xs[j]? = some xs[j]:=List.getElem?_eq_getElem hlt
    dsimp only at h2
    rw [hat j,hx] at h2
    refine ⟨xs[j].1,xs[j].2.1,xs[j].2.2,hx,by rw [hat j,hx]; rfl,he.is _ (List.getElem_mem hlt), ?_⟩
    simpa [KD.ent] using h2
  have hin : ∀ (j : Nat) (p : Value × Value),xs[j]? = some (k,p)→j ∈ placesWithHash es.size (fun i=>es[i]?.map (·.hash)) (hashD w (kd.dat k)):=by
    intro j p hj
    have hlt : j < xs.length:=(List.getElem?_eq_some_iff.mp hj).1
    refine List.mem_filter.mpr ⟨List.mem_range.mpr (by rw [he.size]; exact hlt), ?_⟩
    show ((es[j]?.map (·.hash)) == some (hashD w (kd.dat k))) = true
    rw [hat j,hj]
    simp [KD.ent]
  have hst : ∀ v ∈ (placesWithHash es.size (fun i=>es[i]?.map (·.hash)) (hashD w (kd.dat k))).filterMap (fun i=>es[i]?.map (·.key)), ∃ k',kd.At s.heap k' v:=by
    intro v hv
    obtain ⟨i,hi,e⟩:=List.mem_filterMap.mp hv
    obtain ⟨k',v',z,_,h2,h3,_⟩:=hpl i hi
    rw [h2] at e
    cases e
    exact ⟨k',h3⟩
  have hnd : (placesWithHash es.size (fun i=>es[i]?.map (·.hash)) (hashD w (kd.dat k))).Nodup:=List.Nodup.sublist List.filter_sublist List.nodup_range
  generalize hps : placesWithHash es.size (fun i=>es[i]?.map (·.hash)) (hashD w (kd.dat k)) = ps at hpl hin hst hnd
  have plain : wpAny (model prog w) A (dictWalkPlain d key (hashD w (kd.dat k)) es ps) Q E s:=by
    refine wpAny_bind ?_
    refine wpAny_forIn_list _ (fun rest b s'=>s' = s∧b = (none,()) ∧ ∃ pre,ps = pre ++ rest ∧ ∀ j ∈ pre, ∀ p : Value × Value,xs[j]?≠some (k,p)) _ ?_ ?_ _ _ ⟨rfl,rfl, [],rfl,fun j hj=>nomatch hj⟩
    · rintro x rest b s' ⟨rfl,rfl,pre,hpre,hno⟩
      obtain ⟨k',v,z,hx,hex,hv,hh⟩:=hpl x (by rw [hpre]; simp)
      rw [hex]
      dsimp only
      rw [if_pos hh]
      refine wpAny_bind (wpAny_dictEpoch ho hd (wpAny_bind (kd.same (x:=k') (y:=k) hu hv hkey (wpAny_bind (wpAny_dictEpoch ho hd ?_)))))
      show wpAny _ _ (if (ep != ep) = true then _ else _) _ _ _
      rw [if_neg (by simp)]
      by_cases hkk : k' = k
      · rw [decide_eq_true hkk]
        subst hkk
        exact wpAny_bind (wpAny_rule (wpAny_pure (wpAny_pure (hsome x _ hx))))
      · rw [decide_eq_false hkk]
        refine wpAny_bind (wpAny_rule (wpAny_pure ⟨rfl,rfl,pre ++ [x],by simp [hpre],fun j hj p hp => ?_⟩))
        rcases List.mem_append.mp hj with y | y
        · exact hno j y p hp
        · obtain rfl : j = x:=by simpa using y
          rw [hx] at hp
          injection hp with hp
          injection hp with hp
          exact hkk hp
    · rintro b s' ⟨rfl,rfl,pre,hpre,hno⟩
      refine wpAny_pure (hnone fun j p hj => ?_)
      have:=hin j p hj
      rw [hpre,List.append_nil] at this
      exact hno j this p hj
  unfold dictFind
  try with_reducible refine wpAny_holding ?_
  refine wpAny_bind (wpAny_dictEntries ho hd ?_)
  dsimp only
  rw [hps]
  have byTxt : ∀ (x : Str) (t : Tok),key = .str x t→kd.dat k = .str x→es.all (fun e=>isExactStrKey e.key) = true→wpAny (model prog w) A (foundByValue d key es x) Q E s:=by
    rintro x t rfl hdk hall
    unfold foundByValue
    cases hf : es.findIdx? (fun e=>e.key.isStr x) with
    | none =>
      refine wpAny_pure (hnone fun j p hj => ?_)
      have h1:=Array.findIdx?_eq_none_iff.mp hf
      have h2:=hat j
      rw [hj] at h2
      have h3:=h1 _ (Array.mem_of_getElem? h2)
      obtain ⟨as,r⟩:=he.is _ (List.mem_of_getElem? hj)
      obtain ⟨p1,p2⟩:=p
      rw [show kd.dat (k,p1,p2).1 = _ from hdk] at r
      replace h3 : ¬ p1.isStr x = true:=by simpa [KD.ent] using h3
      replace r : Reads s.heap p1 (.str x) as:=r
      cases r
      simp [Value.isStr] at h3
    | some i =>
      obtain ⟨hlt,hi,_⟩:=Array.findIdx?_eq_some_iff_getElem.mp hf
      have hx : xs[i]? = some (xs[i]'(by rw [← he.size]; exact hlt)):=List.getElem?_eq_getElem _
      have h2:=hat i
      rw [hx,Array.getElem?_eq_getElem hlt] at h2
      have h3 : es[i] = kd.ent w (xs[i]'(by rw [← he.size]; exact hlt)):=Option.some.inj h2
      have hA:=he.is _ (List.mem_of_getElem? hx)
      rw [h3] at hi
      have hkk : (xs[i]'(by rw [← he.size]; exact hlt)).1 = k:=by
        generalize xs[i]'(by rw [← he.size]; exact hlt) = y at hi hA
        obtain ⟨k',v,z⟩:=y
        rcases KD.shape hA with e | ⟨j,u,e⟩ | ⟨y,u,e,e2⟩ | ⟨a,e⟩
        · rw [show (kd.ent w (k',v,z)).key = v from rfl,show v = _ from e] at hi; simp [Value.isStr] at hi
        · rw [show (kd.ent w (k',v,z)).key = v from rfl,show v = _ from e] at hi; simp [Value.isStr] at hi
        · rw [show (kd.ent w (k',v,z)).key = v from rfl,show v = _ from e] at hi
          have e3 : y = x:=by simpa [Value.isStr] using hi
          have h5:=kd.eq k' k
          rw [show kd.dat k' = _ from e2,hdk,e3,SeqAt.eqv_refl (.str x) (by rw [← hdk]; exact (kOk_lay 8 _ (kd.ok k)).1)] at h5
          exact of_decide_eq_true h5.symm
        · rw [show (kd.ent w (k',v,z)).key = v from rfl,show v = _ from e] at hi; simp [Value.isStr] at hi
      simp only [Array.getElem?_eq_getElem hlt]
      rw [h3]
      refine wpAny_bind (wpAny_dictEpoch ho hd (wpAny_bind (kd.same (y:=k) hu hA hkey (wpAny_bind (wpAny_dictEpoch ho hd ?_)))))
      show wpAny _ _ (if (ep != ep) = true then _ else _) _ _ _
      rw [if_neg (by simp),decide_eq_true hkk]
      refine wpAny_bind (wpAny_rule (wpAny_pure (hsome i (xs[i]'(by rw [← he.size]; exact hlt)).2 ?_)))
      rw [hx, ← hkk]
  have hany : ∀ a,key = .ref a → ¬ (es.any fun e=>e.key == Value.ref a && e.hash != hashD w (kd.dat k)) = true:=by
    rintro a rfl hc
    rw [← Array.any_toList,List.any_eq_true] at hc
    obtain ⟨e,hin',hc⟩:=hc
    rw [he.es] at hin'
    obtain ⟨y,hy,rfl⟩:=List.mem_map.mp hin'
    simp only [KD.ent,Bool.and_eq_true,beq_iff_eq,bne_iff_ne,ne_eq] at hc
    have h1:=he.is y hy
    rw [hc.1] at h1
    exact hc.2 (by rw [KD.inj h1 hkey])
  by_cases hstr : ∃ x t,key = .str x t∧kd.dat k = .str x∧es.all (fun e=>isExactStrKey e.key) = true
  · obtain ⟨x,t,rfl,hdk,hall⟩:=hstr
    dsimp only
    rw [if_pos hall]
    exact byTxt x t rfl hdk hall
  rcases KD.shape hkey with rfl | ⟨i,t,rfl⟩ | ⟨x,t,rfl,hdk⟩ | ⟨a,rfl⟩
  all_goals
    dsimp only
    first | rw [if_neg (fun y=>hstr ⟨_,_,rfl,hdk,y⟩)] | skip
  all_goals
    first | refine (wp_ite (fun _=>plain) fun hall => ?_) | skip
  all_goals
    first | rw [if_neg (hany _ rfl)] | skip
  all_goals
    refine (fun key0=>wp_ite (fun _=>wpAny_bind (wpAny_pure key0)) fun _=>wpAny_bind (KD.mayTell hkey hst key0)) ?_
  all_goals
    rw [if_neg (by simp)]
    refine wpAny_bind ?_
    refine wpAny_forIn_list _ (fun rest b s'=>s' = s ∧ ∃ hit,b = (none,hit) ∧ ∃ pre,ps = pre ++ rest∧((hit = none ∧ ∀ j ∈ pre, ∀ p : Value × Value,xs[j]?≠some (k,p)) ∨ ∃ j p,j ∈ pre∧hit = some j∧xs[j]? = some (k,p))) _ ?_ ?_ _ _ ⟨rfl,none,rfl, [],rfl, .inl ⟨rfl,fun j hj=>nomatch hj⟩⟩
    · rintro x rest b s' ⟨rfl,hit,rfl,pre,hpre,hH⟩
      obtain ⟨k',v,z,hx,hex,hv,hh⟩:=hpl x (by rw [hpre]; simp)
      rw [hex]
      dsimp only
      rw [if_pos hh]
      refine wpAny_bind (wpAny_dictEpoch ho hd (wpAny_bind (kd.same (x:=k') (y:=k) hu hv hkey (wpAny_bind (wpAny_dictEpoch ho hd ?_)))))
      show wpAny _ _ (if (ep != ep) = true then _ else _) _ _ _
      rw [if_neg (by simp)]
      by_cases hkk : k' = k
      · rw [decide_eq_true hkk]
        subst hkk
        rcases hH with ⟨rfl,_⟩ | ⟨j,p,hj,_,hjx⟩
        · first | rw [if_pos rfl] | skip
          simp only [Option.isSome_none,Bool.false_eq_true,if_false]
          first | refine wpAny_bind (wpAny_pure ?_) | skip
          refine wpAny_bind (wpAny_rule ?_)
          split
          · exact wpAny_pure (wpAny_pure (hsome x _ hx))
          · exact wpAny_pure ⟨rfl,some x,rfl,pre ++ [x],by simp [hpre], .inr ⟨x,_,by simp,rfl,hx⟩⟩
        · exfalso
          have e:=ix_one he.nd hjx hx
          rw [hpre] at hnd
          have:=(List.nodup_append.mp hnd).2.2 x (by rw [← e]; exact hj) x (by simp)
          exact this rfl
      · rw [decide_eq_false hkk]
        simp only [Bool.false_eq_true,if_false]
        have nx : (hit = none ∧ ∀ j ∈ pre ++ [x], ∀ p : Value × Value,xs[j]?≠some (k,p)) ∨ ∃ j p,j ∈ pre ++ [x]∧hit = some j∧xs[j]? = some (k,p):=by
          rcases hH with ⟨h1,hno⟩ | ⟨j,p,hj,h1,h2⟩
          · refine .inl ⟨h1,fun j hj p hp => ?_⟩
            rcases List.mem_append.mp hj with y | y
            · exact hno j y p hp
            · obtain rfl : j = x:=by simpa using y
              rw [hx] at hp
              injection hp with hp
              injection hp with hp
              exact hkk hp
          · exact .inr ⟨j,p,List.mem_append_left _ hj,h1,h2⟩
        refine wpAny_bind (wpAny_rule ?_)
        first | rw [if_neg (by simp)] | skip
        first
          | exact wpAny_pure ⟨rfl,hit,rfl,pre ++ [x],by simp [hpre],nx⟩
          | exact wpAny_bind (wpAny_pure (wpAny_pure ⟨rfl,hit,rfl,pre ++ [x],by simp [hpre],nx⟩))
    · rintro b s' ⟨rfl,hit,rfl,pre,hpre,hH⟩
      rw [List.append_nil] at hpre
      rcases hH with ⟨rfl,hno⟩ | ⟨j,p,_,rfl,hj⟩
      · exact wpAny_pure (hnone fun j p hj=>hno j (by rw [← hpre]; exact hin j p hj) p hj)
      · exact wpAny_pure (hsome j p hj)
def KD.Dict (kd:KD K)(w:World)(h:Heap)(d:Addr)(xs:List (K×Value×Value)):Prop:=∃o es ep,h.get? d=some o∧o.ExactDict∧o.data=.dict es ep∧kd.Ents w h xs es
noncomputable def atX {α:Type}(xs:List (K×α))(k:K):Option α:=(xs.find? fun x=>decide (x.1=k)).map (·.2)
theorem atX_none {α:Type}{xs:List (K×α)}{k:K}(h:∀(j:Nat)(p:α),xs[j]?≠some (k,p)):atX xs k=none:=by
 have:(xs.find? fun x=>decide (x.1=k))=none:=by
  rw[List.find?_eq_none]
  intro x hx hk
  obtain⟨j,hj⟩:=List.mem_iff_getElem?.mp hx
  have hk':x.1=k:=of_decide_eq_true hk
  exact h j x.2 (by rw[hj,←hk'])
 simp[atX,this]
theorem atX_some {α:Type}:∀{xs:List (K×α)}{j:Nat}{k:K}{p:α},(xs.map (·.1)).Nodup→xs[j]?=some (k,p)→atX xs k=some p
 | [],_,_,_,_,h=>by simp at h
 | x::xs,0,k,p,_,h=>by
  simp only[List.getElem?_cons_zero,Option.some.injEq]at h
  subst h
  simp[atX]
 | x::xs,j+1,k,p,hn,h=>by
  rw[List.map_cons,List.nodup_cons]at hn
  simp only[List.getElem?_cons_succ]at h
  have hne:¬x.1=k:=fun e=>hn.1 (e▸List.mem_map.mpr ⟨(k,p),List.mem_of_getElem? h,rfl⟩)
  have:=atX_some hn.2 h
  simpa[atX,List.find?_cons,hne]using this
theorem KD.get {d:Addr}{xs:List (K×Value×Value)}{k:K}{key:Value}{Q:Option Value→Shared→Prop}(hu:A.units+8<cLine)(hkey:kd.At s.heap k key)(hm:kd.Dict w s.heap d xs)(h:∀tk,Q ((atX xs k).map (·.2)) { s with toks:=tk }):wpAny (model prog w) A (dictGet d key) Q E s:=by
 obtain⟨o,es,ep,ho,_,hd,he⟩:=hm
 unfold dictGet
 try with_reducible refine wpAny_holding ?_
 refine wpAny_bind (KD.hashed hu hkey fun tk=>wpAny_bind (KD.found (s:={ s with toks:=tk }) hu hkey ho hd he ?_ ?_))
 ·intro hno
  rw[atX_none hno]at h
  exact wpAny_pure (h tk)
 ·intro j p hj
  rw[atX_some he.nd hj]at h
  refine wpAny_bind (wpAny_dictEntries (s:={ s with toks:=tk }) ho hd ?_)
  rw[he.at j,hj]
  exact wpAny_pure (h tk)
noncomputable def putX {α β:Type}:List (K×β×α)→K→β→α→List (K×β×α)
 | [],k,u,v=>[(k,u,v)]
 | x::xs,k,u,v=>if x.1=k then (x.1,x.2.1,v)::xs else x::putX xs k u v
theorem putX_new {α β:Type}(f:K×Value×α→β){k:K}{u:Value}{v:α}:∀{xs:List (K×Value×α)},(∀(j:Nat)(p:Value×α),xs[j]?≠some (k,p))→(putX xs k u v).map f=xs.map f++[f (k,u,v)]
 | [],_=>rfl
 | x::xs,h=>by
  have hne:¬x.1=k:=fun e=>h 0 x.2 (by rw[←e];rfl)
  rw[putX,if_neg hne,List.map_cons,putX_new f (xs:=xs) fun j p=>h (j+1) p]
  rfl
theorem putX_old {α β:Type}(f:K×Value×α→β)(g:β→β){k:K}{u:Value}{v:α}(hg:∀a b,g (f (k,a,b))=f (k,a,v)):∀{xs:List (K×Value×α)}{j:Nat}{p:Value×α},(xs.map (·.1)).Nodup→xs[j]?=some (k,p)→(putX xs k u v).map f=(xs.map f).modify j g
 | [],_,_,_,h=>by simp at h
 | x::xs,0,p,_,h=>by
  simp only[List.getElem?_cons_zero,Option.some.injEq]at h
  subst h
  rw[putX,if_pos rfl,List.map_cons,List.map_cons,List.modify_zero_cons,hg]
 | x::xs,j+1,p,hn,h=>by
  rw[List.map_cons,List.nodup_cons]at hn
  simp only[List.getElem?_cons_succ]at h
  have hne:¬x.1=k:=fun e=>hn.1 (e▸List.mem_map.mpr ⟨(k,p),List.mem_of_getElem? h,rfl⟩)
  rw[putX,if_neg hne,List.map_cons,putX_old f g hg hn.2 h,List.map_cons,List.modify_succ_cons]
theorem putX_keys {α:Type}{k:K}{u:Value}{v:α}{x:K}:∀{xs:List (K×Value×α)},x∈(putX xs k u v).map (·.1)→x=k∨x∈xs.map (·.1)
 | [],h=>.inl (by simpa[putX]using h)
 | y::xs,h=>by
  unfold putX at h
  split at h
  ·exact .inr (by simpa using h)
  ·rw[List.map_cons,List.mem_cons]at h
   rcases h with e|e
   ·exact .inr (by simp[e])
   ·rcases putX_keys e with z|z
    ·exact .inl z
    ·exact .inr (by rw[List.map_cons];exact List.mem_cons_of_mem _ z)
theorem putX_nd {α:Type}{k:K}{u:Value}{v:α}:∀{xs:List (K×Value×α)},(xs.map (·.1)).Nodup→((putX xs k u v).map (·.1)).Nodup
 | [],_=>by simp[putX]
 | y::xs,h=>by
  rw[List.map_cons,List.nodup_cons]at h
  unfold putX
  split
  ·exact List.nodup_cons.mpr h
  ·rename_i hne
   refine List.nodup_cons.mpr ⟨fun z=>?_,putX_nd h.2⟩
   rcases putX_keys z with e|e
   ·exact hne e
   ·exact h.1 e
theorem putX_mem {α:Type}{k:K}{u:Value}{v:α}{x:K×Value×α}:∀{xs:List (K×Value×α)},x∈putX xs k u v→x=(k,u,v)∨∃y∈xs,y.1=x.1∧y.2.1=x.2.1
 | [],h=>.inl (by simpa[putX]using h)
 | y::xs,h=>by
  unfold putX at h
  split at h
  ·rcases List.mem_cons.mp h with e|e
   ·exact .inr ⟨y,by simp,by rw[e],by rw[e]⟩
   ·exact .inr ⟨x,by simp[e],rfl,rfl⟩
  ·rcases List.mem_cons.mp h with e|e
   ·exact .inr ⟨y,by simp,by rw[e],by rw[e]⟩
   ·rcases putX_mem e with z|⟨c,hc,e1⟩
    ·exact .inl z
    ·exact .inr ⟨c,List.mem_cons_of_mem _ hc,e1⟩
theorem KD.At.keeps {h h':Heap}{k:K}{v:Value}{d:Addr}{o:Obj}{es:Array DictEntry}{ep:Nat}(x:kd.At h k v)(ho:h.get? d=some o)(hd:o.data=.dict es ep)(hs:Heap.SameBut d h h'):kd.At h' k v:=by
 obtain⟨as,r⟩:=x
 have go:∀(n:Nat)(e:PyData),kOk n e=true→∀{v:Value}{as:List Addr},Reads h v e as→Reads h' v e as:=by
  intro n
  induction n with
  | zero =>
   intro e he v as r
   cases r with
   | none=>exact .none
   | int i t=>exact .int i t
   | str x t=>exact .str x t
   | bool b=>exact .bool b
   | list=>simp[kOk]at he
   | tuple=>simp[kOk]at he
   | dict=>simp[kOk]at he
  | succ n ih =>
   intro e he v as r
   cases r with
   | none=>exact .none
   | int i t=>exact .int i t
   | str x t=>exact .str x t
   | bool b=>exact .bool b
   | list=>simp[kOk]at he
   | dict=>simp[kOk]at he
   | @tuple a o' items k xs as h1 h2 h3 h4 =>
    have hx:∀x∈xs,kOk n x=true:=List.all_eq_true.mp (by simpa[kOk]using he)
    have hne:a≠d:=by
     rintro rfl
     rw[h1]at ho
     cases ho
     rw[h3]at hd
     cases hd
    refine .tuple ((hs.2 a hne).trans h1) h2 h3 ?_
    have all:∀{vs:List Value}{ds:List PyData}{bs:List Addr},(∀x∈ds,kOk n x=true)→ReadsAll h vs ds bs→ReadsAll h' vs ds bs:=by
     intro vs ds
     induction ds generalizing vs with
     | nil=>intro bs _ r;cases r;exact .nil
     | cons d ds ih2 =>
      intro bs hd r
      cases r with
      | cons r1 r2=>exact .cons (ih d (hd d List.mem_cons_self) r1) (ih2 (fun x hx=>hd x (List.mem_cons_of_mem _ hx)) r2)
    exact all hx h4
 exact⟨as,go 8 _ (kd.ok k) r⟩
theorem KD.set {d : Addr} {xs : List (K × Value × Value)} {k : K} {key v : Value} {Q : Unit→Shared→Prop} (hu : A.units + 8 < cLine) (hkey : kd.At s.heap k key) (hm : kd.Dict w s.heap d xs) (hsz : xs.length≤sizeLine)
    (hQ : ∀ h' tk,kd.Dict w h' d (putX xs k key v)→Heap.SameBut d s.heap h'→Q () { s with heap:=h',toks:=tk }) : wpAny (model prog w) A (dictSet d key v) Q E s:=by
  obtain ⟨o,es,ep,ho,hc,hd,he⟩:=hm
  have hall : ∀ h',Heap.SameBut d s.heap h' → ∀ x ∈ putX xs k key v,kd.At h' x.1 x.2.1:=fun h' hs x hx=>by
    rcases putX_mem hx with e | ⟨y,hy,e1,e2⟩
    · rw [e]; exact hkey.keeps ho hd hs
    · rw [← e1, ← e2]; exact (he.is y hy).keeps ho hd hs
  unfold dictSet
  try with_reducible refine wpAny_holding ?_
  refine wpAny_bind (KD.hashed hu hkey fun tk => ?_)
  unfold dictSetHashed
  try with_reducible refine wpAny_holding ?_
  refine wpAny_bind (KD.found (s := { s with toks:=tk }) hu hkey ho hd he ?_ ?_)
  · intro hno
    refine wpAny_bind (wpAny_rule (wpAny_updateDictKeys (hz:=by rw [he.size]; exact hsz) (s := { s with toks:=tk }) ho hd (hQ _ _ ⟨_,_,ep + 1,Heap.get?_update_self _ ho (Obj.isFreed_of_dict (Obj.data_mapDictKeys hd _)),hc.mapDictKeys _,Obj.data_mapDictKeys hd _, ?_,hall _ (Heap.SameBut.update ..),putX_nd he.nd⟩ (Heap.SameBut.update ..))))
    rw [putX_new (kd.ent w) hno]
    simp [he.es,KD.ent]
  · intro j p hj
    refine wpAny_bind (wpAny_rule (wpAny_bind (wpAny_updateDict (s := { s with toks:=tk }) ho hd (wpAny_point (hQ _ _ ⟨_,_,ep,Heap.get?_update_self _ ho (Obj.isFreed_of_dict (Obj.data_mapDict hd _)),hc.mapDict _,Obj.data_mapDict hd _, ?_,hall _ (Heap.SameBut.update ..),putX_nd he.nd⟩ (Heap.SameBut.update ..))))))
    rw [putX_old (kd.ent w) (fun e : DictEntry => { e with val:=v }) (fun _ _=>rfl) he.nd hj, ← he.es]
    obtain ⟨l⟩:=es
    simp
end
end PySem
namespace L2
open PySem PySem.Spec PyProof.Rows PySem.W
mutual
inductive KeyAt (H:Hp):PyData→V→Prop
 | non:KeyAt H .none .non
 | int (i:Int):KeyAt H (.int i) (.int i)
 | str (x:Str):KeyAt H (.str x) (.str x)
 | tup {a:Addr}{vs:List V}{ds:List PyData}:H a=some (.tup vs)→KeysAt H ds vs→KeyAt H (.tuple ds) (.ref a)
inductive KeysAt (H:Hp):List PyData→List V→Prop
 | nil:KeysAt H [] []
 | cons {d:PyData}{v:V}{ds:List PyData}{vs:List V}:KeyAt H d v→KeysAt H ds vs→KeysAt H (d::ds) (v::vs)
end
theorem KeyAt.keeps {H H':Hp}(ht:∀b xs,H b=some (.tup xs)→H' b=some (.tup xs)):∀(n:Nat)(d:PyData),kOk n d=true→∀{v:V},KeyAt H d v→KeyAt H' d v:=by
 intro n
 induction n with
 | zero =>
  intro d hd v k
  cases k with
  | non=>exact .non
  | int i=>exact .int i
  | str x=>exact .str x
  | tup=>simp[kOk]at hd
 | succ n ih =>
  intro d hd v k
  cases k with
  | non=>exact .non
  | int i=>exact .int i
  | str x=>exact .str x
  | @tup a vs ds e ks =>
   have hx:∀x∈ds,kOk n x=true:=List.all_eq_true.mp (by simpa[kOk]using hd)
   have all:∀{ds:List PyData}{vs:List V},(∀x∈ds,kOk n x=true)→KeysAt H ds vs→KeysAt H' ds vs:=by
    intro ds
    induction ds with
    | nil=>intro vs _ k;cases k;exact .nil
    | cons d ds ih2 =>
     intro vs hx k
     cases k with
     | cons k1 k2=>exact .cons (ih d (hx d List.mem_cons_self) k1) (ih2 (fun x hh=>hx x (List.mem_cons_of_mem _ hh)) k2)
   exact .tup (ht _ _ e) (all hx ks)
section
variable {K:Type} [DecidableEq K]
def KsIn (H:Hp)(kd:KD K)(kvs:List (K×V×V)):Prop:=∀p∈kvs,KeyAt H (kd.dat p.1) p.2.1
theorem KsIn.keeps {H H':Hp}{kd:KD K}{kvs:List (K×V×V)}(k:KsIn H kd kvs)(ht:∀b xs,H b=some (.tup xs)→H' b=some (.tup xs)):KsIn H' kd kvs:=fun p hp=>(k p hp).keeps ht 8 _ (kd.ok p.1)
variable {X:Cx}{pins:List (Addr×Obj)}{σ:St}{H:Hp}{s:Shared}{a:Addr}{kd:KD K}{kvs:List (K×V×V)}{k:K}{y v d:V}{u r:Value}{A:Around}{E:Value→Shared→Prop}
end
end L2
namespace L2
open PySem PySem.Spec PyProof.Rows PySem.W
section
variable {K:Type} [DecidableEq K]
variable {X:Cx}{o i e f value:Expr}{pos pos' apos cpos:Pos}{td ty tx tv:TE}(kd:KD K)
end
end L2
namespace PyProof.Rows
open PySem PySem.Spec
section
variable {prog:Program}{w:World}{A:Around}{E:Value→Shared→Prop}
end
end PyProof.Rows
namespace L2
open PySem PySem.Spec PyProof.Rows PySem.W
section
variable {X:Cx}{pos:Pos}
end
end L2
namespace L2
open PySem PySem.Spec PyProof.Rows
section
variable {M:Model}{A:Around}{E:Value→Shared→Prop}{s:Shared}{B:Heap}{env:Env}{outer:List Env}{L e:Addr}{cls c:Value}{Q:Unit→Shared→Prop}
theorem fl_landV {l : List Env} {fl : Value} (fr : Option Addr) (x : Fl B l e cls c fl s.heap) (q : ∀ g,Fl B l e cls c (fr.elim Value.none fun f=>rawInt f) g→s.heap.UpToSlots g→Q () { s with heap:=g }) : wpAny M A (setFlight (.ref e) fr) Q E s:=by
  obtain ⟨sB,eB,fF,oe,vs,T,oT,ts,e1,ek,ed,ec,et,tB,tn,t1,td,t3⟩:=x
  have z3 : 3 < ts.size:=(Array.getElem?_eq_some_iff.mp t3).1
  have oth : ∀ b,b≠T→(s.heap.update T (Obj.mapFields (·.setIfInBounds 3 (fr.elim Value.none fun f=>rawInt f)))).get? b = s.heap.get? b:=fun b n=>Heap.get?_update_other _ _ (Ne.symm n)
  have rec0 : ∀ b o,s.heap.get? b = some o→(∀ ws,o.data ≠ .fields ws)→b≠T:=fun b o y n z=>by
    subst z; rw [t1] at y; cases y; exact n ts td
  unfold setFlight
  refine wpAny_bind (wpAny_field e1 ed et ?_)
  rw [if_pos (show (Value.ref T != Value.none) = true by simp)]
  refine wpAny_setField t1 td z3 (q _ ⟨fun b o y=>(oth b fun z=>by subst z; rw [tB] at y; cases y).trans (sB b o y),eB,fF.of_keeps fun b o y n=>⟨o,(oth b (rec0 b o y n)).trans y,rfl⟩,oe,vs,T,_,_,(oth e (Ne.symm tn)).trans e1,ek,ed,ec,et,tB,tn,Heap.get?_update_self _ t1 (Obj.isFreed_of_fields (Obj.data_mapFields td _)),Obj.data_mapFields td _, ?_⟩ fun b o y n=>⟨o.slots,(oth b (rec0 b o y n)).trans y⟩)
  simp [z3]
theorem fl_noteV {fl : Value} (fA : A.frames = some (env :: outer)) (fL : env.frame = some L) (x : Fl B (env :: outer) e cls c fl s.heap)
    (q : ∀ g,Fl B (env :: outer) e cls c (rawInt L) g→s.heap.UpToSlots g→Q () { s with heap:=g }) : wpAny M A (noteFrame (.ref e) env) Q E s:=by
  obtain ⟨sB,eB,fF,oe,vs,T,oT,ts,e1,rfl,ed,ec,et,tB,tn,t1,td,t3⟩:=id x
  unfold noteFrame
  simp only [fL]
  refine wpAny_bind (wpAny_field e1 ed et ?_)
  rw [if_pos (show (Value.ref T != Value.none) = true by simp)]
  refine wpAny_bind (wpAny_field t1 td t3 ?_)
  by_cases hfl : (fl == rawInt L) = true
  · rw [if_pos hfl]
    have e2 : fl = rawInt L:=eq_of_beq hfl
    rw [e2] at x
    exact wpAny_pure (q s.heap x fun b o z _=>⟨o.slots,z⟩)
  rw [if_neg hfl]
  refine wpAny_bind (wpAny_setField t1 td (Array.getElem?_eq_some_iff.mp t3).1 ?_)
  have oth : ∀ b,b≠T→(s.heap.update T (Obj.mapFields (·.setIfInBounds 3 Value.none))).get? b = s.heap.get? b:=fun b n=>Heap.get?_update_other _ _ (Ne.symm n)
  have rec0 : ∀ b o,s.heap.get? b = some o→(∀ ws,o.data ≠ .fields ws)→b≠T:=fun b o y n z=>by
    subst z; rw [t1] at y; cases y; exact n ts td
  refine fl_entry (s := { s with heap:=s.heap.update T (Obj.mapFields (·.setIfInBounds 3 Value.none)) }) fA (fF.of_keeps fun b o y n=>⟨o,(oth b (rec0 b o y n)).trans y,rfl⟩) fL ((oth e (Ne.symm tn)).trans e1) (fun b o y=>(oth b fun z=>by subst z; rw [tB] at y; cases y).trans (sB b o y)) eB ed ec
    fun g y1 y2=>q g y1 fun b o z n=>y2 b o ((oth b (rec0 b o z n)).trans z) n
theorem fl_leaveV {fl:Value}(fA:A.frames=some (env::outer))(fL:env.frame=some L)(x:Fl B (env::outer) e cls c fl s.heap)
  (q:∀g,Fl B outer e cls c .none g→s.heap.UpToSlots g→Q () { s with heap:=g }):wpAny M A (leaving env (.ref e)) Q E s:=by
 unfold leaving
 exact wpAny_bind (fl_noteV fA fL x fun g1 y1 u1=>fl_land (s:={ s with heap:=g1 }) y1 fun g2 y2 u2=>q g2 y2.rest (u1.trans u2))
end
theorem ff_but {g h' B B':Heap}(hB:∀b,B.get? b=none→B'.get? b=none)(k:∀b o,B.get? b=none→g.get? b=some o→h'.get? b=some o):∀{l:List Env},g.FunFrames B l→h'.FunFrames B' l
 | [],_=>trivial
 | _::_,⟨hk,⟨L,o,hf,hn,ho,hd⟩,hr⟩=>⟨hk,⟨L,o,hf,hB _ hn,k _ _ hn ho,hd⟩,ff_but hB k hr⟩
def ErrArm (M:Model)(A:Around)(XE:Value→Shared→Prop)(C:Addr)(x:Value)(s':Shared):Prop:=∃m,s'.heap.Ns C m∧∀h',Heap.SameBut C s'.heap h'→∀cenv:Env,cenv.locals=C→wpAny M A (PySem.passOn "comprehension.variables-let-go" x cenv:Sem Value) (fun _ _=>False) XE { s' with heap:=h' }
section
variable {P:Program}{w:World}{K:PySem.W.Frag}{mg:Str→Option Value}{base:Heap}{N:List Str}{qual:Str}{scope:Scope}{f:Addr}{cd:Value}{A:Around}{outer:List Env}{s:Shared}{H:Hp}{E:XK}
theorem cx_compX {scope':Scope}{N':List Str}{C:Addr}{fp:List Addr}{pins pl:List (Addr×Obj)}{σ0 σ:St}{s2 s1:Shared}{H2 H1:Hp}(I2:Inv (cxOf (CXR P w) P w K mg base N qual scope f cd A outer s H E) pins σ0 H2 s2)(hC:s2.heap.objs.size≤C)(f2:∀b∈fp,FpOk (cxOf (CXR P w) P w K mg base N qual scope f cd A outer s H E) pins H2 b)
  (I:Inv ((cxOf (CXR P w) P w K mg base N qual scope f cd A outer s H E).comp scope' N' C fp pins s2 H2) pl σ H1 s1){e:Value}{s':Shared}(h:CXR P w (cxOf (CXR P w) P w K mg base N qual scope f cd A outer s H E).stack H1 s1 E e s') :
  notedBy (model P w) (A.deeper (envOfC qual scope s.heap.objs.size f cd)) (envOfC qual scope s.heap.objs.size f cd) (ErrArm (model P w) (A.deeper (envOfC qual scope s.heap.objs.size f cd)) (cxOf (CXR P w) P w K mg base N qual scope f cd A outer s H E).xe C) e s':=by
 obtain⟨x,Ce,c,B,H',rfl,F,q⟩:=h
 have noex:∀b:Addr,b∉(cxOf (CXR P w) P w K mg base N qual scope f cd A outer s H E).ex:=fun b z=>absurd (show b∈([]:List Addr)from z) (by simp)
 have notF:∀b o,s.heap.get? b=some o→b∉frs outer→b∉frs (envOfC qual scope s.heap.objs.size f cd::outer):=fun b o e hb z=>by
  rcases List.mem_cons.mp (I2.stkSub b z)with y|y
  ·exact absurd (Heap.lt_size e) (by rw[y];exact Nat.lt_irrefl _)
  ·exact hb y
 have ge2:s.heap.objs.size≤s2.heap.objs.size:=Nat.le_trans (show s.heap.objs.size≤(cxOf (CXR P w) P w K mg base N qual scope f cd A outer s H E).env.locals from I2.ok.above) (Nat.le_of_lt I2.lt)
 have notP:∀b o,s.heap.get? b=some o→b∉fp:=fun b o e hb=>by
  rcases(f2 b hb).2.2.2.1 with z|z
  ·exact noex b z
  ·exact absurd (Heap.lt_size e) (Nat.not_lt.mpr z)
 have neC:∀b o,s.heap.get? b=some o→b≠C:=fun b o e z=>by
  have y:=Heap.lt_size e
  rw[z]at y
  exact absurd (Nat.lt_of_lt_of_le y (Nat.le_trans ge2 hC)) (Nat.lt_irrefl _)
 obtain⟨m,⟨oC,es,ep,hoC,r⟩,_⟩:=I.loc
 have nC:H1 C=none:=I.free
 have CF:C∉frs (envOfC qual scope s.heap.objs.size f cd::outer):=fun z=>by
  obtain⟨_,o,ho,_⟩:=I2.stack.mem z
  exact absurd (Heap.lt_size ho) (Nat.not_lt.mpr hC)
 have hB:B.get? C=some oC:=F.k1 C oC hoC nC CF
 have hC':H' C=none:=F.free C oC hoC nC
 refine fl_noteV (outer:=outer) (L:=s.heap.objs.size) I2.ok.frames rfl F.fly fun g fl up=>?_
 refine⟨m,⟨oC,es,ep,fl.1 C oC hB,r⟩,fun h' sb cenv hcenv=>?_⟩
 have neB:∀b,B.get? b=none→b≠C:=fun b e z=>by rw[z,hB]at e;cases e
 have sub:∀b,B.get? b=none→(PySem.W.hideAll B [C]).get? b=none:=fun b e=>by
  cases z:(PySem.W.hideAll B [C]).get? b with
  | none=>rfl
  | some o=>rw[PySem.W.of_hideAll _ z]at e;cases e
 have hideNe:∀b o,(PySem.W.hideAll B [C]).get? b=some o→b≠C:=fun b o e z=>by
  rw[z,PySem.W.hideAll_none [C] (by simp)]at e
  cases e
 have fl':Fl (PySem.W.hideAll B [C]) (envOfC qual scope s.heap.objs.size f cd::outer) x (.ref Ce) c (rawInt s.heap.objs.size) h':=by
  obtain⟨sB,eB,fF,oe,vs,T,oT,ts,e1,ek,ed,ec,et,tB,tn,t1,td,t3⟩:=fl
  exact⟨fun b o z=>(sb.2 b (hideNe b o z)).trans (sB b o (PySem.W.of_hideAll _ z)),sub x eB,ff_but sub (fun b o n z=>(sb.2 b (neB b n)).trans z) fF,oe,vs,T,oT,ts,(sb.2 x (neB x eB)).trans e1,ek,ed,ec,et,sub T tB,tn,(sb.2 T (neB T tB)).trans t1,td,t3⟩
 unfold PySem.passOn
 obtain⟨oe,vs,T,oT,ts,e1,ek,ed,ec,et,_⟩:=fl'.2.2.2
 refine wpAny_bind (wpAny_field (s:={ s' with heap:=h' }) e1 ed et ?_)
 rw[if_neg (show ¬(Value.ref T==Value.none)=true by simp)]
 refine wpAny_bind (fl_landV (s:={ s' with heap:=h' }) cenv.frame fl' fun g2 fl2 up2=>wpAny_throw ?_)
 show wpAny _ _ (leaving (envOfC qual scope s.heap.objs.size f cd) (.ref x)) _ _ _
 refine fl_leaveV (s:={ s' with heap:=g2 }) (outer:=outer) (L:=s.heap.objs.size) I2.ok.frames rfl fl2 fun h3 fl3 up3=>⟨x,Ce,c,PySem.W.hideAll B [C],H',rfl,⟨fl3,F.os.trans (I.os.trans I2.os),F.bare,fun b o e n hb=>?_,fun b o e n hb=>?_,fun b o e hb=>?_,fun b o e n=>?_,fun b xs e=>F.tups b xs (I.base.tups b xs (I2.base.tups b xs e)),fun b o u e=>F.frzs b o u (I.base.frzs b o u (I2.base.frzs b o u e)),fun b ps e=>?_,?_,F.new,?_⟩,q⟩
 ·have b1:=I2.base.keep b o e n hb (noex b)
  have b2:=I2.base.free b o e n (noex b)
  have b3:=I.base.keep b o b1 b2 (notF b o e hb) (notP b o e)
  have b4:=I.base.free b o b1 b2 (notP b o e)
  exact PySem.W.hideAll_get _ (F.k1 b o b3 b4 (notF b o e hb)) (by simpa using neC b o e)
 ·obtain⟨sl1,b1⟩:=I2.base.slot b o e n hb (noex b)
  have b2:=I2.base.free b o e n (noex b)
  have hb':b∈frs (envOfC qual scope s.heap.objs.size f cd::outer):=frs_cons hb
  obtain⟨sl2,b3⟩:=I.base.slot b _ b1 b2 hb' (notP b o e)
  have b4:=I.base.free b _ b1 b2 (notP b o e)
  obtain⟨sl3,b5⟩:=F.k2 b _ b3 b4 hb'
  obtain⟨_,o2,ho2,nf2⟩:=F.fly.2.2.1.mem hb'
  rw[b5]at ho2;cases ho2
  obtain⟨sl4,b6⟩:=up b _ b5 nf2
  have b7:=(sb.2 b (neC b o e)).trans b6
  obtain⟨sl5,b8⟩:=up2 b _ b7 nf2
  obtain⟨sl6,b9⟩:=up3 b _ b8 nf2
  exact⟨sl6,b9⟩
 ·obtain⟨o1,b1⟩:=I2.base.there b o e (noex b)
  obtain⟨o2,b2⟩:=I.base.there b o1 b1 (notP b o e)
  obtain⟨o3,b3⟩:=F.k3 b o2 b2 (notF b o e hb)
  exact⟨o3,PySem.W.hideAll_get _ b3 (by simpa using neC b o e)⟩
 ·obtain⟨o1,b1⟩:=I2.base.there b o e (noex b)
  obtain⟨o2,b2⟩:=I.base.there b o1 b1 (notP b o e)
  exact F.free b o2 b2 (I.base.free b o1 b1 (I2.base.free b o e n (noex b)) (notP b o e))
 ·obtain⟨m1,q1⟩:=I2.base.tbls b ps e
  obtain⟨m2,q2⟩:=I.base.tbls b _ q1
  obtain⟨m3,q3⟩:=F.tbls b _ q2
  exact⟨m1++m2++m3,by rw[q3,Array.append_assoc,Array.append_assoc,Array.append_assoc]⟩
 ·intro a u ea
  refine(F.hok a u ea).stay (fun b o hb z=>PySem.W.hideAll_get _ z ?_) (fun _ z=>z) fun _ _ z=>z
  rcases hb with y|y
  ·rw[y]
   simp only[List.mem_singleton]
   intro z
   rw[z,hC']at ea
   cases ea
  ·simp only[List.mem_singleton]
   intro z
   rw[z,hC']at y
   cases y
 ·obtain⟨n,ch⟩:=F.ch
  refine⟨n,ch.imp fun a o ws na ea da=>⟨PySem.W.hideAll_get _ ea ?_,na⟩⟩
  simp only[List.mem_singleton]
  intro z
  rw[z,hB]at ea
  cases ea
  rw[r.1]at da
  cases da
end
section
variable {prog:Program}{w:World}{A:Around}{R:Result→Shared→Prop}{s:Shared}
theorem comp_loopX {elt tg iter:Expr}{ifs:List Expr}{scope:Scope}{pos:Pos}{it acc:Value}{env:Env}(I:Nat→Shared→Prop)
  (turn:∀n s,I n s→wpAny (model prog w) A (pyNext it) (fun r s1=>match r with
   | none=>R (.ok .next) s1
   | some v=>wpAny (model prog w) A (letOwnedTupleGo tg it v) (fun _ s2=>wpAny (model prog w) A (assign tg env v) (fun _ s3=>wpAny (model prog w) A (L3.testsOf ifs env) (fun ok s4 =>
     if ok=true then wpAny (model prog w) A (eval elt env) (fun x s5=>wpAny (model prog w) A (call (.builtin "list.append") [acc,x]) (fun _ s6=>∃m,m<n∧I m s6) (notedBy (model prog w) A env fun x s'=>R (.error x) s') s5) (notedBy (model prog w) A env fun x s'=>R (.error x) s') s4
     else ∃m,m<n∧I m s4) (notedBy (model prog w) A env fun x s'=>R (.error x) s') s3) (notedBy (model prog w) A env fun x s'=>R (.error x) s') s2) (notedBy (model prog w) A env fun x s'=>R (.error x) s') s1) (notedBy (model prog w) A env fun x s'=>R (.error x) s') s)
  (n:Nat)(h:I n s):codeAny (model prog w) A (.compLoop (.ListComp elt [⟨tg,iter,ifs,0⟩] scope pos) 0 it acc env) R s:=by
 refine codeAny_loop rfl I (fun n s hI=>?_) n h
 show wpAny _ A ((compTurn (.ListComp elt [⟨tg,iter,ifs,0⟩] scope pos) 0 it acc env).onRaise (fun x=>do noteFrame x env;theTreesLotGoes x)) _ _ s
 refine wpAny_noted ?_
 rw[compTurn_list]
 refine wpAny_bind (wpAny_standAt (wpAny_bind (wpAny_mono (turn n s hI) (fun r s1 h1=>?_) fun _ _ z=>z)))
 cases r with
 | none=>exact wpAny_pure h1
 | some v =>
  refine wpAny_bind (wpAny_mono h1 (fun _ s2 h2=>?_) fun _ _ z=>z)
  refine wpAny_bind (wpAny_mono h2 (fun _ s3 h3=>wpAny_bind (wpAny_mono h3 (fun ok s4 h4=>?_) fun _ _ z=>z)) fun _ _ z=>z)
  cases ok with
  | false=>exact wpAny_pure ⟨rfl,h4⟩
  | true =>
   refine wpAny_bind (wpAny_bind (wpAny_mono h4 (fun x s5 h5=>wpAny_bind (wpAny_mono h5 (fun _ s6 h6=>wpAny_pure (wpAny_pure ⟨rfl,h6⟩)) fun _ _ z=>z)) fun _ _ z=>z))
end
theorem comp_anyX {X:Cx}{elt tg iter:Expr}{ifs:List Expr}{scope:Scope}{pos pos':Pos}{wi:TI}{g:TG}{tt:TT}{te:TE}{sh:List Nat}{N':List Str}{more:Nat}(hcalm:X.calm=true)(hi:PI X tg iter wi)
  (hg:∀C fp pins s H,PG (X.comp scope N' C fp pins s H) tg g)(ht:∀C fp pins s H,PIf (X.comp scope N' C fp pins s H) ifs tt)(he:∀(C:Addr)(fp:List Addr)(pins:List (Addr×Obj))(s2:Shared)(H2:Hp)(σ0:St),Inv X pins σ0 H2 s2→s2.heap.objs.size≤C→(∀b∈fp,FpOk X pins H2 b)→PE ((X.comp scope N' C fp pins s2 H2).wish (notedBy (model X.prog X.w) X.A X.env (ErrArm (model X.prog X.w) X.A X.xe C))) elt te)
  (hc:L3.compOk X.env.scope scope X.N N' sh=true)(hm:N'.length=X.N.length+more)(hs:∀x,foldedSetIterable iter X.env x=pure x){Qv:Value→Shared→Prop}
  {pins:List (Addr×Obj)}{s:Shared}{σ:St}{H:Hp}{Q:VK}(I:Inv X pins σ H s)(h:tComp wi g tt te sh more σ H Q)
  (fin:∀(D C:Addr)(s2:Shared)(H2:Hp)(fp:List Addr)(pl:List (Addr×Obj))(σ4:St)(H4:Hp)(s4:Shared)(n:Nat)(ys:Array Value)(acc:List V),Inv X pins σ H2 s2→(∀b∈fp,FpOk X pins H2 b)→s2.heap.objs.size≤C→s2.heap.objs.size≤D→D≠C →
   Inv (X.comp scope N' C fp pins s2 H2) pl σ4 H4 s4→s4.heap.get? D=some { cls:=.type "list",data:=.seq ys n }→Vals acc ys.toList→H4 D=none→acc.length≤sizeLine→Q (.ref D) (upd H4 D (.lst acc))→compPost (model X.prog X.w) X.A X.xe none Qv (.ref D) C (.ok .next) s4) :
  wpAny (model X.prog X.w) X.A (comprehension (.ListComp elt [⟨tg,iter,ifs,0⟩] scope pos) scope X.env pos' (newList []) false (eval iter X.env) none) Qv X.xe s:=by
 have cp:=L3.compOk_parts hc
 refine wpAny_comprehension_free (cl:=L3.closL X.env.cells scope.names []) rfl hs (L3.closureFor_eq fun x hx hk=>?_) cp.kind cp.loc ?_
 ·obtain⟨c,q⟩:=I.ok.has x.1 (.inl (cp.free x hx hk))
  rw[q];rfl
 show wpAny _ X.A (eval iter X.env) _ _ s
 refine thn (hi pins s σ H _ I h) fun v s1 h1=>thn h1 fun itv s2 h2=>?_
 obtain⟨it,fp,tn,J,H2,e,I2,T,st2,f2,W,⟨m0,w0⟩,turn⟩:=h2
 subst e
 have hlt:∀b∈fp,b<s2.heap.objs.size:=fun b hb=>by
  obtain⟨o,q,_⟩:=T.obj 0 _ st2 b hb
  exact Heap.lt_size q
 refine wpAny_newObj_type (wpAny_newFunctionEnv cp.cell (by intro y hy;simp at hy) (fun h₁ hns hsb=>?_) cp.kind)
 dsimp only at hns hsb ⊢
 generalize hG:s2.heap.push { cls:=.type "list",dict:=none,data:=.seq ([]:List Value).toArray }=G at hns hsb ⊢
 have hz:G.objs.size=s2.heap.objs.size+1:=by rw[←hG,Heap.size_push]
 have hC:s2.heap.objs.size≤G.objs.size:=by omega
 have hDC:s2.heap.objs.size≠G.objs.size:=by omega
 have old:∀b o,s2.heap.get? b=some o→h₁.get? b=some o:=fun b o q=>by
  have hb:=Heap.lt_size q
  exact hsb.extBut b o (Nat.ne_of_lt (Nat.lt_of_lt_of_le hb hC)) (Heap.get?_push_of_some _ (hG▸Heap.get?_push_of_some _ q))
 have acc0:h₁.PlainList s2.heap.objs.size #[]:=⟨_,hsb.extBut _ _ hDC (Heap.get?_push_of_some _ (hG▸Heap.get?_push_size _ rfl))⟩
 have nfD:s2.heap.objs.size∉frs X.stack:=fun z=>by
  obtain⟨_,o,ho,_⟩:=I2.stack.mem z
  exact absurd (Heap.lt_size ho) (Nat.lt_irrefl _)
 have fpD:∀b∈fp,s2.heap.objs.size≠b:=fun b hb=>Nat.ne_of_gt (hlt b hb)
 have cD:∀x c,(L3.closL X.env.cells scope.names []).lookup x=some c→c≠s2.heap.objs.size:=fun x c q z=>by
  obtain⟨w',z'⟩:=I2.cell x c (comp_look q)
  rw[z]at z'
  exact absurd z'.lt (Nat.lt_irrefl _)
 have pnD:∀p∈X.pn++pins,p.1≠s2.heap.objs.size:=fun p hp z=>by
  have q:=(I2.pin p hp).1
  rw[z]at q
  exact absurd (Heap.lt_size q) (Nat.lt_irrefl _)
 have okX:(X.comp scope N' G.objs.size fp pins s2 H2).Ok:=comp_ok I2 cp hC f2 hlt
 -- the iterator's records,seen from the block
 have stat:∀{o:Obj}{H':Hp},(∀b∈fp,H' b=none)→∀b∈fp,FpOk (X.comp scope N' G.objs.size fp pins s2 H2) [(s2.heap.objs.size,o)] H' b:=fun {o H'} hn b hb=>by
  refine⟨hn b hb,(okX.exf b hb).1,okX.exfs b hb,.inl hb,(okX.exf b hb).2,fun p hp=>?_⟩
  rcases List.mem_append.mp hp with z|z
  ·exact(f2 b hb).2.2.2.2.2 p z
  ·have:p=(s2.heap.objs.size,o):=by simpa using z
   rw[this];exact fpD b hb
 -- the list so far,held as it is
 have hold:∀{σ':St}{H':Hp}{s':Shared}{o:Obj},Inv (X.comp scope N' G.objs.size fp pins s2 H2) [] σ' H' s'→s'.heap.get? s2.heap.objs.size=some o→H' s2.heap.objs.size=none→(∀v,o.data≠.cell v) →
   Inv (X.comp scope N' G.objs.size fp pins s2 H2) [(s2.heap.objs.size,o)] σ' H' s':=fun {σ' H' s' o} I' q n d=>I'.pins_of fun p hp=>by
  have:p=(s2.heap.objs.size,o):=by simpa using hp
  subst this
  exact⟨q,n,hDC,nfD,d⟩
 have loop:∀s₃:Shared,s₃={ s2 with heap:=h₁,toks:=s2.toks+([]:List (Str×Value)).length } →
   codeAny (model X.prog X.w) X.A (.compLoop (.ListComp elt [⟨tg,iter,ifs,0⟩] scope pos) 0 (.ref it) (.ref s2.heap.objs.size) (compEnvC scope (L3.closL X.env.cells scope.names []) G.objs.size X.env))
    (compPost (model X.prog X.w) X.A X.xe none Qv (.ref s2.heap.objs.size) G.objs.size) s₃:=by
  rintro s₃ rfl
  refine comp_loopX (fun n s'=>∃i acc ys σ' H',Inv (X.comp scope N' G.objs.size fp pins s2 H2) [] σ' H' s'∧tn i s'.heap∧(∀b∈fp,H' b=none)∧s'.heap.PlainList s2.heap.objs.size ys∧Vals acc ys.toList∧H' s2.heap.objs.size=none∧W i n acc σ' H') ?_ m0
   ⟨0,[],#[],_,H2,comp_in I2 cp hm hC f2 hlt old hns,T.keep _ _ _ st2 (fun b _ o q=>old b o q),fun b hb=>(f2 b hb).1,acc0,.nil,I2.hok.fresh (Nat.le_refl _),w0⟩
  rintro n s3 ⟨i,acc,ys,σ3,H3,I3,st3,fr3,⟨nn,gD⟩,va,fD,w3⟩
  have dD:∀v,({ cls:=.type "list",data:=.seq ys nn }:Obj).data≠.cell v:=fun v z=>by
   have z':Data.seq ys nn=Data.cell v:=z
   cases z'
  have I3':=hold I3 gD fD dD
  rcases turn i n acc σ3 H3 w3 with ⟨stop,hl,q⟩|⟨go,hl,N,hN,step⟩
  ·refine thn (wpAny_noRaise (T.done (X.comp scope N' G.objs.size fp pins s2 H2) rfl rfl rfl hcalm i _ s3 σ3 H3 (fun _ _=>False) I3' (stat fr3) st3 stop)) fun r s4 ⟨hr,I4⟩=>?_
   subst hr
   have g4:=(I4.pin (s2.heap.objs.size,_) (List.mem_append_right _ List.mem_cons_self)).1
   exact fin _ _ s2 H2 fp _ _ _ s4 _ _ acc I2 f2 hC (Nat.le_refl _) hDC I4 g4 va fD hl (q _ fD)
  ·refine thn (wpAny_noRaise (T.item (X.comp scope N' G.objs.size fp pins s2 H2) rfl rfl rfl hcalm i _ s3 σ3 H3 (fun _ _=>False) I3' (stat fr3) st3 go)) fun r s4 ⟨u,hr,h4⟩=>?_
   subst hr
   refine thn (wpAny_noRaise h4) fun _ s5 ⟨x,H5,I5,r5,y5,st5,fr5⟩=>?_
   have I5':=I5.pinned (stat fr5) (T.obj _ _ st5)
   refine thn (wpAny_noRaise (hg _ _ _ _ _ _ s5 σ3 H5 x u _ I5' r5 (step x H5 y5))) fun _ s6 ⟨σ6,H6,I6,q6⟩=>?_
   refine thn (wpAny_noRaise (ht _ _ _ _ _ _ s6 σ6 H6 _ I6 q6)) fun b s7 ⟨H7,I7,q7⟩=>?_
   have inD:∀{o:Obj},(s2.heap.objs.size,o)∈[(s2.heap.objs.size,o)]++pinsAt fp s5.heap:=List.mem_append_left _ List.mem_cons_self
   have turned:∀{σ':St}{H':Hp}{s':Shared},Inv (X.comp scope N' G.objs.size fp pins s2 H2) ([(s2.heap.objs.size,({ cls:=.type "list",data:=.seq ys nn }:Obj))]++pinsAt fp s5.heap) σ' H' s' →
     (∀b∈fp,∀o,s5.heap.get? b=some o→s'.heap.get? b=some o)∧∀b∈fp,H' b=none:=fun I'=>by
    refine⟨fun b hb o q=>(I'.pin (b,o) (List.mem_append_right _ (List.mem_append_right _ (mem_pinsAt hb q)))).1,fun b hb=>?_⟩
    obtain⟨o,q,_⟩:=T.obj _ _ st5 b hb
    exact(I'.pin (b,o) (List.mem_append_right _ (List.mem_append_right _ (mem_pinsAt hb q)))).2.1
   cases b with
   | false =>
    rw[if_neg Bool.false_ne_true]at q7 ⊢
    obtain⟨m',hm',w7⟩:=hN _ _ _ q7
    have p7:=I7.pin (s2.heap.objs.size,_) (List.mem_append_right _ inD)
    exact⟨m',hm',i+1,acc,ys,σ6,H7,I7.pins_of (fun p hp=>absurd hp (by simp)),T.keep _ _ _ st5 (turned I7).1,(turned I7).2,⟨nn,p7.1⟩,va,p7.2.1,w7⟩
   | true =>
    rw[if_pos rfl]at q7 ⊢
    refine thn (he _ _ _ _ _ _ I2 hC f2 _ s7 σ6 H7 _ (I7.wish _) q7) fun yv s8 ⟨y,H8,I8',r8,q8⟩=>?_
    have I8:=I8'.unwish
    obtain⟨m',hm',w8⟩:=hN _ _ _ q8
    have p8:=I8.pin (s2.heap.objs.size,_) (List.mem_append_right _ inD)
    have lenv:=va.length
    refine wpAny_list_append_plain (hsz:=by rw[←Array.length_toList,←lenv];exact Nat.le_of_lt hl) ⟨nn,p8.1⟩ fun h9 pl9 sb9=>?_
    have J8:Inv (X.comp scope N' G.objs.size fp pins s2 H2) [] σ6 H8 s8:=I8.pins_of fun p hp=>absurd hp (by simp)
    refine⟨m',hm',i+1,acc++[y],ys.push yv,σ6,H8,J8.turned (t':=s8.toks) (fun b o hb q=>(sb9.2 b hb).trans q) p8.2.1 hDC (.inr (Nat.le_refl _)) cD (fun p hp=>pnD p (by simpa[Cx.comp]using hp)),?_,(turned I8).2,pl9,?_,p8.2.1,w8⟩
    ·exact T.keep _ _ _ st5 fun b hb o q=>(sb9.2 b (fpD b hb).symm).trans ((turned I8).1 b hb o q)
    ·rw[Array.toList_push]
     exact va.append (.cons r8 .nil)
 exact codeAny_compStart_list (loop _ rfl) (T.self _ 0 _ _ _ (T.keep _ _ _ st2 fun b _ o q=>old b o q) (loop _ rfl))
theorem pe_compX {X:Cx}{elt tg iter:Expr}{ifs:List Expr}{scope:Scope}{pos:Pos}{wi:TI}{g:TG}{tt:TT}{te:TE}(sh:List Nat)(N':List Str)(more:Nat)(hcalm:X.calm=true)(hi:PI X tg iter wi)
  (hg:∀C fp pins s H,PG (X.comp scope N' C fp pins s H) tg g)(ht:∀C fp pins s H,PIf (X.comp scope N' C fp pins s H) ifs tt)(he:∀(C:Addr)(fp:List Addr)(pins:List (Addr×Obj))(s2:Shared)(H2:Hp)(σ0:St),Inv X pins σ0 H2 s2→s2.heap.objs.size≤C→(∀b∈fp,FpOk X pins H2 b)→PE ((X.comp scope N' C fp pins s2 H2).wish (notedBy (model X.prog X.w) X.A X.env (ErrArm (model X.prog X.w) X.A X.xe C))) elt te)
  (hc:L3.compOk X.env.scope scope X.N N' sh=true:=by rfl)(hm:N'.length=X.N.length+more:=by rfl)(hs:∀x,foldedSetIterable iter X.env x=pure x:=by intro _;rfl) :
  PE X (.ListComp elt [⟨tg,iter,ifs,0⟩] scope pos) (tComp wi g tt te sh more):=by
 intro pins s σ H Q I h
 rw[eval_ListComp]
 refine comp_anyX hcalm hi hg ht he hc hm hs I h fun D C s2 H2 fp pl σ4 H4 s4 n ys acc I2 f2 hC hD hDC I4 g4 va fD hl q=>?_
 obtain⟨m4,hn4,_⟩:=I4.loc
 exact⟨m4,hn4,fun h' sb=>⟨.ref D,_,comp_out I2 hC f2 I4 hD hDC g4 va fD hl sb,rfl,q⟩⟩
section
variable {P:Program}{w:World}{K:PySem.W.Frag}{mg:Str→Option Value}{base:Heap}{N:List Str}{qual:Str}{scope:Scope}{f':Addr}{cd:Value}{A:Around}{outer:List Env}{s₀:Shared}{H₀:Hp}{E:XK}
 {x:Str}{f:Addr}{fd:FuncData}{ps:List Str}{k k':Nat}{sp:Sp}{e:Expr}{es:List Expr}{t:TA}{p pos:Pos}{scope':Scope}{N':List Str}{C:Addr}{fp:List Addr}{pins:List (Addr×Obj)}{σ0:St}{s2:Shared}{H2:Hp}
noncomputable abbrev cxC (P:Program)(w:World)(K:PySem.W.Frag)(mg:Str→Option Value)(base:Heap)(N:List Str)(qual:Str)(scope:Scope)(f':Addr)(cd:Value)(A:Around)(outer:List Env)(s₀:Shared)(H₀:Hp)(E:XK)(scope':Scope)(N':List Str)(C:Addr)(fp:List Addr)(pins:List (Addr×Obj))(s2:Shared)(H2:Hp):Cx :=
 ((cxOf (CXR P w) P w K mg base N qual scope f' cd A outer s₀ H₀ E).comp scope' N' C fp pins s2 H2).wish (notedBy (model P w) (A.deeper (envOfC qual scope s₀.heap.objs.size f' cd)) (envOfC qual scope s₀.heap.objs.size f' cd) (ErrArm (model P w) (A.deeper (envOfC qual scope s₀.heap.objs.size f' cd)) (cxOf (CXR P w) P w K mg base N qual scope f' cd A outer s₀ H₀ E).xe C))
theorem cx_passC (I2:Inv (cxOf (CXR P w) P w K mg base N qual scope f' cd A outer s₀ H₀ E) pins σ0 H2 s2)(hC:s2.heap.objs.size≤C)(f2:∀b∈fp,FpOk (cxOf (CXR P w) P w K mg base N qual scope f' cd A outer s₀ H₀ E) pins H2 b):Passes (CXR P w) (cxC P w K mg base N qual scope f' cd A outer s₀ H₀ E scope' N' C fp pins s2 H2) E:=fun pl σ H1 s1 e s' I h=>cx_compX I2 hC f2 I.unwish h
theorem pe_fnXC (I2:Inv (cxOf (CXR P w) P w K mg base N qual scope f' cd A outer s₀ H₀ E) pins σ0 H2 s2)(hC:s2.heap.objs.size≤C)(f2:∀b∈fp,FpOk (cxOf (CXR P w) P w K mg base N qual scope f' cd A outer s₀ H₀ E) pins H2 b)(F:FnX P w K mg base x f fd ps k sp)(hr:Room k' (cxOf (CXR P w) P w K mg base N qual scope f' cd A outer s₀ H₀ E).A)(ha:PA (cxC P w K mg base N qual scope f' cd A outer s₀ H₀ E scope' N' C fp pins s2 H2) (e::es) t)(hk:k≤k':=by first|decide|exact Nat.le_refl _)(hg:Gl (cxC P w K mg base N qual scope f' cd A outer s₀ H₀ E scope' N' C fp pins s2 H2) x:=by rfl)(hdb:(x==("__debug__" : Str))=false:=by decide)
  (he:starEach (e::es) (cxC P w K mg base N qual scope f' cd A outer s₀ H₀ E scope' N' C fp pins s2 H2).env=(false,eval e (cxC P w K mg base N qual scope f' cd A outer s₀ H₀ E scope' N' C fp pins s2 H2).env)::starEach es (cxC P w K mg base N qual scope f' cd A outer s₀ H₀ E scope' N' C fp pins s2 H2).env:=by rfl)(hpl:(backTo pos (starEach es (cxC P w K mg base N qual scope f' cd A outer s₀ H₀ E scope' N' C fp pins s2 H2).env)).any (·.1)=false:=by rfl) :
  PE (cxC P w K mg base N qual scope f' cd A outer s₀ H₀ E scope' N' C fp pins s2 H2) (.Call (.Name x p) (e::es) [] pos) (tCall sp [] E t) :=
 pe_call F.ok (hr.mono hk) hg F.mg F.kp F.bd .nil (cx_passC I2 hC f2) ha hdb he hpl
end
end L2
namespace L2
open PySem PySem.Spec PyProof.Rows PySem.W
section
variable {K:Type} [DecidableEq K]
end
end L2
namespace PySem
open Sem (wp)
section
variable {prog:Program}{w:World}{K:Type} [DecidableEq K]{kd:KD K}{A:Around}{E:Value→Shared→Prop}{s:Shared}
end
end PySem
namespace L2
open PySem PySem.Spec PyProof.Rows PySem.W
section
variable {K:Type} [DecidableEq K]{kd:KD K}{X:Cx}{pins:List (Addr×Obj)}{σ:St}{H:Hp}{s:Shared}{A:Around}{E:Value→Shared→Prop}{a:Addr}{kvs:List (K×V×V)}{k:K}{y v d:V}{u r:Value}
end
section
variable {K:Type} [DecidableEq K](kd:KD K){X:Cx}{o e f:Expr}{apos cpos:Pos}{td ty tx:TE}
end
end L2
namespace L2
open PySem PySem.Spec PyProof.Rows PySem.W
section
variable {K:Type} [DecidableEq K](kd:KD K){X:Cx}
end
end L2
namespace L2
open PySem PySem.Spec PyProof.Rows PySem.W
section
variable {X:Cx}
end
end L2
set_option maxRecDepth 100000
namespace L2
open PySem PySem.Spec PyProof.Rows
noncomputable abbrev LamO (f:Addr)(qual:Str)(params:Arguments)(body:Expr)(scope:Scope)(clos:List (Str×Addr))(pm:Value)(c':Addr):HO :=
 .ext fun h=>∃ctv,h.get? f=some (PySem.W.kla_obj "<lambda>" qual params body scope clos pm c' ctv)
noncomputable def codeHdIn (K:PySem.W.Frag)(c P:Addr):Bool:=match K.lookup c with
 | some ⟨.type "code",_,.fields vs,_⟩=>(match (vs[11]?:Option Value),vs.getD 18 .none,vs.getD 7 .none,vs.getD 9 .none,vs.getD 10 .none with
   | some (Value.ref p),Value.str _ _,Value.int _ _,Value.bool _,Value.int _ _=>decide (p=P)&&decide (c≠P)
   | _,_,_,_,_=>false)
 | _=>false
structure LamEnv (X:Cx)(c P bm:Addr):Prop where
 code:X.env.code=.ref c
 hd:codeHdIn X.K c P=true
 mb:X.mg "__builtins__"=some (.ref bm)
 ob:X.K.lookup bm=some { cls:=.type "module",dict:=some builtinsNs }
 n1:bm≠builtinsNs
 n2:bm≠mainGlobals
structure LamOk (P:Program)(w:World)(K:PySem.W.Frag)(mg:Str→Option Value)(base:Heap)(CX:CXT)(k:Nat)(f:Addr)(n:Nat)(sp:Sp):Prop where
 len:∀vs H Q E,sp vs H Q E→vs.length=n
 run:∀(A:Around)(outer:List Env)(s:Shared)(H:Hp)(us:List Value)(vs:List V)(Q:VK)(E:XK),Room k A→Env0 P w K mg base A outer s H→Vals vs us→sp vs H Q E →
  codeAny (model P w) A (.call (.ref f) ⟨us,[]⟩) (CR CX outer P w H s Q E) s
end L2
namespace L2
open PySem PySem.Spec PyProof.Rows
end L2
namespace L2
open PySem PySem.Spec PyProof.Rows
def IsLam (H:Hp)(f:Addr):Prop:=∃qual params body scope clos pm c',H f=some (LamO f qual params body scope clos pm c')
theorem IsLam.at {P:Program}{w:World}{H:Hp}{h:Heap}{f:Addr}(x:IsLam H f)(ok:HOk P w H h):PySem.W.FnAt f h:=by
 obtain⟨qual,params,body,scope,clos,pm,c',e⟩:=x
 obtain⟨⟨ctv,z⟩,_⟩:=ok f _ e
 exact⟨_,_,_,_,z⟩
section
variable {X:Cx}{x:Str}{e:Expr}{es:List Expr}{t:TA}{p pos:Pos}
end
section
variable {X:Cx}
end
end L2
namespace L2
open PySem PySem.Spec PyProof.Rows
section
variable {X:Cx}{pins:List (Addr×Obj)}{σ:List (Option V)}{H:Hp}{s:Shared}
end
structure LmScope (ps:List Str)(x:Str)(sc:Scope):Prop where
 kind:sc.kind=.function
 co:sc.isCoroutine=false
 gen:sc.isGenerator=false
 nd:(ps++[x]).Nodup
 par:∀y∈ps,sc.names.lookup y=some .local
 nocell:∀y∈sc.names,y.2≠.cell
 free:∀y,sc.names.lookup y=some .free→y=x
 is:sc.names.lookup x=some .free
end L2
namespace L2
open PySem PySem.Spec PyProof.Rows
section
variable {X:Cx}
end
theorem passR0 {X:Cx}:Passes (CXR X.prog X.w) X E0:=fun _ _ _ _ _ _ _ h=>by
 obtain⟨_,_,_,_,_,_,_,z⟩:=h
 exact z.elim
section
variable {X:Cx}{x:Str}{f:Addr}{fd:FuncData}{ps:List Str}{k k':Nat}{sp:Sp}{e:Expr}{es:List Expr}{t:TA}{p pos:Pos}
end
end L2
set_option maxRecDepth 100000
namespace L2
open PySem PySem.Spec PyProof.Rows
def ExcP (e C:Addr)(h:Heap):Prop:=∃o,h.get? e=some o∧o.cls=.ref C∧∃ws,o.data=.fields ws
noncomputable def ExcO (e C:Addr):HO:=.ext (ExcP e C)
theorem ExcP.stays {e C:Addr}{h1 h2:Heap}(p:ExcP e C h1)(k:∀o,h1.get? e=some o→h2.get? e=some o):ExcP e C h2:=let ⟨o,a,b⟩:=p;⟨o,k o a,b⟩
section
variable {X:Cx}{pins:List (Addr×Obj)}{σ:St}{H:Hp}{s:Shared}{e C:Addr}
theorem Inv.adopt (I:Inv X pins σ H s)(n:H e=none)(he:ExcP e C s.heap)(nf:X.s₀.heap.get? e=none)(np:∀p∈X.pn++pins,p.1≠e):Inv X pins σ (upd H e (ExcO e C)) s:=by
 obtain⟨oe,h1,h2,ws,h3⟩:=id he
 have nl:X.env.locals≠e:=fun z=>by
  obtain⟨m,⟨o,es,ep,ho,hd,_⟩,_⟩:=I.loc
  rw[z,h1]at ho
  cases ho
  rw[h3]at hd
  cases hd
 have nc:∀x c,X.env.cells.lookup x=some c→c≠e:=fun x c hc z=>by
  obtain⟨v,o,ho,hd⟩:=I.cell x c hc
  rw[z,h1]at ho
  cases ho
  rw[h3]at hd
  cases hd
 refine⟨I.ok,I.os,I.bare,⟨I.base.keep,I.base.slot,fun b o q m hx=>?_,I.base.there,fun b xs q=>?_,fun b o u q=>?_,fun b ps q=>?_⟩,I.loc,I.cell,?_,fun x c hc=>?_,fun p hp=>?_,fun b v q=>?_,I.len⟩
 ·rw[upd_ne (fun z=>by rw[z,nf]at q;cases q)]
  exact I.base.free b o q m hx
 ·have y:=I.base.tups b xs q
  rw[upd_ne (ne_of_none y n)];exact y
 ·have y:=I.base.frzs b o u q
  rw[upd_ne (ne_of_none y n)];exact y
 ·obtain⟨more,y⟩:=I.base.tbls b ps q
  exact⟨more,by rw[upd_ne (ne_of_none y n)];exact y⟩
 ·rw[upd_ne nl];exact I.free
 ·rw[upd_ne (nc x c hc)];exact I.freeC x c hc
 ·obtain⟨a1,a2,a3⟩:=I.pin p hp
  exact⟨a1,by rw[upd_ne (np p hp)];exact a2,a3⟩
 ·by_cases hb:b=e
  ·subst hb
   rw[upd_same]at q
   cases q
   exact⟨he,⟨oe,h1⟩,fun h1 h2 p k=>p.stays k⟩
  ·rw[upd_ne hb]at q
   exact(I.hok b v q).stay (fun _ _ _ q=>q) (fun c q=>by rw[upd_ne (ne_of_none q n)];exact q) fun c xs q=>by rw[upd_ne (ne_of_none q n)];exact q
theorem goes_ok {M : Model} {A : Around} {E : Value→Shared→Prop} {i : Nat} {x : Str} {pos : Pos} {Q : Unit→Shared→Prop} (I : Inv X pins σ H s) (hN : X.N.Nodup) (hi : X.N[i]? = some x) (hx : X.env.scope.names.lookup x = some .local)
    (h : ∀ s',Inv X pins (σ.set i none) H s'→Q () s') : wpAny M A (do bindName X.env x .none; unbindBehindTheSuite X.env x pos) Q E s:=by
  obtain ⟨m,hn,hl⟩:=id I.loc
  have hp : (X.env.scope.kind == .class || (X.env.scope.kind == .module && X.env.locals != X.env.globals)) = false:=by rw [I.ok.kind]; rfl
  have hk : X.env.kindOf x = some .local:=hx
  have cne:=I.cne
  refine wpAny_bind (wpAny_bindName (wpAny_storeName_local hk hn (fun h₁ hn₁ hs₁ => ?_) hp))
  unfold unbindBehindTheSuite
  refine wpAny_onRaise ?_
  unfold unbindName
  refine wpAny_bind (wpAny_point (wpAny_bind ?_))
  unfold deleteName
  simp only [hk,hp]
  rw [if_neg (by decide)]
  refine wpAny_bind (wpAny_nsDel_keeps hn₁ fun h₂ v hn₂ hs₂ => ?_)
  simp only [if_true,Option.isSome_some,Bool.not_true,Bool.false_eq_true,if_false]
  have hs:=hs₁.trans hs₂
  obtain ⟨oL,_,_,hoL,_⟩:=id hn
  refine wpAny_pure (wpAny_point (h _ ⟨I.ok,I.os,I.bare,⟨fun b o e n hb hx => ?_,fun b o e n hb hx => ?_,I.base.free,fun b o e hx => ?_,I.base.tups,I.base.frzs,I.base.tbls⟩,⟨_,hn₂,fun j y v' e1 e2 e3 => ?_⟩,fun y c e => ?_,I.free,I.freeC,fun p hp => ?_,fun b ob e => ?_,by simpa using I.len⟩))
  · exact (hs.2 b (Nat.ne_of_lt (Nat.lt_of_lt_of_le (Heap.lt_size e) I.ok.above))).trans (I.base.keep b o e n hb hx)
  · obtain ⟨sl,e1⟩:=I.base.slot b o e n hb hx
    exact ⟨sl,(hs.2 b (Nat.ne_of_lt (Nat.lt_of_lt_of_le (Heap.lt_size e) I.ok.above))).trans e1⟩
  · obtain ⟨o',e1⟩:=I.base.there b o e hx
    exact ⟨o',(hs.2 b (Nat.ne_of_lt (Nat.lt_of_lt_of_le (Heap.lt_size e) I.ok.above))).trans e1⟩
  · by_cases hj : j = i
    · subst hj
      have hiσ : j < σ.length:=by rw [I.len]; exact (List.getElem?_eq_some_iff.mp hi).1
      rw [List.getElem?_set_self hiσ] at e2
      cases e2
    · rw [List.getElem?_set_ne (Ne.symm hj)] at e2
      obtain ⟨u',r',q⟩:=hl j y v' e1 e2 e3
      refine ⟨u',r', ?_⟩
      rcases q with ⟨k,e⟩ | ⟨k,c,e,z⟩
      · refine .inl ⟨k, ?_⟩
        have : y≠x:=fun e=>hj (nodup_ix hN e1 (e ▸ hi))
        simp [this,e]
      · exact .inr ⟨k,c,e,z.sameBut hs (cne y c e)⟩
  · obtain ⟨w',z⟩:=I.cell y c e
    exact ⟨w',z.sameBut hs (cne y c e)⟩
  · obtain ⟨e,n,ne,nf,d⟩:=I.pin p hp
    exact ⟨(hs.2 p.1 ne).trans e,n,ne,nf,d⟩
  · refine (I.hok b ob e).stay (fun c w' hc q=>(hs.2 c ?_).trans q) (fun _ q=>q) fun _ _ q=>q
    have hfree:=I.free
    rintro rfl
    rcases hc with rfl | hc
    · rw [hfree] at e; cases e
    · rw [hfree] at hc; cases hc
end
noncomputable def Ends.drop (D:Ends)(i:Nat):Ends:={ D with nx:=fun σ H=>D.nx (σ.set i none) H,ct:=fun σ H=>D.ct (σ.set i none) H,bk:=fun σ H=>D.bk (σ.set i none) H }
noncomputable def takeA (K:PySem.W.Frag)(mg:Str→Option Value)(C:Addr)(i:Nat)(t:TS)(D:Ends):St→XK:=fun σ' c _ H1=>∃x C' mro,c=.ref C'∧Exc K mg x C' mro∧mro.contains (.ref C)=true∧∀e,H1 e=none→t (D.drop i) (σ'.set i (some (.ref e))) (upd H1 e (ExcO e C'))
def tTryA (K:PySem.W.Frag)(mg:Str→Option Value)(te:List (Addr×Obj)→(Value→Shared→Prop)→(St→XK)→TS)(C:Addr)(i:Nat)(t:TS):TS:=fun D σ H=>∀ps Kx,te ps Kx (takeA K mg C i t D) D σ H
theorem SP.drop {X:Cx}{pins:List (Addr×Obj)}{D:Ends}{M:Model}{A:Around}{E:Value→Shared→Prop}{i:Nat}{x:Str}{pos:Pos}{f:Flow}{s:Shared}(h:SP X pins (D.drop i) f s)(hN:X.N.Nodup)(hi:X.N[i]?=some x)(hx:X.env.scope.names.lookup x=some .local) :
  wpAny M A (do bindName X.env x .none;unbindBehindTheSuite X.env x pos) (fun _ s'=>SP X pins D f s') E s:=by
 cases f with
 | next=>obtain⟨σ',H',I,q⟩:=h;exact goes_ok I hN hi hx fun s' I'=>⟨_,H',I',q⟩
 | brk=>obtain⟨σ',H',I,q⟩:=h;exact goes_ok I hN hi hx fun s' I'=>⟨_,H',I',q⟩
 | cont=>obtain⟨σ',H',I,q⟩:=h;exact goes_ok I hN hi hx fun s' I'=>⟨_,H',I',q⟩
 | ret u=>obtain⟨v,σ',H',I,r,q⟩:=h;exact goes_ok I hN hi hx fun s' I'=>⟨v,_,H',I',r,q⟩
theorem ps_tryA {X:Cx}{sts:List Stmt}{te:List (Addr×Obj)→(Value→Shared→Prop)→(St→XK)→TS}{x n:Str}{C:Addr}{mro:List Value}{b₀:Stmt}{suite:List Stmt}{hpos np pos:Pos}{ts:TS}(i:Nat)(he:∀ps Kx Ex,Pas X ps Kx Ex→PSs (X.tr ps Kx) sts (te ps Kx Ex))(O:Exc X.K X.mg x C mro)(hg:Gl X x)(hdb:(x==("__debug__" : Str))=false)
  (hN:X.N.Nodup)(hi:X.N[i]?=some n)(hx:X.env.scope.names.lookup n=some .local)(hs:∀e,PSs (X.caught e []).nox (b₀::suite) ts)(hf:X.env.frame=some X.env.locals)(hst:X.stack=X.env::X.outer)(hex:X.ex=[]) :
  PS X (.Try sts [.ExceptHandler (some (.Name x np)) (some n) (b₀::suite) hpos] [] [] pos) (tTryA X.K X.mg te C i ts):=by
 intro pins s σ H D I h
 refine wpAny_Try_except ?_
 have pas:Pas X pins (fun e s₂=>wpAny (model X.prog X.w) X.A (setFlight e none) (fun _ s₃=>wpAny (model X.prog X.w) X.A (handleBy e X.env [.ExceptHandler (some (.Name x np)) (some n) (b₀::suite) hpos]) (SP X pins D) X.xe s₃) X.xe s₂) (takeA X.K X.mg C i ts D):=by
  intro σ' H1 s2 ev s1 I1 q
  obtain⟨xa,C',c,B,H',rfl,F,nmx,C'',mro',ec,O',pk,qt⟩:=q
  cases ec
  have F':Flown X.prog X.w (X.env::X.outer) H1 s2 xa C' c B H' s1:=by
   have:Flown X.prog X.w X.stack H1 s2 xa C' c B H' s1:=F
   rw[hst]at this;exact this
  have hfr:X.A.frames=some (X.env::X.outer):=by rw[←hst];exact I.ok.frames
  have I1':Inv X pins σ' H1 s2:=I1
  refine fl_note hfr hf F'.fly fun h4 held4 up4=>?_
  refine fl_land (s:={ s1 with heap:=h4 }) held4 fun h5 fl5 up5'=>?_
  have up5:=up4.trans up5'
  have inv:∀{h:Heap},B.StaysIn h→s1.heap.UpToSlots h→Inv X pins σ' H' { s1 with heap:=h }:=fun {h} st up=>by
   have u:=F.un st up
   exact I1'.call' (s':={ s1 with heap:=h }) (ch:=[]) F.os u (F.hok.kept st) F.bare fun b z=>absurd z (by simp)
  have ok:=I.ok
  have eB:B.get? xa=none:=F.fly.2.1
  have nfr:xa∉frs X.stack:=fun z=>by
   obtain⟨_,o,ho,n'⟩:=F.fly.2.2.1.mem z
   obtain⟨oe,vs,_,_,_,g1,g2,g3,_⟩:=F.fly.2.2.2
   rw[g1]at ho
   cases ho
   exact n' vs g3
  have new2:s2.heap.get? xa=none:=by
   cases q:s2.heap.get? xa with
   | none=>rfl
   | some o =>
    obtain⟨o',y⟩:=F.k3 xa o q nfr
    rw[eB]at y
    cases y
  have new0:X.s₀.heap.get? xa=none:=by
   cases q:X.s₀.heap.get? xa with
   | none=>rfl
   | some o =>
    obtain⟨o',y⟩:=I1'.base.there xa o q (by rw[hex];simp)
    rw[new2]at y
    cases y
  have I5:Inv X pins σ' H' { s1 with heap:=h5 }:=inv fl5.1 up5
  refine wpAny_handleBy_cons (codeAny_handlers_test ?_) (by intro q;cases q)
  have Ic:Inv (X.caught xa []) pins σ' H' { s1 with heap:=h5 }:=I5.caught fun p hp=>absurd hp (by simp)
  refine wpAny_mono (E:=fun _ _=>False) (ld_glob Ic hg O.bound (Q:=fun c s'=>c=.ref C∧s'={ s1 with heap:=h5 }) ⟨rfl,rfl⟩ hdb) (fun c s' hc=>?_) fun _ _ z=>z.elim
  obtain⟨rfl,rfl⟩:=hc
  obtain⟨bm,N1,nm,q1,bs,hdct,sn,sub,ab,col,dd,k0,k1,k2,k3,k5,mN,hC,_,_,T,em⟩:=O'.obj I5.kIn
  obtain⟨bm',N1',nm',q1',bs',hdct',sn',sub',ab',col',dd',l0,l1,l2',l3,l5,mN',hC',_,_,T',em'⟩:=O.obj I5.kIn
  obtain⟨ob,vs5,_,_,_,hob,hobc,_⟩:=fl5.2.2.2
  refine exc_matches (oe:=ob) hC hC' hob hobc (T'.hasType PySem.F.excBase_ValueError.hasBase) ?_
  rw[←em,pk]
  refine codeAny_handlers_suite_as ?_
  refine fl_land (s:={ s1 with heap:=h5 }) fl5 fun h6 fl6 up6=>?_
  have I6:Inv X pins σ' H' { s1 with heap:=h6 }:=inv fl6.1 (up5.trans up6)
  obtain⟨oe,vs,_,_,_,g1,g2,g3,g4,_⟩:=fl6.2.2.2
  have Ic6:Inv (X.caught xa []).nox pins σ' H' { s1 with heap:=h6 }:=(I6.caught (e:=xa) (ps:=[]) fun p hp=>absurd hp (by simp)).wish _
  have np:∀p∈X.pn++pins,p.1≠xa:=fun p hp z=>by
   have a1:=(I1'.pin p hp).1
   rw[z,new2]at a1
   cases a1
  have Ia:Inv (X.caught xa []).nox pins σ' (upd H' xa (ExcO xa C')) { s1 with heap:=h6 }:=Ic6.adopt F.new ⟨oe,g1,g2,vs,g3⟩ new0 (fun p hp=>np p hp)
  refine store_ok2 (X:=(X.caught xa []).nox) (v:=.ref xa) Ia hN hi (.inl hx) rfl (fun s7 I7 _=>?_) (.inr hx)
  refine wpAny_mono (hs xa pins s7 _ _ _ I7 (qt xa F.new)) (fun f s8 q=>?_) fun _ _ q=>q.elim
  exact SP.drop (SP.uncaught ok (SP.unwish q)) hN hi hx
 refine wpAny_mono (he pins _ _ pas [] s σ H D (I.tr _) (h _ _)) (fun f s1 q=>?_) fun _ _ q=>q
 cases f with
 | next=>exact wpAny_execs_nil q.untr
 | ret v=>exact SP.untr q
 | brk=>exact SP.untr q
 | cont=>exact SP.untr q
section
variable {X:Cx}{x:Str}{f:Addr}{fd:FuncData}{ps:List Str}{k:Nat}{sp:Sp}{e:Expr}{es:List Expr}{t:TA}{p pos:Pos}
theorem pe_fnH (F:FnOkH X.prog X.w X.K X.mg X.base k f fd ps sp)(hm:X.mg x=some (.ref f))(hk:PySem.W.keepIn X.K (.ref f)=true)(hb:Binds X.K fd ps [])(hr:RoomH k X.A)(ha:PA X (e::es) t)(hg:Gl X x:=by rfl)(hdb:(x==("__debug__" : Str))=false:=by decide)
  (he:starEach (e::es) X.env=(false,eval e X.env)::starEach es X.env:=by rfl)(hpl:(backTo pos (starEach es X.env)).any (·.1)=false:=by rfl) :
  PE X (.Call (.Name x p) (e::es) [] pos) (tCall sp [] E0 t):=by
 intro pins s σ H Q I h
 refine wpAny_Call_Name_kw (ld_glob I hg hm ?_ hdb)
 refine PySem.W.callWith_K (h₀:=X.base) I.ok.mod.kin hk (thn (ha pos pins s σ H _ I h) fun us s1 ⟨vs,H1,I1,r,q⟩=>⟨I1.kIn,?_⟩) he hpl
 have q:sp (vs++[]) H1 Q E0:=q
 rw[List.append_nil]at q
 have hl:(us++([]:List Value)).length=ps.length:=by rw[List.append_nil,←r.length];exact F.len _ _ _ _ q
 have hb':=hb s1 us I1.kIn hl
 rw[List.append_nil]at hb'
 rw[List.nil_append]
 refine wpAny_call (codeAny_mono (F.run X.A X.stack s1 H1 ⟨us,[]⟩ us vs Q E0 hr I1.env0 hb' r q) fun r s' hq=>?_)
 cases r with
 | error e=>exact False.elim hq
 | ok fl =>
  cases fl with
  | ret u=>exact I1.after hq
  | next=>exact False.elim hq
  | brk=>exact False.elim hq
  | cont=>exact False.elim hq
end
end L2
namespace L2
open PySem PySem.Spec PyProof.Rows Builtin.ObjectAttr Builtin.Getset_descriptor PySem.SeqAt
section
variable {prog:Program}{w:World}{A:Around}{E:Value→Shared→Prop}{s:Shared}{K:PySem.W.Frag}{x D:Addr}
structure XCl (K:PySem.W.Frag)(D:Addr):Prop where
 gb:PySem.W.findIn K (.ref D) "__getattribute__"=some (some (.builtin "BaseException.__getattribute__"))
 ga:PySem.W.findIn K (.ref D) "__getattr__"=some none
 cl:PySem.W.findIn K (.ref D) "__class__"=some (some (.builtin "object.__class__"))
 sp:PySem.W.specialIn K (.builtin "object.__class__") "__get__"=some (some (.builtin "getset_descriptor.__get__"))
 tk:PySem.W.takesIn K (.builtin "object.__class__")=some true
 mr:PySem.W.mroIn K D (.type "object")=some true
 is:(PySem.W.clsIn K D).isSome=true
 mb:PySem.W.mroIn K D (.type "BaseException")=some true
theorem looks_findD {M:Model}{h:Heap}{a g:Value}{name:Str}(X:K.In h)(ha:PySem.W.findIn K (.ref D) name=some (some a))(hg:PySem.W.specialIn K a "__get__"=some (some g))(ht:PySem.W.takesIn K a=some true):PySem.W.Looks M h (find (.ref x) (.ref D) name) (.bind g a) :=
 (PySem.W.looks_findIn X ha).andThen ((PySem.W.looks_specialIn X hg).andThen (((PySem.W.looks_takesIn (M:=M) X ht).andThen .now:PySem.W.Looks M h (dataDescriptor? (some a) (some g)) (some (g,a))).andThen (PySem.W.Looks.tag .now)))
theorem looks_ty {M:Model}{h:Heap}{o:Obj}(h1:h.get? x=some o)(h2:o.cls=.ref D):PySem.W.Looks M h (typeOf (.ref x)) (.ref D):=h2▸(PySem.W.Looks.ld h1).andThen .now
open PySem.W in
theorem x_class {R:Result→Shared→Prop}{tp:Value}(X:K.In s.heap)(L0:∀M:Model,Looks M s.heap (typeOf (.ref x)) (.ref D))(Z:XCl K D)
  (h:R (.ok (.ret (.ref D))) s):codeAny (model prog w) A (.call (.builtin "getset_descriptor.__get__") ⟨[.builtin "object.__class__",.ref x,tp],[]⟩) R s:=by
 obtain⟨hh,g,dr,t,os⟩:=s
 have L0:=L0 (model prog w);have L1:=looks_mroIn (M:=model prog w) X Z.mr
 refine codeAny_call_builtin KF.slot_gs.plain KF.entry_gs (KF.slot_gs.check _ _ _ _ _ _ _ _ KF.type_class (KF.args_gs _ _ _) ?_);unfold Builtin.«getset_descriptor.__get__» descrGet
 rw[dga_obj];refine wpAny_bind (wpAny_pure ?_)
 unfold descrGetter descrCheckInstance descrNameAndClass isInstance;simp only[KF.owner_class]
 (repeat lk);refine⟨Code.quiet_builtin _ (by decide +kernel),codeAny_builtin KF.entry_class ?_⟩
 unfold Builtin.«object.__class__» shownTypeOf;(repeat lk);exact h
open PySem.W in
theorem x_check {M:Model}{nameV:Value}{Q:Unit→Shared→Prop}(X:K.In s.heap)(L0:∀M:Model,Looks M s.heap (typeOf (.ref x)) (.ref D))(Z:XCl K D)(hq:Q () s) :
  wpAny M A (checkBuiltinCall "BaseException.__getattribute__" ⟨[.ref x,nameV],[]⟩) Q E s:=by
 obtain⟨hh,g,d,t,os⟩:=s
 have l0:=L0 M;have l1:=looks_mroIn (M:=M) X Z.mb
 have hk:builtinKind "BaseException.__getattribute__"=some .slot:=by decide +kernel
 have hsplit:splitId "BaseException.__getattribute__"=some ("BaseException","__getattribute__"):=by decide +kernel
 have ha:=F.args_bexc_ga (.ref x) nameV
 simp only[checkBuiltinCall,hk,hsplit]
 refine wpAny_bind ?_
 unfold isInstance
 refine wpAny_bind (l0.at (l1.at ?_))
 repeat wp_step
 exact hq
open PySem.W in
theorem x_getclass {Q:Option Value→Shared→Prop}(X:K.In s.heap)(L0:∀M:Model,Looks M s.heap (typeOf (.ref x)) (.ref D))(Z:XCl K D)(h:Q (some (.ref D)) { s with toks:=s.toks+1 }):wpAny (model prog w) A (getAttr? (.ref x) "__class__") Q E s:=by
 obtain⟨hh,g,d,t,os⟩:=s
 have l0:=L0 (model prog w);have l1:=looks_findIn (M:=model prog w) X Z.gb;have l2:=looks_findD (M:=model prog w) (x:=x) X Z.cl Z.sp Z.tk;have l3:=looks_findIn (M:=model prog w) X Z.ga
 have hx2:(Value.builtin "BaseException.__getattribute__"==Value.builtin "object.__getattribute__")=false:=by decide +kernel
 have hx1:(onTheHeap (Value.ref D)&&Value.builtin "BaseException.__getattribute__"==Value.builtin "object.__getattribute__")=false:=by rw[hx2];rfl
 unfold getAttr? getAttrBy?;unfold getAttrBy
 refine wpAny_bind (wpAny_mkText (wpAny_bind (wpAny_attempt (wpAny_holding (wpAny_bind (l0.at (wpAny_bind (l1.at ?_))))))))
 show wpAny _ _ (if (onTheHeap (Value.ref D)&&Value.builtin "BaseException.__getattribute__"==Value.builtin "object.__getattribute__")=true then getAttrEveryday _ _ _ else getAttrByItsOwn (.ref x) _ (.ref D) (.builtin "BaseException.__getattribute__") _ _) _ _ (⟨hh,g,d,t+1,os⟩:Shared)
 rw[hx1,if_neg Bool.false_ne_true]
 unfold getAttrByItsOwn hookBefore
 refine wpAny_bind (l3.at (wpAny_bind (wpAny_attempt (wpAny_holding ?_))))
 show wpAny _ _ (boundAndCalled (.builtin "BaseException.__getattribute__") (.ref x) _) _ _ (⟨hh,g,d,t+1,os⟩:Shared)
 unfold boundAndCalled
 rw[F.attr_ValueError.ga.bind (.ref x)]
 refine wpAny_bind (wpAny_pure (wpAny_call (codeAny_call_builtin F.attr_ValueError.ga.plain F.entry_bexc_ga (x_check (s:=⟨hh,g,d,t+1,os⟩) X L0 Z ?_))))
 refine wpAny_bind (wpAny_pure (wpAny_bind (wpAny_pure (wpAny_bind (l0.at (wpAny_bind (l2.at ?_)))))))
 show wpAny _ _ (holding [_] (call _ [_,.ref x,.ref D]) >>= ret) _ _ (⟨hh,g,d,t+1,os⟩:Shared)
 refine wpAny_bind (wpAny_holding (wpAny_call (x_class (s:=⟨hh,g,d,t+1,os⟩) X L0 Z ?_)))
 exact wpAny_pure (wpAny_pure (wpAny_pure h))
end
theorem kitx_exc {K:PySem.W.Frag}{x D:Addr}(Z:XCl K D):PySem.W.KitX K (.ref x) (.ref D) (ExcP x D):=by
 obtain⟨cd,hc⟩:=Option.isSome_iff_exists.mp Z.is
 have ho:∃a b c,K.lookup D=some ⟨a,b,.cls cd,c⟩:=by
  unfold PySem.W.clsIn at hc
  split at hc
  ·rename_i h
   cases hc
   exact⟨_,_,_,h⟩
  ·cases hc
 obtain⟨oa,ob,oc,ho⟩:=ho
 refine⟨fun M h X ⟨o,a,b,_⟩=>looks_ty a b,fun M h X _=>?_,fun h tp dd its n sl X htp=>?_,fun X ⟨o,a,b,_⟩ k=>x_getclass X (fun M=>looks_ty a b) Z k⟩
 ·intro A' Q' E' s' k q
  unfold isType loadHead
  exact wpAny_bind (wpAny_loadPart (k _ _ (X _ _ ho)) (wpAny_pure q))
 ·refine Bool.eq_false_iff.mpr fun q=>?_
  have e:D=tp:=Value.ref.inj (beq_iff_eq.mp q)
  rw[←e]at htp
  have y:=(X _ _ ho).symm.trans htp
  cases y
theorem L3.bt_ValueError:bootBuiltins "ValueError"=some (.type "ValueError"):=by decide +kernel
theorem call_isiX {X:Cx}:CallR X (.builtin "isinstance") (fun xs H Q=>∃e C c b,((∃D,xs=[.ref e,.ref D]∧c=Value.ref D)∨∃n,xs=[.ref e,.ty n]∧c=Value.type n)∧H e=some (ExcO e C)∧XCl X.K C∧PySem.W.kitOne X.K (.ref C) c=some b∧Q (.bl b) H):=by
 intro pins s σ H xs us Q I r h
 obtain⟨e,C,c,b,hx,he,Z,hk,q⟩:=h
 have hp:ExcP e C s.heap:=(I.hok e _ he).1
 rcases hx with ⟨D,rfl,rfl⟩|⟨n,rfl,rfl⟩
 ·obtain⟨u1,u2,rfl,r1,r2⟩:=vals2 r
  cases (show u1=Value.ref e from r1)
  cases (show u2=Value.ref D from r2)
  exact PySem.W.kia_one (kitx_exc Z) I.kIn hp hk (fun z=>nomatch z) fun tk=>⟨.bl b,H,I.kept (t':=tk) fun _ _ e=>e,rfl,q⟩
 ·obtain⟨u1,u2,rfl,r1,r2⟩:=vals2 r
  cases (show u1=Value.ref e from r1)
  cases (show u2=Value.type n from r2)
  exact PySem.W.kia_one (kitx_exc Z) I.kIn hp hk (fun z=>nomatch z) fun tk=>⟨.bl b,H,I.kept (t':=tk) fun _ _ e=>e,rfl,q⟩
noncomputable def EqS (H:Hp):Nat→V→V→Prop
 | 0,_,_=>False
 | n+1,x,y=>(x=y∧((∃i,x=.int i)∨∃t,x=.str t))∨∃a b xs ys,x=.ref a∧y=.ref b∧((H a=some (.tup xs)∧H b=some (.tup ys))∨(H a=some (.lst xs)∧H b=some (.lst ys)))∧Paired (EqS H n) xs ys
section
variable {X:Cx}{pins:List (Addr×Obj)}{σ:St}{H:Hp}{s:Shared}
theorem prd_pts {R:V→V→Prop}{xs ys:List V}(h:Paired R xs ys):xs.length=ys.length∧∀(j:Nat)(x y:V),xs[j]?=some x→ys[j]?=some y→R x y:=by
 induction h with
 | nil=>exact⟨rfl,fun j x y e=>by simp at e⟩
 | cons r t ih =>
  refine⟨by rw[List.length_cons,List.length_cons,ih.1],fun j x y e1 e2=>?_⟩
  cases j with
  | zero=>simp at e1 e2;subst e1 e2;exact r
  | succ j=>exact ih.2 j x y (by simpa using e1) (by simpa using e2)
theorem eqAt_s (I:Inv X pins σ H s):∀(n:Nat){x y:V}{v u:Value}{A:Around},EqS H n x y→RelV x v→RelV y u→A.units+n<cLine→EqAt A s v u true:=by
 intro n
 induction n with
 | zero=>intro x y v u A h;exact h.elim
 | succ n ih =>
  intro x y v u A h rx ry hu
  have hA:A.in1.units+n<cLine:=by
   have:A.in1.units=A.units+1:=rfl
   omega
  have items:∀{xs ys:List V}{its its2:List Value},Paired (EqS H n) xs ys→Vals xs its→Vals ys its2→∀j (h1:j<its.toArray.size)(h2:j<its2.toArray.size),EqAt A.in1 s its.toArray[j] its2.toArray[j] true:=fun {xs ys its its2} p r1 r2 j h1 h2=>by
   obtain⟨hl,hp⟩:=prd_pts p
   have k1:=r1.length
   have k2:=r2.length
   rw[List.size_toArray]at h1 h2
   rw[List.getElem_toArray,List.getElem_toArray]
   obtain⟨w1,hw1,rw1⟩:=r1.get (i:=j) (x:=xs[j]) (List.getElem?_eq_getElem (by omega))
   obtain⟨w2,hw2,rw2⟩:=r2.get (i:=j) (x:=ys[j]) (List.getElem?_eq_getElem (by omega))
   rw[List.getElem?_eq_getElem h1]at hw1
   rw[List.getElem?_eq_getElem h2]at hw2
   rw[Option.some.inj hw1,Option.some.inj hw2]
   exact ih (hp j _ _ (List.getElem?_eq_getElem (by omega)) (List.getElem?_eq_getElem (by omega))) rw1 rw2 hA
  rcases h with ⟨rfl,h⟩|⟨a,b,xs,ys,rfl,rfl,h,hp⟩
  ·rcases h with ⟨i,rfl⟩|⟨t,rfl⟩
   ·obtain⟨t1,rfl⟩:=rx
    obtain⟨t2,rfl⟩:=ry
    have:=EqAt.int_int (A:=A) (s:=s) i t1 i t2
    rwa[beq_self_eq_true]at this
   ·obtain⟨t1,rfl⟩:=rx
    obtain⟨t2,rfl⟩:=ry
    have:=EqAt.str_str (A:=A) (s:=s) t t1 t t2
    rwa[beq_self_eq_true]at this
  ·cases (show v=Value.ref a from rx)
   cases (show u=Value.ref b from ry)
   by_cases c:a=b
   ·subst c
    exact EqAt.same _
   ·refine EqAt.of_refs c ?_
    obtain⟨hl,_⟩:=prd_pts hp
    rcases h with ⟨h1,h2⟩|⟨h1,h2⟩
    ·obtain⟨t1,w1,x1,_⟩:=I.tuple (SqT.of h1)
     obtain⟨t2,w2,x2,_⟩:=I.tuple (SqT.of h2)
     have:=RcAt.tuples (A:=A) (e:=fun _=>true) x1 x2 (by omega) (items hp w1 w2)
     have hz:(t1.toArray.size==t2.toArray.size)=true:=by
      rw[beq_iff_eq,List.size_toArray,List.size_toArray,←w1.length,←w2.length,hl]
     rw[hz,show(List.range (min t1.toArray.size t2.toArray.size)).all (fun _=>true)=true from List.all_eq_true.mpr fun _ _=>rfl]at this
     exact this
    ·obtain⟨t1,n1,w1,e1,_⟩:=I.lst h1
     obtain⟨t2,n2,w2,e2,_⟩:=I.lst h2
     have hz:t1.toArray.size=t2.toArray.size:=by rw[List.size_toArray,List.size_toArray,←w1.length,←w2.length,hl]
     have:=RcAt.lists (A:=A) (e:=fun _=>true) ⟨_,e1,rfl,n1,rfl⟩ ⟨_,e2,rfl,n2,rfl⟩ hz (by omega) (items hp w1 w2)
     rw[show(List.range t1.toArray.size).all (fun _=>true)=true from List.all_eq_true.mpr fun _ _=>rfl]at this
     exact this
end
theorem op_neS {X:Cx}(hu:X.A.units+64<cLine):OpR X (compareOp .NotEq) (fun x y H Q=>∃(n:Nat)(a b:Addr)(xs ys:List V),n≤8∧x=.ref a∧y=.ref b∧((H a=some (.tup xs)∧H b=some (.tup ys))∨(H a=some (.lst xs)∧H b=some (.lst ys)))∧Paired (EqS H n) xs ys∧Q (.bl false) H):=by
 intro pins s σ H x y v u Q I rx ry h
 obtain⟨n,a,b,xs,ys,hn,rfl,rfl,h,hp,q⟩:=h
 cases (show v=Value.ref a from rx)
 cases (show u=Value.ref b from ry)
 obtain⟨hl,hpt⟩:=prd_pts hp
 have items:∀{its its2:List Value},Vals xs its→Vals ys its2→∀j (h1:j<its.toArray.size)(h2:j<its2.toArray.size),EqAt X.A.in1 s its.toArray[j] its2.toArray[j] true:=fun {its its2} r1 r2 j h1 h2=>by
  have k1:=r1.length
  have k2:=r2.length
  rw[List.size_toArray]at h1 h2
  rw[List.getElem_toArray,List.getElem_toArray]
  obtain⟨w1,hw1,rw1⟩:=r1.get (i:=j) (x:=xs[j]) (List.getElem?_eq_getElem (by omega))
  obtain⟨w2,hw2,rw2⟩:=r2.get (i:=j) (x:=ys[j]) (List.getElem?_eq_getElem (by omega))
  rw[List.getElem?_eq_getElem h1]at hw1
  rw[List.getElem?_eq_getElem h2]at hw2
  rw[Option.some.inj hw1,Option.some.inj hw2]
  refine eqAt_s I n (hpt j _ _ (List.getElem?_eq_getElem (by omega)) (List.getElem?_eq_getElem (by omega))) rw1 rw2 ?_
  have:X.A.in1.units=X.A.units+1:=rfl
  omega
 rcases h with ⟨h1,h2⟩|⟨h1,h2⟩
 ·obtain⟨t1,w1,x1,_⟩:=I.tuple (SqT.of h1)
  obtain⟨t2,w2,x2,_⟩:=I.tuple (SqT.of h2)
  have hz:(t1.toArray.size==t2.toArray.size)=true:=by
   rw[beq_iff_eq,List.size_toArray,List.size_toArray,←w1.length,←w2.length,hl]
  refine SeqAt.RcNeAt.tuples (e:=fun _=>true) x1 x2 (by omega) (items w1 w2) X.prog X.w _ _ ?_
  rw[hz]
  have e0:(!((List.range (min t1.toArray.size t2.toArray.size)).all (fun _=>true)&&true))=false:=by simp
  rw[e0]
  exact⟨.bl _,H,I,rfl,q⟩
 ·obtain⟨t1,n1,w1,e1,_⟩:=I.lst h1
  obtain⟨t2,n2,w2,e2,_⟩:=I.lst h2
  have hz:t1.toArray.size=t2.toArray.size:=by rw[List.size_toArray,List.size_toArray,←w1.length,←w2.length,hl]
  refine SeqAt.RcNeAt.lists (e:=fun _=>true) ⟨_,e1,rfl,n1,rfl⟩ ⟨_,e2,rfl,n2,rfl⟩ hz (by omega) (items w1 w2) X.prog X.w _ _ ?_
  have e0:(!(List.range t1.toArray.size).all fun _=>true)=false:=by simp
  rw[e0]
  exact⟨.bl _,H,I,rfl,q⟩
end L2
set_option maxHeartbeats 4000000
namespace Lw
open PySem L2
structure PB (X:Cx)(es:List Expr)(t:TA):Prop where
 go:PA X es t
theorem pb_nil {X:Cx}:PB X [] tNil:=⟨pa_nil⟩
theorem pb_cons {X:Cx}{e:Expr}{es:List Expr}{te:TE}{t:TA}(ha:PE X e te)(hr:PB X es t)(hs:starEach (e::es) X.env=(false,eval e X.env)::starEach es X.env:=by rfl):PB X (e::es) (tCons te t):=⟨pa_cons ha hr.go hs⟩
structure PEW (X:Cx)(e:Expr)(t:TE):Prop where
 go:PE X e t
structure PPW (X:Cx)(pos:Pos)(keys:List (Option Expr))(values:List Expr)(trs:List (TE×TE)):Prop where
 go:PPs X pos keys values trs
theorem pbW {X:Cx}{e:Expr}{es:List Expr}{te:TE}{t:TA}(ha:PEW X e te)(hr:PB X es t)(hs:starEach (e::es) X.env=(false,eval e X.env)::starEach es X.env):PB X (e::es) (tCons te t):=⟨pa_cons ha.go hr.go hs⟩
theorem peW {X:Cx}{es:List Expr}{t:TA}{k:Nat}{pos:Pos}(h:PB X es t):PEW X (.Tuple es k pos) (tTup t):=⟨pe_tup h.go⟩
structure PSW (X:Cx)(st:Stmt)(t:TS):Prop where
 go:PS X st t
structure PSsW (X:Cx)(l:List Stmt)(t:TS):Prop where
 go:PSs X l t
theorem psW {X:Cx}{i:Nat}{x:Str}{e:Expr}{te:TE}{pos' pos:Pos}(hN:X.N.Nodup)(hi:X.N[i]?=some x)(hx:Loc X.env.scope x)(he:PEW X e te)(hs:swapsWith e (some (.Name x pos')) pos.line X.env=pure false:=by rfl)(hf:X.fn x=true∨X.env.scope.names.lookup x=some .local:=by first|exact .inl rfl|exact .inr rfl|assumption) :
  PSW X (.Assign [.Name x pos'] e pos) (tAsg te (gName i)):=⟨ps_set hN hi hx he.go hs hf⟩
theorem pssW_cons {X:Cx}{st:Stmt}{l:List Stmt}{t u:TS}(h1:PSW X st t)(h2:PSs X l u):PSsW X (st::l) (tSeq t u):=⟨pss_cons h1.go h2⟩
noncomputable def top (i:Nat):Stmt:=PySem.Challenge.pw_bitdraws_k39_whole_refusals.main.body.getD i (.Pass ⟨0,0,0,0⟩)
noncomputable abbrev s_Y22:Stmt:=top 14
noncomputable abbrev p_Y22:List Str:=["bits","draw","shape"]
theorem sc_Y22:FnScope ["bits","draw","shape","used_before"] ["bits","draw","shape"] (defScope s_Y22):=⟨rfl,rfl,rfl,by decide +kernel,rfl,by decide +kernel,by decide +kernel⟩
noncomputable abbrev s_Y35:Stmt:=top 15
noncomputable abbrev p_Y35:List Str:=["state"]
theorem sc_Y35:FnScope ["state"] ["state"] (defScope s_Y35):=⟨rfl,rfl,rfl,by decide +kernel,rfl,by decide +kernel,by decide +kernel⟩
noncomputable abbrev s_Y63:Stmt:=top 16
noncomputable abbrev p_Y63:List Str:=["seed","many"]
theorem sc_Y63:FnScope ["seed","many","state","row"] ["seed","many"] (defScope s_Y63):=⟨rfl,rfl,rfl,by decide +kernel,rfl,by decide +kernel,by decide +kernel⟩
noncomputable abbrev s_Y23:Stmt:=top 21
noncomputable abbrev p_Y23:List Str:=["bits","many"]
theorem sc_Y23:FnScope ["bits","many"] ["bits","many"] (defScope s_Y23):=⟨rfl,rfl,rfl,by decide +kernel,rfl,by decide +kernel,by decide +kernel⟩
noncomputable abbrev s_Y3:Stmt:=top 22
noncomputable abbrev p_Y3:List Str:=["bits","many"]
theorem sc_Y3:FnScope ["bits","many","width","number"] ["bits","many"] (defScope s_Y3):=⟨rfl,rfl,rfl,by decide +kernel,rfl,by decide +kernel,by decide +kernel⟩
noncomputable abbrev s_Y43:Stmt:=top 23
noncomputable abbrev p_Y43:List Str:=["many"]
theorem sc_Y43:FnScope ["many","width"] ["many"] (defScope s_Y43):=⟨rfl,rfl,rfl,by decide +kernel,rfl,by decide +kernel,by decide +kernel⟩
noncomputable abbrev s_Y32:Stmt:=top 24
noncomputable abbrev p_Y32:List Str:=["bits","width"]
theorem sc_Y32:FnScope ["bits","width","number","turn"] ["bits","width"] (defScope s_Y32):=⟨rfl,rfl,rfl,by decide +kernel,rfl,by decide +kernel,by decide +kernel⟩
noncomputable abbrev s_Y77:Stmt:=top 25
noncomputable abbrev p_Y77:List Str:=["bits","many"]
theorem sc_Y77:FnScope ["bits","many"] ["bits","many"] (defScope s_Y77):=⟨rfl,rfl,rfl,by decide +kernel,rfl,by decide +kernel,by decide +kernel⟩
noncomputable abbrev s_Y44:Stmt:=top 26
noncomputable abbrev p_Y44:List Str:=["bits","many"]
theorem sc_Y44:FnScope ["bits","many","number","size"] ["bits","many"] (defScope s_Y44):=⟨rfl,rfl,rfl,by decide +kernel,rfl,by decide +kernel,by decide +kernel⟩
noncomputable abbrev s_Y26:Stmt:=top 28
noncomputable abbrev p_Y26:List Str:=["place","many"]
theorem sc_Y26:FnScope ["place","many"] ["place","many"] (defScope s_Y26):=⟨rfl,rfl,rfl,by decide +kernel,rfl,by decide +kernel,by decide +kernel⟩
noncomputable abbrev s_Y14:Stmt:=top 29
noncomputable abbrev p_Y14:List Str:=["radices"]
theorem sc_Y14:FnScope ["radices","count","radix"] ["radices"] (defScope s_Y14):=⟨rfl,rfl,rfl,by decide +kernel,rfl,by decide +kernel,by decide +kernel⟩
noncomputable abbrev s_Y36:Stmt:=top 30
noncomputable abbrev p_Y36:List Str:=["radices","place"]
theorem sc_Y36:FnScope ["radices","place","figures","rest","radix"] ["radices","place"] (defScope s_Y36):=⟨rfl,rfl,rfl,by decide +kernel,rfl,by decide +kernel,by decide +kernel⟩
noncomputable abbrev s_Y1:Stmt:=top 31
noncomputable abbrev p_Y1:List Str:=["many"]
theorem sc_Y1:FnScope ["many"] ["many"] (defScope s_Y1):=⟨rfl,rfl,rfl,by decide +kernel,rfl,by decide +kernel,by decide +kernel⟩
noncomputable abbrev s_Y55:Stmt:=top 32
noncomputable abbrev p_Y55:List Str:=["many","place"]
theorem sc_Y55:FnScope ["many","place","left","row","figure"] ["many","place"] (defScope s_Y55):=⟨rfl,rfl,rfl,by decide +kernel,rfl,by decide +kernel,by decide +kernel⟩
noncomputable abbrev s_Y7:Stmt:=top 33
noncomputable abbrev p_Y7:List Str:=["many"]
theorem sc_Y7:FnScope ["many"] ["many"] (defScope s_Y7):=⟨rfl,rfl,rfl,by decide +kernel,rfl,by decide +kernel,by decide +kernel⟩
noncomputable abbrev s_Y56:Stmt:=top 35
noncomputable abbrev p_Y56:List Str:=["row","figures"]
noncomputable abbrev s_Y79:Stmt:=top 36
noncomputable abbrev p_Y79:List Str:=["many","some"]
theorem sc_Y79:FnScope ["many","some","count","turn"] ["many","some"] (defScope s_Y79):=⟨rfl,rfl,rfl,by decide +kernel,rfl,by decide +kernel,by decide +kernel⟩
noncomputable abbrev s_Y42:Stmt:=top 37
noncomputable abbrev p_Y42:List Str:=["many","some","place"]
theorem sc_Y42:FnScope ["many","some","place","count","behind","last_ones","numbers","lacking"] ["many","some","place"] (defScope s_Y42):=⟨rfl,rfl,rfl,by decide +kernel,rfl,by decide +kernel,by decide +kernel⟩
noncomputable abbrev s_Y59:Stmt:=top 39
noncomputable abbrev p_Y59:List Str:=["total","many","place"]
theorem sc_Y59:FnScope ["total","many","place","room","bars"] ["total","many","place"] (defScope s_Y59):=⟨rfl,rfl,rfl,by decide +kernel,rfl,by decide +kernel,by decide +kernel⟩
noncomputable abbrev s_Y58:Stmt:=top 40
noncomputable abbrev p_Y58:List Str:=["bits","row"]
theorem sc_Y58:FnScope ["bits","row"] ["bits","row"] (defScope s_Y58):=⟨rfl,rfl,rfl,by decide +kernel,rfl,by decide +kernel,by decide +kernel⟩
noncomputable abbrev s_Y15:Stmt:=top 41
noncomputable abbrev p_Y15:List Str:=["bits","row"]
theorem sc_Y15:FnScope ["bits","row"] ["bits","row"] (defScope s_Y15):=⟨rfl,rfl,rfl,by decide +kernel,rfl,by decide +kernel,by decide +kernel⟩
noncomputable abbrev s_Y72:Stmt:=top 42
noncomputable abbrev p_Y72:List Str:=["bits","many"]
theorem sc_Y72:FnScope ["bits","many"] ["bits","many"] (defScope s_Y72):=⟨rfl,rfl,rfl,by decide +kernel,rfl,by decide +kernel,by decide +kernel⟩
noncomputable abbrev s_Y70:Stmt:=top 43
noncomputable abbrev p_Y70:List Str:=["bits","many","some"]
theorem sc_Y70:FnScope ["bits","many","some","count"] ["bits","many","some"] (defScope s_Y70):=⟨rfl,rfl,rfl,by decide +kernel,rfl,by decide +kernel,by decide +kernel⟩
noncomputable abbrev s_Y81:Stmt:=top 50
noncomputable abbrev p_Y81:List Str:=["bits","weights"]
theorem sc_Y81:FnScope ["bits","weights","total"] ["bits","weights"] (defScope s_Y81):=⟨rfl,rfl,rfl,by decide +kernel,rfl,by decide +kernel,by decide +kernel⟩
noncomputable abbrev s_Y47:Stmt:=top 51
noncomputable abbrev p_Y47:List Str:=["bits","weights"]
theorem sc_Y47:FnScope ["bits","weights","total","rests","place","ends"] ["bits","weights"] (defScope s_Y47):=⟨rfl,rfl,rfl,by decide +kernel,rfl,by decide +kernel,by decide +kernel⟩
noncomputable abbrev s_Y76:Stmt:=top 52
noncomputable abbrev p_Y76:List Str:=["bits","upper","lower"]
theorem sc_Y76:FnScope ["bits","upper","lower"] ["bits","upper","lower"] (defScope s_Y76):=⟨rfl,rfl,rfl,by decide +kernel,rfl,by decide +kernel,by decide +kernel⟩
noncomputable abbrev s_Y66:Stmt:=top 53
noncomputable abbrev p_Y66:List Str:=["plan","depth"]
theorem sc_Y66:FnScope ["plan","depth"] ["plan","depth"] (defScope s_Y66):=⟨rfl,rfl,rfl,by decide +kernel,rfl,by decide +kernel,by decide +kernel⟩
noncomputable abbrev s_Y73:Stmt:=top 54
noncomputable abbrev p_Y73:List Str:=["plan"]
theorem sc_Y73:FnScope ["plan"] ["plan"] (defScope s_Y73):=⟨rfl,rfl,rfl,by decide +kernel,rfl,by decide +kernel,by decide +kernel⟩
noncomputable abbrev s_Y12:Stmt:=top 55
noncomputable abbrev p_Y12:List Str:=["plan"]
theorem sc_Y12:FnScope ["plan","ends"] ["plan"] (defScope s_Y12):=⟨rfl,rfl,rfl,by decide +kernel,rfl,by decide +kernel,by decide +kernel⟩
noncomputable abbrev s_Y68:Stmt:=top 56
noncomputable abbrev p_Y68:List Str:=["depth","deepest"]
noncomputable abbrev s_Y52:Stmt:=top 57
noncomputable abbrev p_Y52:List Str:=["plan"]
theorem sc_Y52:FnScope ["plan","deepest","rows","depth","number","total"] ["plan"] (defScope s_Y52):=⟨rfl,rfl,rfl,by decide +kernel,rfl,by decide +kernel,by decide +kernel⟩
noncomputable abbrev s_Y61:Stmt:=top 58
noncomputable abbrev p_Y61:List Str:=["plan"]
theorem sc_Y61:FnScope ["plan","deepest","ending","taken"] ["plan"] (defScope s_Y61):=⟨rfl,rfl,rfl,by decide +kernel,rfl,by decide +kernel,by decide +kernel⟩
noncomputable abbrev s_Y64:Stmt:=top 59
noncomputable abbrev p_Y64:List Str:=["bits","plan"]
theorem sc_Y64:FnScope ["bits","plan"] ["bits","plan"] (defScope s_Y64):=⟨rfl,rfl,rfl,by decide +kernel,rfl,by decide +kernel,by decide +kernel⟩
noncomputable abbrev s_Y17:Stmt:=top 60
noncomputable abbrev p_Y17:List Str:=["bits","plan"]
theorem sc_Y17:FnScope ["bits","plan","part"] ["bits","plan"] (defScope s_Y17):=⟨rfl,rfl,rfl,by decide +kernel,rfl,by decide +kernel,by decide +kernel⟩
noncomputable abbrev s_Y18:Stmt:=top 64
noncomputable abbrev p_Y18:List Str:=["many"]
theorem sc_Y18:FnScope ["many","counts","pairs"] ["many"] (defScope s_Y18):=⟨rfl,rfl,rfl,by decide +kernel,rfl,by decide +kernel,by decide +kernel⟩
noncomputable abbrev s_Y29:Stmt:=top 65
noncomputable abbrev p_Y29:List Str:=["many"]
theorem sc_Y29:FnScope ["many"] ["many"] (defScope s_Y29):=⟨rfl,rfl,rfl,by decide +kernel,rfl,by decide +kernel,by decide +kernel⟩
noncomputable abbrev s_Y67:Stmt:=top 68
noncomputable abbrev p_Y67:List Str:=["many","place"]
theorem sc_Y67:FnScope ["many","place","counts","marks","parts","part","sides"] ["many","place"] (defScope s_Y67):=⟨rfl,rfl,rfl,by decide +kernel,rfl,by decide +kernel,by decide +kernel⟩
noncomputable abbrev s_Y75:Stmt:=top 70
noncomputable abbrev p_Y75:List Str:=["bits","many"]
theorem sc_Y75:FnScope ["bits","many"] ["bits","many"] (defScope s_Y75):=⟨rfl,rfl,rfl,by decide +kernel,rfl,by decide +kernel,by decide +kernel⟩
noncomputable abbrev s_Y71:Stmt:=top 71
noncomputable abbrev p_Y71:List Str:=["figures"]
noncomputable abbrev s_Y74:Stmt:=top 73
noncomputable abbrev p_Y74:List Str:=["bits","many"]
theorem sc_Y74:FnScope ["bits","many"] ["bits","many"] (defScope s_Y74):=⟨rfl,rfl,rfl,by decide +kernel,rfl,by decide +kernel,by decide +kernel⟩
noncomputable abbrev s_Y39:Stmt:=top 74
noncomputable abbrev p_Y39:List Str:=["bits","many"]
theorem sc_Y39:FnScope ["bits","many"] ["bits","many"] (defScope s_Y39):=⟨rfl,rfl,rfl,by decide +kernel,rfl,by decide +kernel,by decide +kernel⟩
noncomputable abbrev s_Y30:Stmt:=top 75
noncomputable abbrev p_Y30:List Str:=["above"]
theorem sc_Y30:FnScope ["above","sizes","number","upper"] ["above"] (defScope s_Y30):=⟨rfl,rfl,rfl,by decide +kernel,rfl,by decide +kernel,by decide +kernel⟩
noncomputable abbrev s_Y34:Stmt:=top 76
noncomputable abbrev p_Y34:List Str:=["bits","above"]
theorem sc_Y34:FnScope ["bits","above"] ["bits","above"] (defScope s_Y34):=⟨rfl,rfl,rfl,by decide +kernel,rfl,by decide +kernel,by decide +kernel⟩
noncomputable abbrev s_Y4:Stmt:=top 77
noncomputable abbrev p_Y4:List Str:=["bits","above"]
theorem sc_Y4:FnScope ["bits","above","sizes","coming","row","picked","freed"] ["bits","above"] (defScope s_Y4):=⟨rfl,rfl,rfl,by decide +kernel,rfl,by decide +kernel,by decide +kernel⟩
noncomputable abbrev s_Y8:Stmt:=top 82
noncomputable abbrev p_Y8:List Str:=["bits","shape"]
theorem sc_Y8:FnScope ["bits","shape","number","size","least","many","often"] ["bits","shape"] (defScope s_Y8):=⟨rfl,rfl,rfl,by decide +kernel,rfl,by decide +kernel,by decide +kernel⟩
noncomputable abbrev s_Y57:Stmt:=top 84
noncomputable abbrev p_Y57:List Str:=["bits","table","high"]
theorem sc_Y57:FnScope ["bits","table","high","number","column"] ["bits","table","high"] (defScope s_Y57):=⟨rfl,rfl,rfl,by decide +kernel,rfl,by decide +kernel,by decide +kernel⟩
noncomputable abbrev s_Y65:Stmt:=top 86
noncomputable abbrev p_Y65:List Str:=["plan"]
theorem sc_Y65:FnScope ["plan"] ["plan"] (defScope s_Y65):=⟨rfl,rfl,rfl,by decide +kernel,rfl,by decide +kernel,by decide +kernel⟩
noncomputable abbrev s_Y80:Stmt:=top 87
noncomputable abbrev p_Y80:List Str:=["text"]
theorem sc_Y80:FnScope ["text","part"] ["text"] (defScope s_Y80):=⟨rfl,rfl,rfl,by decide +kernel,rfl,by decide +kernel,by decide +kernel⟩
noncomputable abbrev s_Y48:Stmt:=top 88
noncomputable abbrev p_Y48:List Str:=["text","begin","most_asks"]
theorem sc_Y48:FnScope ["text","begin","most_asks","sign","zero","one"] ["text","begin","most_asks"] (defScope s_Y48):=⟨rfl,rfl,rfl,by decide +kernel,rfl,by decide +kernel,by decide +kernel⟩
noncomputable abbrev s_Y28:Stmt:=top 89
noncomputable abbrev p_Y28:List Str:=["text","begin"]
theorem sc_Y28:FnScope ["text","begin","part","number"] ["text","begin"] (defScope s_Y28):=⟨rfl,rfl,rfl,by decide +kernel,rfl,by decide +kernel,by decide +kernel⟩
noncomputable abbrev s_Y69:Stmt:=top 92
noncomputable abbrev p_Y69:List Str:=["machine","state","letter"]
theorem sc_Y69:FnScope ["machine","state","letter"] ["machine","state","letter"] (defScope s_Y69):=⟨rfl,rfl,rfl,by decide +kernel,rfl,by decide +kernel,by decide +kernel⟩
noncomputable abbrev s_Y54:Stmt:=top 93
noncomputable abbrev p_Y54:List Str:=["machine","text"]
theorem sc_Y54:FnScope ["machine","text","state","letter"] ["machine","text"] (defScope s_Y54):=⟨rfl,rfl,rfl,by decide +kernel,rfl,by decide +kernel,by decide +kernel⟩
noncomputable abbrev s_Y2:Stmt:=top 94
noncomputable abbrev p_Y2:List Str:=["machine","long"]
theorem sc_Y2:FnScope ["machine","long","rows","counts","length","shorter"] ["machine","long"] (defScope s_Y2):=⟨rfl,rfl,rfl,by decide +kernel,rfl,by decide +kernel,by decide +kernel⟩
noncomputable abbrev s_Y40:Stmt:=top 95
noncomputable abbrev p_Y40:List Str:=["counts","state"]
theorem sc_Y40:FnScope ["counts","state"] ["counts","state"] (defScope s_Y40):=⟨rfl,rfl,rfl,by decide +kernel,rfl,by decide +kernel,by decide +kernel⟩
noncomputable abbrev s_Y25:Stmt:=top 96
noncomputable abbrev p_Y25:List Str:=["machine","long"]
theorem sc_Y25:FnScope ["machine","long"] ["machine","long"] (defScope s_Y25):=⟨rfl,rfl,rfl,by decide +kernel,rfl,by decide +kernel,by decide +kernel⟩
noncomputable abbrev s_Y62:Stmt:=top 97
noncomputable abbrev p_Y62:List Str:=["machine","long","place"]
theorem sc_Y62:FnScope ["machine","long","place","counts","letters","state","rest","behind","ahead","letter"] ["machine","long","place"] (defScope s_Y62):=⟨rfl,rfl,rfl,by decide +kernel,rfl,by decide +kernel,by decide +kernel⟩
noncomputable abbrev s_Y11:Stmt:=top 98
noncomputable abbrev p_Y11:List Str:=["machine","text"]
theorem sc_Y11:FnScope ["machine","text","counts","place","state","number","letter"] ["machine","text"] (defScope s_Y11):=⟨rfl,rfl,rfl,by decide +kernel,rfl,by decide +kernel,by decide +kernel⟩
noncomputable abbrev s_Y78:Stmt:=top 99
noncomputable abbrev p_Y78:List Str:=["bits","machine","long"]
theorem sc_Y78:FnScope ["bits","machine","long","count"] ["bits","machine","long"] (defScope s_Y78):=⟨rfl,rfl,rfl,by decide +kernel,rfl,by decide +kernel,by decide +kernel⟩
noncomputable abbrev s_Y46:Stmt:=top 101
noncomputable abbrev p_Y46:List Str:=["_law_script","_law_town","_law_many"]
theorem sc_Y46:FnScope ["_law_script","_law_town","_law_many","_law_k","_law_cell","_law_number","_law_more"] ["_law_script","_law_town","_law_many"] (defScope s_Y46):=⟨rfl,rfl,rfl,by decide +kernel,rfl,by decide +kernel,by decide +kernel⟩
noncomputable abbrev s_Y37:Stmt:=top 103
noncomputable abbrev p_Y37:List Str:=["_law_e"]
theorem sc_Y37:FnScope ["_law_e","_law_names_here"] ["_law_e"] (defScope s_Y37):=⟨rfl,rfl,rfl,by decide +kernel,rfl,by decide +kernel,by decide +kernel⟩
noncomputable abbrev s_Y20:Stmt:=top 104
noncomputable abbrev p_Y20:List Str:=["_law_k","_law_bits","_law_keeper","_law_kept"]
theorem sc_Y20:FnScope ["_law_k","_law_bits","_law_keeper","_law_kept","_law_turn"] ["_law_k","_law_bits","_law_keeper","_law_kept"] (defScope s_Y20):=⟨rfl,rfl,rfl,by decide +kernel,rfl,by decide +kernel,by decide +kernel⟩
noncomputable abbrev s_Y24:Stmt:=top 105
noncomputable abbrev p_Y24:List Str:=["_law_k","_law_bits","_law_no"]
theorem sc_Y24:FnScope ["_law_k","_law_bits","_law_no","_law_none","_law_machine"] ["_law_k","_law_bits","_law_no"] (defScope s_Y24):=⟨rfl,rfl,rfl,by decide +kernel,rfl,by decide +kernel,by decide +kernel⟩
noncomputable abbrev s_Y38:Stmt:=top 106
noncomputable abbrev p_Y38:List Str:=["_law_k","_law_bits","_law_no"]
theorem sc_Y38:FnScope ["_law_k","_law_bits","_law_no","_law_machine"] ["_law_k","_law_bits","_law_no"] (defScope s_Y38):=⟨rfl,rfl,rfl,by decide +kernel,rfl,by decide +kernel,by decide +kernel⟩
noncomputable abbrev s_Y60:Stmt:=top 107
noncomputable abbrev p_Y60:List Str:=["_law_k","_law_bits","_law_keeper","_law_kept","_law_no"]
theorem sc_Y60:FnScope ["_law_k","_law_bits","_law_keeper","_law_kept","_law_no","_law_names_here","_law_e"] ["_law_k","_law_bits","_law_keeper","_law_kept","_law_no"] (defScope s_Y60):=⟨rfl,rfl,rfl,by decide +kernel,rfl,by decide +kernel,by decide +kernel⟩
noncomputable abbrev s_law:Stmt:=top 108
noncomputable abbrev p_law:List Str:=["_law_script"]
theorem sc_law:FnScope ["_law_script","_law_town","_law_k","_law_ahead","_law_bits","_law_kept","_law_j","_law_no","_law_keeper","_law_due","_law_told"] ["_law_script"] (defScope s_law):=⟨rfl,rfl,rfl,by decide +kernel,rfl,by decide +kernel,by decide +kernel⟩
noncomputable abbrev s_Y10:Stmt:=inClass (top 13) 0
noncomputable abbrev p_Y10:List Str:=["self","row"]
theorem sc_Y10:FnScope ["self","row"] ["self","row"] (defScope s_Y10):=⟨rfl,rfl,rfl,by decide +kernel,rfl,by decide +kernel,by decide +kernel⟩
noncomputable abbrev s_Y51:Stmt:=inClass (top 13) 1
noncomputable abbrev p_Y51:List Str:=["self"]
theorem sc_Y51:FnScope ["self","bit"] ["self"] (defScope s_Y51):=⟨rfl,rfl,rfl,by decide +kernel,rfl,by decide +kernel,by decide +kernel⟩
noncomputable abbrev s_Y41:Stmt:=inClass (top 13) 2
noncomputable abbrev p_Y41:List Str:=["self"]
theorem sc_Y41:FnScope ["self"] ["self"] (defScope s_Y41):=⟨rfl,rfl,rfl,by decide +kernel,rfl,by decide +kernel,by decide +kernel⟩
noncomputable abbrev s_Y45:Stmt:=inClass (top 13) 3
noncomputable abbrev p_Y45:List Str:=["self"]
theorem sc_Y45:FnScope ["self"] ["self"] (defScope s_Y45):=⟨rfl,rfl,rfl,by decide +kernel,rfl,by decide +kernel,by decide +kernel⟩
noncomputable abbrev s_Y19:Stmt:=inClass (top 13) 4
noncomputable abbrev p_Y19:List Str:=["self","many"]
theorem sc_Y19:FnScope ["self","many"] ["self","many"] (defScope s_Y19):=⟨rfl,rfl,rfl,by decide +kernel,rfl,by decide +kernel,by decide +kernel⟩
noncomputable abbrev s_Y9:Stmt:=inClass (top 45) 0
noncomputable abbrev p_Y9:List Str:=["self","bits","room"]
theorem sc_Y9:FnScope ["self","bits","room"] ["self","bits","room"] (defScope s_Y9):=⟨rfl,rfl,rfl,by decide +kernel,rfl,by decide +kernel,by decide +kernel⟩
noncomputable abbrev s_Y53:Stmt:=inClass (top 45) 1
noncomputable abbrev p_Y53:List Str:=["self","thing"]
theorem sc_Y53:FnScope ["self","thing","place","gone"] ["self","thing"] (defScope s_Y53):=⟨rfl,rfl,rfl,by decide +kernel,rfl,by decide +kernel,by decide +kernel⟩
noncomputable abbrev s_Y49:Stmt:=inClass (top 45) 2
noncomputable abbrev p_Y49:List Str:=["self"]
theorem sc_Y49:FnScope ["self"] ["self"] (defScope s_Y49):=⟨rfl,rfl,rfl,by decide +kernel,rfl,by decide +kernel,by decide +kernel⟩
noncomputable abbrev s_Y50:Stmt:=inClass (top 45) 3
noncomputable abbrev p_Y50:List Str:=["self"]
theorem sc_Y50:FnScope ["self"] ["self"] (defScope s_Y50):=⟨rfl,rfl,rfl,by decide +kernel,rfl,by decide +kernel,by decide +kernel⟩
noncomputable abbrev s_Y6:Stmt:=inClass (top 79) 0
noncomputable abbrev p_Y6:List Str:=["self","seed","many"]
theorem sc_Y6:FnScope ["self","seed","many"] ["self","seed","many"] (defScope s_Y6):=⟨rfl,rfl,rfl,by decide +kernel,rfl,by decide +kernel,by decide +kernel⟩
noncomputable abbrev s_Y13:Stmt:=inClass (top 79) 4
noncomputable abbrev p_Y13:List Str:=["self","many","some"]
theorem sc_Y13:FnScope ["self","many","some"] ["self","many","some"] (defScope s_Y13):=⟨rfl,rfl,rfl,by decide +kernel,rfl,by decide +kernel,by decide +kernel⟩
noncomputable abbrev s_Y16:Stmt:=inClass (top 79) 5
noncomputable abbrev p_Y16:List Str:=["self","used_ahead","thing"]
noncomputable abbrev s_Y31:Stmt:=inClass (top 79) 7
noncomputable abbrev p_Y31:List Str:=["self"]
theorem sc_Y31:FnScope ["self"] ["self"] (defScope s_Y31):=⟨rfl,rfl,rfl,by decide +kernel,rfl,by decide +kernel,by decide +kernel⟩
noncomputable abbrev s_Y27:Stmt:=inClass (top 79) 8
noncomputable abbrev p_Y27:List Str:=["self"]
theorem sc_Y27:FnScope ["self","step"] ["self"] (defScope s_Y27):=⟨rfl,rfl,rfl,by decide +kernel,rfl,by decide +kernel,by decide +kernel⟩
noncomputable abbrev s_Y5:Stmt:=inClass (top 81) 0
noncomputable abbrev p_Y5:List Str:=["self","bits","most"]
theorem sc_Y5:FnScope ["self","bits","most"] ["self","bits","most"] (defScope s_Y5):=⟨rfl,rfl,rfl,by decide +kernel,rfl,by decide +kernel,by decide +kernel⟩
noncomputable abbrev s_Y21:Stmt:=inClass (top 81) 1
noncomputable abbrev p_Y21:List Str:=["self"]
theorem sc_Y21:FnScope ["self"] ["self"] (defScope s_Y21):=⟨rfl,rfl,rfl,by decide +kernel,rfl,by decide +kernel,by decide +kernel⟩
noncomputable abbrev s_Y33:Stmt:=inClass (top 81) 2
noncomputable abbrev p_Y33:List Str:=["self","many"]
theorem sc_Y33:FnScope ["self","many","shape","drawn"] ["self","many"] (defScope s_Y33):=⟨rfl,rfl,rfl,by decide +kernel,rfl,by decide +kernel,by decide +kernel⟩
theorem nd_1:(["bits","weights","total","rests","place","ends","number","rest"]:List Str).Nodup:=by decide +kernel
theorem nd_2:(["bits","weights","total","rests","place","ends","rest"]:List Str).Nodup:=by decide +kernel
theorem nd_3:(["bits","row","place"]:List Str).Nodup:=by decide +kernel
theorem nd_4:(["bits","many","turn"]:List Str).Nodup:=by decide +kernel
theorem nd_5:(["above","sizes","number","upper"]:List Str).Nodup:=by decide +kernel
theorem nd_6:(["bits","above","sizes","coming","row","picked","freed","number","upper"]:List Str).Nodup:=by decide +kernel
theorem nd_7:(["bits","above","sizes","coming","row","picked","freed","number"]:List Str).Nodup:=by decide +kernel
theorem nd_8:(["machine","long","rows","counts","length","shorter","state"]:List Str).Nodup:=by decide +kernel
theorem nd_9:(["machine","long","rows","counts","length","shorter","row"]:List Str).Nodup:=by decide +kernel
theorem nd_10:(["plan","ends","depth","end"]:List Str).Nodup:=by decide +kernel
theorem nd_11:(["plan","depth","end"]:List Str).Nodup:=by decide +kernel
theorem nd_12:(["plan","deepest","ending","taken","depth","number"]:List Str).Nodup:=by decide +kernel
theorem nd_13:(["_law_script","_law_town","_law_k","_law_ahead","_law_bits","_law_kept","_law_j","_law_no","_law_keeper","_law_due","_law_told"]:List Str).Nodup:=by decide +kernel
theorem nd_14:(["_law_script","_law_town","_law_k","_law_ahead","_law_bits","_law_kept","_law_j","_law_no","_law_keeper","_law_due","_law_told"]:List Str).Nodup:=by decide +kernel
theorem nd_15:(["_law_script","_law_town","_law_k","_law_ahead","_law_bits","_law_kept","_law_j","_law_no","_law_keeper","_law_due","_law_told"]:List Str).Nodup:=by decide +kernel
structure Bl (mg:Str→Option Value):Prop where
 ValueError_:mg "ValueError"=none
 enumerate_:mg "enumerate"=none
 int_:mg "int"=none
 isinstance_:mg "isinstance"=none
 len_:mg "len"=none
 list_:mg "list"=none
 max_:mg "max"=none
 min_:mg "min"=none
 range_:mg "range"=none
 str_:mg "str"=none
 sum_:mg "sum"=none
 tuple_:mg "tuple"=none
structure Cn (K:PySem.W.Frag)(mg:Str→Option Value):Prop where
 STATES:∃t,mg "STATES"=some (.int 4294967296 t)
 HALF_OF_STATES:∃t,mg "HALF_OF_STATES"=some (.int 2147483648 t)
 FACTOR:∃t,mg "FACTOR"=some (.int 1664525 t)
 ADDED:∃t,mg "ADDED"=some (.int 1013904223 t)
 GREATEST_NUMBER:∃t,mg "GREATEST_NUMBER"=some (.int 99 t)
 MOST_ASKS:∃t,mg "MOST_ASKS"=some (.int 12 t)
 AGAIN:∃g,mg "AGAIN"=some (.ref g)∧∀H,SqT K H g [.str "again"]
 LETTERS:∃t,mg "LETTERS"=some (.str "ab" t)
theorem cell_at {ns:List Int}(h:ns≠[])(k:Nat):atI (ns.map V.int) ((k:Int)%((ns.map V.int).length:Int))=some (.int (lcell ns k)):=by
 have hp:0<ns.length:=List.length_pos_iff.mpr h
 have e:((k:Int)%((ns.map V.int).length:Int))=(((k%ns.length:Nat)):Int):=by rw[List.length_map];omega
 have hk:k%ns.length<ns.length:=Nat.mod_lt _ hp
 rw[e]
 refine atI_nat ?_
 rw[List.getElem?_map,List.getElem?_eq_getElem hk]
 unfold lcell
 rw[if_neg h,List.getD_eq_getElem?_getD,List.getElem?_eq_getElem hk]
 rfl
theorem emod_bd (i:Int){m:Int}(h:0<m)(h2:m<18446744073709551616) : -(2 ^ 64)<i%m∧i%m<2 ^ 64:=by
 have a:=Int.emod_nonneg i (show m≠0 by omega)
 have b:=Int.emod_lt_of_pos i h
 exact⟨by omega,by omega⟩
section
variable {P:Program}{w:World}{K:PySem.W.Frag}{mg:Str→Option Value}{base:Heap}{f:Addr}{fd:FuncData}
theorem ok_Y46 (F_Y46:Fun K "_law_draw" "_law_draw" s_Y46 f fd)(B:Bl mg):FnOk P w K mg base CX0 1 f fd p_Y46 (spDraw K):=by
 refine F_Y46.ok sc_Y46 (fun vs H Q E h=>?_) (fun cdv A outer s H vs Q E hr h=>?_)
 ·obtain⟨a,t,ns,k,m,rfl,_⟩:=h
  rfl
 obtain⟨a,t,ns,k,m,rfl,hS,h63,hT,hk,hm,q⟩:=h
 refine⟨_,(pss_cons (ps_expr (pe_bm PySem.F.plainAttrs_list PySem.F.slot_list_append PySem.F.type_list_append mt_append (pv 1) (pa_cons pe_int pa_nil)))
   (pss_cons (ps_set (i:=3) sc_Y46.nd rfl (Or.inl rfl) (pe_callB call_len_seq rfl B.len_ L3.bt_len (pa_cons (pv 1) pa_nil)))
   (pss_cons (ps_set (i:=4) sc_Y46.nd rfl (Or.inl rfl) pe_int)
   (pss_cons (ps_join (ps_if (pt_truth (pv 0) (fun _=>rfl)) (pss_one (ps_set (i:=4) sc_Y46.nd rfl (Or.inl rfl) (pe_ix ix_list (pv 0) (pe_op op_mod (pv 3) (pe_callB call_len_seq rfl B.len_ L3.bt_len (pa_cons (pv 0) pa_nil))) (fun _ _=>rfl)))) pss_nil))
   (pss_cons (ps_set (i:=5) sc_Y46.nd rfl (Or.inl rfl) (pe_op op_mod (pe_op op_add (pv 4) (pe_op op_mul pe_int (pv 3))) pe_int))
   (pss_cons (ps_set (i:=5) sc_Y46.nd rfl (Or.inl rfl) (pe_op op_mod (pe_op op_mul (pe_op op_mod (pe_op op_mul (pv 5) (pv 5)) pe_int) pe_int) pe_int))
   (pss_cons (ps_set (i:=6) sc_Y46.nd rfl (Or.inl rfl) (pe_op op_mod (pe_op op_mul (pe_op op_mod (pe_op op_mul (pv 5) (pv 5)) pe_int) pe_int) pe_int))
   (pss_one (ps_ret (pe_op op_mod (pe_op op_add (pe_op op_mul (pe_op op_fdiv (pv 5) pe_int) pe_int) (pe_op op_fdiv (pv 6) pe_int)) (pv 2))))))))))),?_⟩
 have hT':H t=some (.lst (zeros k)):=hT
 have g1:Grow t H (upd H t (.lst (zeros k++[V.int 0]))):=Grow.upd _
 have t1:Twn (upd H t (.lst (zeros k++[V.int 0]))) t (k+1):=by
  unfold Twn
  rw[upd_same]
  show some (HO.lst (List.replicate k (V.int 0)++[V.int 0]))=some (HO.lst (List.replicate (k+1) (V.int 0)))
  rw[List.replicate_succ']
 have s1:=g1.scr hT hS
 have hl:(((zeros k++[V.int 0]).length:Nat):Int)=((k+1:Nat):Int):=by simp
 refine⟨_,rfl,.inl ⟨rfl,_,SqL.of hT'⟩,t,_,_,rfl,rfl,hT',(by rw[List.length_replicate];exact smallL (by omega)),?_⟩
 refine⟨_,rfl,t,_,rfl,.inl (SqL.of upd_same),?_⟩
 rw[hl]
 refine⟨fun σ' H'=>σ'=[some (.ref a),some (.ref t),some (.int m),some (.int ((k+1:Nat):Int)),some (.int (lcell ns (k+1))),none,none]∧H'=upd H t (.lst (zeros k++[V.int 0])),?_,?_⟩
 ·rintro σ' H' ⟨rfl,rfl⟩
  refine⟨_,rfl,_,rfl,_,_,rfl,rfl,.inl ⟨by decide,by decide⟩,_,_,rfl,rfl,_,_,rfl,rfl,(by show(0:Int)<4294967291;decide),?_⟩
  refine⟨_,rfl,_,rfl,_,_,rfl,rfl,.inl (emod_bd _ (by decide) (by decide)),_,_,rfl,rfl,(by show(0:Int)<4294967279;decide),_,_,rfl,rfl,.inr ⟨by decide,by decide⟩,_,_,rfl,rfl,(by show(0:Int)<4294967291;decide),?_⟩
  refine⟨_,rfl,_,rfl,_,_,rfl,rfl,.inl (emod_bd _ (by decide) (by decide)),_,_,rfl,rfl,(by show(0:Int)<4294967279;decide),_,_,rfl,rfl,.inr ⟨by decide,by decide⟩,_,_,rfl,rfl,(by show(0:Int)<4294967291;decide),?_⟩
  refine⟨_,rfl,_,_,rfl,rfl,⟨by decide,by decide⟩,_,_,rfl,rfl,.inr ⟨by decide,by decide⟩,_,rfl,_,_,rfl,rfl,⟨by decide,by decide⟩,_,_,rfl,rfl,_,rfl,_,_,rfl,rfl,hm,?_⟩
  exact q _ g1 t1
 ·by_cases hn:ns=[]
  ·refine⟨_,rfl,false,.inl ⟨_,s1.seq,by rw[hn];rfl⟩,iteF ⟨?_,rfl⟩⟩
   unfold lcell
   rw[if_pos hn]
   rfl
  ·refine⟨_,rfl,true,.inl ⟨_,s1.seq,by cases ns with|nil=>exact absurd rfl hn|cons _ _=>rfl⟩,iteT ?_⟩
   refine⟨_,rfl,_,rfl,_,rfl,a,_,rfl,.inl s1.seq,_,_,rfl,rfl,?_,a,_,_,_,rfl,rfl,s1.seq,cell_at hn (k+1),rfl,rfl⟩
   show(0:Int)<(((ns.map V.int).length:Nat):Int)
   rw[List.length_map]
   have:=List.length_pos_iff.mpr hn
   omega
end
theorem rp:¬(("row" : Str) = "place"):=by decide +kernel
noncomputable def flds (r:Addr)(z:Int):List (Str×V):=putF "place" (.int z) (putF "row" (.ref r) [])
theorem flds_eq (r:Addr)(z:Int):flds r z=([("row",V.ref r),("place",V.int z)]:List (Str×V)):=by
 show(if ("row" : Str) = "place" then [(("row" : Str),V.int z)]else (("row" : Str),V.ref r)::putF "place" (V.int z) [])=([("row",V.ref r),("place",V.int z)]:List (Str×V))
 rw[if_neg rp]
 all_goals rfl
theorem flds_row (r:Addr)(z:Int):(flds r z).lookup ("row" : Str)=some (.ref r):=by
 unfold flds
 rw[lookup_putF,if_neg rp,lookup_putF,if_pos rfl]
theorem flds_place (r:Addr)(z:Int):(flds r z).lookup ("place" : Str)=some (.int z):=by
 unfold flds
 rw[lookup_putF,if_pos rfl]
theorem flds_no (r:Addr)(z:Int){m:Str}(h1:¬m = "place")(h2:¬m = "row"):(flds r z).lookup m=none:=by
 unfold flds
 rw[lookup_putF,if_neg h1,lookup_putF,if_neg h2]
 all_goals rfl
theorem flds_put (r:Addr)(z y:Int):putF "place" (.int y) (flds r z)=flds r y:=by
 rw[flds_eq,flds_eq]
 show(if ("row" : Str) = "place" then _ else (("row" : Str),V.ref r)::(if ("place" : Str) = "place" then [(("place" : Str),V.int y)]else _))=([("row",V.ref r),("place",V.int y)]:List (Str×V))
 rw[if_neg rp,if_pos rfl]
theorem flds_lt (r:Addr)(z:Int):(flds r z).length<1000:=by
 rw[flds_eq]
 show 2<1000
 decide
structure Txt (K:PySem.W.Frag)(mg:Str→Option Value)(C fI fT fU fL fG:Addr)(dI dT dU dL dG:FuncData):Prop where
 cl:Cls K C
 nR:NoAttr K C "row"
 nP:NoAttr K C "place"
 mgC:mg "Bits"=some (.ref C)
 made:Mk K C fI
 m_take:Meth K C "take" fT
 m_used:Meth K C "used" fU
 m_left:Meth K C "left" fL
 m_go_back:Meth K C "go_back" fG
 b_init:Binds K dI p_Y10 []
 b_take:Binds K dT p_Y51 []
 b_used:Binds K dU p_Y41 []
 b_left:Binds K dL p_Y45 []
 b_go_back:Binds K dG p_Y19 []
def spInit (C:Addr):Sp:=fun vs H Q _=>∃(p dx r:Addr)(xs:List V),vs=[.ref p,.ref r]∧H p=some (.ins C dx [])∧H r=some (.tup xs) ∧
 ∀H',H' p=some (.ins C dx (flds r 0))→(∀b o,H b=some o→b≠p→H' b=some o)→Q .non H'
def spUsed (C:Addr):Sp:=fun vs H Q _=>∃(p dx r:Addr)(z:Nat),vs=[.ref p]∧H p=some (.ins C dx (flds r z))∧Q (.int z) H
def spLeft (C:Addr):Sp:=fun vs H Q _=>∃(p dx r:Addr)(xs:List V)(z:Nat),vs=[.ref p]∧H p=some (.ins C dx (flds r z))∧H r=some (.tup xs)∧Q (.int ((xs.length:Int)-(z:Int))) H
def spTake (C CN:Addr):Sp:=fun vs H Q E=>∃(p dx r:Addr)(xs:List V)(z:Nat),vs=[.ref p]∧H p=some (.ins C dx (flds r z))∧H r=some (.tup xs)∧z≤xs.length ∧
 (∀v,xs[z]?=some v→Q v (upd H p (.ins C dx (flds r ((z+1:Nat):Int)))))∧(z=xs.length→E (.ref CN) none H)
def spBack (C CP:Addr):Sp:=fun vs H Q E=>∃(p dx r:Addr)(z:Nat)(m:Int),vs=[.ref p,.int m]∧H p=some (.ins C dx (flds r z)) ∧
 (0≤m∧m≤(z:Int)→Q .non (upd H p (.ins C dx (flds r m))))∧(¬(0≤m∧m≤(z:Int))→E (.ref CP) none H)
def spBackH (C:Addr):Sp:=fun vs H Q _=>∃(p dx r:Addr)(z m:Nat),vs=[.ref p,.int m]∧H p=some (.ins C dx (flds r z))∧m≤z∧Q .non (upd H p (.ins C dx (flds r m)))
section
variable {P:Program}{w:World}{K:PySem.W.Frag}{mg:Str→Option Value}{base:Heap}{f C fI fT fU fL fG CN CP:Addr}{fd dI dT dU dL dG:FuncData}{mN mP:List Value}
theorem ok_init (F_Y10:Fun K "__init__" "Bits.__init__" s_Y10 f fd)(B:Bl mg)(T:Txt K mg C fI fT fU fL fG dI dT dU dL dG):FnOk P w K mg base CX0 1 f fd p_Y10 (spInit C):=by
 refine F_Y10.ok sc_Y10 (fun vs H Q E h=>?_) (fun cdv A outer s H vs Q E hr h=>?_)
 ·obtain⟨p,dx,r,xs,rfl,_⟩:=h
  rfl
 obtain⟨p,dx,r,xs,rfl,hp,hR,q⟩:=h
 refine⟨_,(pss_cons (ps_fld (pv 0) (pe_callTy call_tuple_of rfl B.tuple_ L3.bt_tuple (pa_cons (pv 1) pa_nil)) rfl)
   (pss_one (ps_fld (pv 0) pe_int rfl))),?_⟩
 refine⟨_,rfl,r,xs,rfl,.inr ⟨SqT.of hR,_,rfl,p,C,dx,[],rfl,hp,T.cl,T.nR,(by show 0<1000;decide),?_⟩⟩
 refine⟨_,rfl,p,C,dx,_,rfl,upd_same,T.cl,T.nP,(by show 1<1000;decide),?_⟩
 refine q _ upd_same fun b o e hb=>?_
 rw[upd_ne hb,upd_ne hb]
 exact e
theorem ok_used (F_Y41:Fun K "used" "Bits.used" s_Y41 f fd)(T:Txt K mg C fI fT fU fL fG dI dT dU dL dG):FnOk P w K mg base CX0 1 f fd p_Y41 (spUsed C):=by
 refine F_Y41.ok sc_Y41 (fun vs H Q E h=>?_) (fun cdv A outer s H vs Q E hr h=>?_)
 ·obtain⟨p,dx,r,z,rfl,_⟩:=h
  rfl
 obtain⟨p,dx,r,z,rfl,hp,q⟩:=h
 refine⟨_,(pss_one (ps_ret (pe_fld (pv 0) rfl))),?_⟩
 exact⟨_,rfl,p,C,dx,_,_,rfl,hp,T.cl,T.nP,flds_place _ _,q⟩
theorem ok_left (F_Y45:Fun K "left" "Bits.left" s_Y45 f fd)(B:Bl mg)(T:Txt K mg C fI fT fU fL fG dI dT dU dL dG):FnOk P w K mg base CX0 1 f fd p_Y45 (spLeft C):=by
 refine F_Y45.ok sc_Y45 (fun vs H Q E h=>?_) (fun cdv A outer s H vs Q E hr h=>?_)
 ·obtain⟨p,dx,r,xs,z,rfl,_⟩:=h
  rfl
 obtain⟨p,dx,r,xs,z,rfl,hp,hR,q⟩:=h
 refine⟨_,(pss_one (ps_ret (pe_op op_sub (pe_callB call_len_seq rfl B.len_ L3.bt_len (pa_cons (pe_fld (pv 0) rfl) pa_nil)) (pe_fld (pv 0) rfl)))),?_⟩
 exact⟨_,rfl,p,C,dx,_,_,rfl,hp,T.cl,T.nR,flds_row _ _,r,xs,rfl,.inr (SqT.of hR),_,rfl,p,C,dx,_,_,rfl,hp,T.cl,T.nP,flds_place _ _,_,_,rfl,rfl,q⟩
theorem ok_take (F_Y51:Fun K "take" "Bits.take" s_Y51 f fd)(T:Txt K mg C fI fT fU fL fG dI dT dU dL dG)(X_E1:Exc K mg "NoBits" CN mN)(g_left:FnOk P w K mg base CX0 1 fL dL p_Y45 (spLeft C)):FnOk P w K mg base (CXR P w) 2 f fd p_Y51 (spTake C CN):=by
 refine F_Y51.okX sc_Y51 (fun vs H Q E h=>?_) (fun cdv A outer s H vs Q E hr h=>?_)
 ·obtain⟨p,dx,r,xs,z,rfl,_⟩:=h
  rfl
 obtain⟨p,dx,r,xs,z,rfl,hp,hR,hz,q,e⟩:=h
 refine⟨_,(pss_cons (ps_if (pt_cmpR op_eq (pe_meth0 (pv 0) T.cl T.m_left g_left (hr.mono (by first|decide|omega)) T.b_left .nil pass0) pe_int (nomark _)) (pss_one (ps_raise X_E1 (pa_cons pe_str pa_nil))) pss_nil)
   (pss_cons (ps_set (i:=1) sc_Y51.nd rfl (Or.inl rfl) (pe_ix ix_tup (pe_fld (pv 0) rfl) (pe_fld (pv 0) rfl) (fun _ _=>rfl)))
   (pss_cons (ps_fld (pv 0) (pe_op op_add (pe_fld (pv 0) rfl) pe_int) rfl)
   (pss_one (ps_ret (pv 1)))))),?_⟩
 refine⟨_,rfl,p,dx,_,rfl,hp,flds_no _ _ (by decide +kernel) (by decide +kernel),p,dx,r,xs,z,rfl,hp,hR,rfl,_,rfl,?_⟩
 refine ite2 (fun c=>?_) (fun c=>?_)
 ·have c':V.int ((xs.length:Int)-(z:Int))=V.int 0:=of_decide_eq_true c
  injection c' with c'
  exact⟨(by show 1≤sizeLine;decide),e (by omega)⟩
 ·have c':¬V.int ((xs.length:Int)-(z:Int))=V.int 0:=of_decide_eq_false (Bool.eq_false_iff.mpr c)
  have hlt:z<xs.length:=by
   rcases Nat.lt_or_ge z xs.length with y|y
   ·exact y
   ·exact absurd (by rw[show(xs.length:Int)-(z:Int)=0 by omega]) c'
  have hv:=List.getElem?_eq_getElem hlt
  refine⟨_,rfl,p,C,dx,_,_,rfl,hp,T.cl,T.nR,flds_row _ _,_,rfl,p,C,dx,_,_,rfl,hp,T.cl,T.nP,flds_place _ _,r,xs,_,_,rfl,rfl,SqT.of hR,atI_nat hv,?_⟩
  refine⟨_,rfl,p,C,dx,_,_,rfl,hp,T.cl,T.nP,flds_place _ _,_,_,rfl,rfl,_,rfl,p,C,dx,_,rfl,hp,T.cl,T.nP,flds_lt _ _,?_⟩
  refine⟨_,rfl,?_⟩
  rw[flds_put]
  exact q _ hv
theorem okH_go_back (F_Y19:Fun K "go_back" "Bits.go_back" s_Y19 f fd)(T:Txt K mg C fI fT fU fL fG dI dT dU dL dG):FnOkH P w K mg base 1 f fd p_Y19 (spBackH C):=by
 refine F_Y19.okH sc_Y19 (fun vs H Q E h=>?_) (fun cdv A outer s H vs Q E h=>?_)
 ·obtain⟨p,dx,r,z,m,rfl,_⟩:=h
  rfl
 obtain⟨p,dx,r,z,m,rfl,hp,hm,q⟩:=h
 refine⟨_,(pss_cons (ps_if (PW.pt (pw_or (pt_cmpR op_lt (pv 1) pe_int (nomark _)) (pw_or1 (pt_cmpR op_gt (pv 1) (pe_fld (pv 0) rfl) (nomark _))))) (pss_one ps_never) pss_nil)
   (pss_one (ps_fld (pv 0) (pv 1) rfl))),?_⟩
 refine⟨_,rfl,_,_,rfl,rfl,_,rfl,?_⟩
 refine ite2 (fun c=>?_) (fun c=>?_)
 ·have c':(m:Int)<0:=of_decide_eq_true c
  omega
 ·refine⟨_,rfl,_,rfl,p,C,dx,_,_,rfl,hp,T.cl,T.nP,flds_place _ _,_,_,rfl,rfl,_,rfl,?_⟩
  refine ite2 (fun c2=>?_) (fun c2=>?_)
  ·have c3:(m:Int)>(z:Int):=of_decide_eq_true c2
   omega
  ·refine⟨_,rfl,_,rfl,p,C,dx,_,rfl,hp,T.cl,T.nP,flds_lt _ _,?_⟩
   rw[flds_put]
   exact q
end
section
variable {P:Program}{w:World}{K:PySem.W.Frag}{mg:Str→Option Value}{base:Heap}{f C fI fT fU fL fG CP:Addr}{fd dI dT dU dL dG:FuncData}{mP:List Value}
theorem ok_go_back (F_Y19:Fun K "go_back" "Bits.go_back" s_Y19 f fd)(T:Txt K mg C fI fT fU fL fG dI dT dU dL dG)(X_E3:Exc K mg "NoPlace" CP mP):FnOk P w K mg base (CXR P w) 1 f fd p_Y19 (spBack C CP):=by
 refine F_Y19.okX sc_Y19 (fun vs H Q E h=>?_) (fun cdv A outer s H vs Q E hr h=>?_)
 ·obtain⟨p,dx,r,z,m,rfl,_⟩:=h
  rfl
 obtain⟨p,dx,r,z,m,rfl,hp,q,e⟩:=h
 refine⟨_,(pss_cons (ps_if (PW.pt (pw_or (pt_cmpR op_lt (pv 1) pe_int (nomark _)) (pw_or1 (pt_cmpR op_gt (pv 1) (pe_fld (pv 0) rfl) (nomark _))))) (pss_one (ps_raise X_E3 (pa_cons pe_str pa_nil))) pss_nil)
   (pss_one (ps_fld (pv 0) (pv 1) rfl))),?_⟩
 refine⟨_,rfl,_,_,rfl,rfl,_,rfl,?_⟩
 refine ite2 (fun c=>?_) (fun c=>?_)
 ·have c':m<0:=of_decide_eq_true c
  refine iteT ?_
  exact⟨(by show 1≤sizeLine;decide),e (by omega)⟩
 ·have c':¬m<0:=of_decide_eq_false (Bool.eq_false_iff.mpr c)
  refine⟨_,rfl,_,rfl,p,C,dx,_,_,rfl,hp,T.cl,T.nP,flds_place _ _,_,_,rfl,rfl,_,rfl,?_⟩
  refine ite2 (fun c2=>?_) (fun c2=>?_)
  ·have c3:m>(z:Int):=of_decide_eq_true c2
   exact⟨(by show 1≤sizeLine;decide),e (by omega)⟩
  ·have c3:¬m>(z:Int):=of_decide_eq_false (Bool.eq_false_iff.mpr c2)
   refine⟨_,rfl,_,rfl,p,C,dx,_,rfl,hp,T.cl,T.nP,flds_lt _ _,?_⟩
   rw[flds_put]
   exact q ⟨by omega,by omega⟩
end
theorem lo62 (n:Nat):(-(2 ^ 62):Int)≤(n:Int):=Int.le_trans (by decide) (Int.natCast_nonneg n)
theorem hi62 {n:Nat}(h:n≤1000000):(n:Int)<2 ^ 62:=Int.lt_of_le_of_lt (Int.ofNat_le.mpr h) (by decide)
theorem nat_of {z:Int}(h:0≤z):∃n:Nat,z=(n:Int):=⟨z.toNat,by omega⟩
noncomputable abbrev vbits (bl:List Nat):List V:=bl.map fun(b:Nat)=>V.int (b:Int)
structure At (C:Addr)(H:Hp)(b dx r:Addr)(bl:List Nat)(z:Nat):Prop where
 obj:H b=some (.ins C dx (flds r z))
 row:H r=some (.tup (vbits bl))
 le:z≤bl.length
theorem At.same {C:Addr}{H H':Hp}{b dx r:Addr}{bl:List Nat}{z:Nat}(h:At C H b dx r bl z)(s:Same H H'):At C H' b dx r bl z:=⟨s _ _ h.obj,s _ _ h.row,h.le⟩
theorem At.ne {C:Addr}{H:Hp}{b dx r:Addr}{bl:List Nat}{z:Nat}(h:At C H b dx r bl z):r≠b:=fun e=>by
 have a:=h.row
 rw[e,h.obj]at a
 cases a
theorem At.grow {C t:Addr}{H H':Hp}{b dx r:Addr}{bl:List Nat}{z:Nat}(h:At C H b dx r bl z)(s:Grow t H H')(hb:b≠t)(hr:r≠t):At C H' b dx r bl z:=⟨s _ _ hb h.obj,s _ _ hr h.row,h.le⟩
theorem At.to {C:Addr}{H:Hp}{b dx r:Addr}{bl:List Nat}{z:Nat}(h:At C H b dx r bl z){y:Nat}(hy:y≤bl.length):At C (upd H b (.ins C dx (flds r y))) b dx r bl y:=⟨upd_same,by rw[upd_ne h.ne];exact h.row,hy⟩
theorem vbits_at {bl:List Nat}{z:Nat}{v:V}(h:(vbits bl)[z]?=some v):∃x,bl[z]?=some x∧v=.int (x:Int):=by
 rw[List.getElem?_map]at h
 cases e:bl[z]? with
 | none=>rw[e]at h;cases h
 | some x=>rw[e]at h;exact⟨x,rfl,(Option.some.inj h).symm⟩
theorem vbits_len (bl:List Nat):(vbits bl).length=bl.length:=List.length_map _
def spTakeB (C CN:Addr):Sp:=fun vs H Q E=>∃(b dx r:Addr)(bl:List Nat)(z:Nat),vs=[.ref b]∧At C H b dx r bl z ∧
 (∀x H',bl[z]?=some x→Grow b H H'→At C H' b dx r bl (z+1)→Q (.int (x:Int)) H')∧(z=bl.length→E (.ref CN) none H)
theorem take_imp {C CN:Addr}:∀vs H Q E,spTakeB C CN vs H Q E→spTake C CN vs H Q E:=by
 rintro vs H Q E ⟨b,dx,r,bl,z,rfl,hA,q,e⟩
 refine⟨b,dx,r,vbits bl,z,rfl,hA.obj,hA.row,by rw[vbits_len];exact hA.le,fun v hv=>?_,fun hz=>e (by rw[vbits_len]at hz;exact hz)⟩
 obtain⟨x,hx,rfl⟩:=vbits_at hv
 have hlt:z<bl.length:=by
  rcases Nat.lt_or_ge z bl.length with y|y
  ·exact y
  ·rw[List.getElem?_eq_none y]at hx;cases hx
 exact q x _ hx (Grow.upd _) (hA.to hlt)
def spRaw {α:Type}(C CN:Addr)(Sh:Hp→V→α→Prop)(F:α→List Nat→Option (V×Nat)):Sp:=fun vs H Q E=>∃(b dx r:Addr)(bl:List Nat)(z:Nat)(x:V)(a:α),vs=[.ref b,x]∧At C H b dx r bl z∧Sh H x a ∧
 (∀v u H',F a (bl.drop z)=some (v,u)→Grow b H H'→At C H' b dx r bl (z+u)→Q v H') ∧
 (∀z' H',F a (bl.drop z)=none→z≤z'→Grow b H H'→At C H' b dx r bl z'→E (.ref CN) none H')
def spDone {α:Type}(C CN:Addr)(Sh:Hp→V→α→Prop)(F:α→List Nat→Option (V×Nat)):Sp:=fun vs H Q E=>∃(b dx r:Addr)(bl:List Nat)(z:Nat)(x:V)(a:α),vs=[.ref b,x]∧At C H b dx r bl z∧Sh H x a ∧
 (∀v u H',F a (bl.drop z)=some (v,u)→Grow b H H'→At C H' b dx r bl (z+u)→Q v H') ∧
 (∀H',F a (bl.drop z)=none→Grow b H H'→At C H' b dx r bl z→E (.ref CN) none H')
def spDW (P:Program)(w:World)(K:PySem.W.Frag)(mg:Str→Option Value)(base:Heap)(k0:Nat)(C CN:Addr):Sp:=fun vs H Q E=>∃(b dx r f:Addr)(bl:List Nat)(z:Nat)(x:V)(fd:FuncData)(ps:List Str)(k:Nat)(sp:Sp),
 vs=[.ref b,.ref f,x]∧FnOk P w K mg base (CXR P w) k f fd ps sp∧k≤k0∧PySem.W.keepIn K (.ref f)=true∧Binds K fd ps []∧At C H b dx r bl z ∧
 ∀Ex:XK,(∀z' H1,z≤z'→At C H1 b dx r bl z'→(∀H2,Grow b H1 H2→At C H2 b dx r bl z→E (.ref CN) none H2)→Ex (.ref CN) none H1)→sp [.ref b,x] H Q Ex
theorem dw_of {α:Type}{P:Program}{w:World}{K:PySem.W.Frag}{mg:Str→Option Value}{base:Heap}{k k0:Nat}{C CN f:Addr}{fd:FuncData}{ps:List Str}{x:Str}{Sh:Hp→V→α→Prop}{F:α→List Nat→Option (V×Nat)}(G:FnX P w K mg base x f fd ps k (spRaw C CN Sh F))(hk:k≤k0)
  {b dx r:Addr}{bl:List Nat}{z:Nat}{y:V}{a:α}{H:Hp}{Q:VK}{E:XK}(hA:At C H b dx r bl z)(hS:Sh H y a)(q:∀v u H',F a (bl.drop z)=some (v,u)→Grow b H H'→At C H' b dx r bl (z+u)→Q v H')
  (e:∀H',F a (bl.drop z)=none→Grow b H H'→At C H' b dx r bl z→E (.ref CN) none H'):spDW P w K mg base k0 C CN [.ref b,.ref f,y] H Q E :=
 ⟨b,dx,r,f,bl,z,y,fd,ps,k,_,rfl,G.ok,hk,G.kp,G.bd,hA,fun Ex hE=>⟨b,dx,r,bl,z,y,a,rfl,hA,hS,q,fun z' H1 n1 l1 g1 a1=>hE z' H1 l1 a1 fun H2 g2 a2=>e H2 n1 (g1.trans g2) a2⟩⟩
section
variable {P:Program}{w:World}{K:PySem.W.Frag}{mg:Str→Option Value}{base:Heap}{f C fI fT fU fL fG CN:Addr}{fd dI dT dU dL dG:FuncData}{mN:List Value}
theorem ok_Y22 {k0:Nat}(F_Y22:Fun K "drawn_whole" "drawn_whole" s_Y22 f fd)(T:Txt K mg C fI fT fU fL fG dI dT dU dL dG)(X_E1:Exc K mg "NoBits" CN mN)(hNN:mN.contains (.ref CN)=true)(g_used:FnOk P w K mg base CX0 1 fU dU p_Y41 (spUsed C))(gH_go_back:FnOkH P w K mg base 1 fG dG p_Y19 (spBackH C)) :
  FnOk P w K mg base (CXR P w) (k0+1+1) f fd p_Y22 (spDW P w K mg base (k0+1) C CN):=by
 refine F_Y22.okX sc_Y22 (fun vs H Q E h=>?_) (fun cdv A outer s H vs Q E hr h=>?_)
 ·obtain⟨b,dx,r,f,bl,z,x,fd,ps,k,sp,rfl,_⟩:=h
  rfl
 obtain⟨b,dx,r,f',bl,z,x,fd',ps',k,sp,rfl,F,hk,kp,hb,hA,q⟩:=h
 refine⟨_,(pss_cons (ps_set (i:=3) sc_Y22.nd rfl (Or.inl rfl) (pe_meth0 (pv 0) T.cl T.m_used g_used (hr.mono (by first|decide|omega)) T.b_used .nil pass0))
   (pss_one (ps_try (psx_ret (px_callV 1 (pv 1) hr (pa_cons (pv 0) (pa_cons (pv 2) pa_nil)))) (Hs.cons X_E1 rfl (by decide) (fun y ps ok hd=>(pss_cons (ps_expr (pe_methH (pv 0) T.cl T.m_go_back gH_go_back ((hr.mono (by first|decide|omega)).h _) T.b_go_back (pa_cons (pv 3) pa_nil)))
   (pss_one (ps_raiseH ok hd X_E1 (pa_cons pe_str pa_nil))))) .nil) rfl rfl (fun _=>PassesOwnAt.leaving)))),?_⟩
 refine⟨_,rfl,b,dx,_,rfl,hA.obj,flds_no _ _ (by decide +kernel) (by decide +kernel),b,dx,r,z,rfl,hA.obj,?_⟩
 refine⟨f',fd',k,ps',sp,rfl,F,hk,kp,hb,_,rfl,_,rfl,q _ fun z' H1 hz hA1 e=>?_⟩
 refine⟨"NoBits",CN,mN,_,rfl,X_E1,if_pos hNN,?_⟩
 refine⟨_,rfl,b,dx,_,rfl,hA1.obj,flds_no _ _ (by decide +kernel) (by decide +kernel),_,rfl,b,dx,r,z',z,rfl,hA1.obj,hz,?_⟩
 exact⟨(by show 1≤sizeLine;decide),e _ (Grow.upd _) (hA1.to hA.le)⟩
end
noncomputable def evR (m:Nat):Nat→Nat→Nat→List Nat→Option (Nat×Nat)
 | _,_,_,[]=>none
 | n,s,u,b::bs=>if 2*s<m then evR m (2*n+b) (2*s) (u+1) bs else if 2*n+b<m then some (2*n+b,u+1)else evR m (2*n+b-m) (2*s-m) (u+1) bs
noncomputable def evG (m n s u:Nat)(bs:List Nat):Option (Nat×Nat):=if s<m then evR m n s u bs else if n<m then some (n,u)else evR m (n-m) (s-m) u bs
noncomputable def evF (m:Nat)(bs:List Nat):Option (Nat×Nat):=evG m 0 1 0 bs
noncomputable def evV (m:Nat)(bs:List Nat):Option (V×Nat):=(evF m bs).map fun p=>(V.int (p.1:Int),p.2)
theorem evG_nil {m n s u:Nat}(h:s<m):evG m n s u []=none:=by
 unfold evG
 rw[if_pos h]
 rfl
theorem evG_step {m n s u b:Nat}{bs:List Nat}(h:s<m):evG m n s u (b::bs)=evG m (2*n+b) (2*s) (u+1) bs:=by
 unfold evG
 rw[if_pos h]
 rfl
theorem evG_less {m n s u:Nat}{bs:List Nat}(h:¬s<m)(h2:¬n<m)(h3:s<2*m):evG m n s u bs=evG m (n-m) (s-m) u bs:=by
 unfold evG
 rw[if_neg h,if_neg h2,if_pos (by omega)]
theorem evG_end {m n s u:Nat}{bs:List Nat}(h:¬s<m)(h2:n<m):evG m n s u bs=some (n,u):=by
 unfold evG
 rw[if_neg h,if_pos h2]
theorem drop_at {bl:List Nat}{z x:Nat}(h:bl[z]?=some x):bl.drop z=x::bl.drop (z+1):=by
 have hlt:z<bl.length:=by
  rcases Nat.lt_or_ge z bl.length with y|y
  ·exact y
  ·rw[List.getElem?_eq_none y]at h;cases h
 rw[List.drop_eq_getElem_cons hlt]
 rw[List.getElem?_eq_getElem hlt]at h
 rw[Option.some.inj h]
def ShN (_:Hp)(x:V)(m:Nat):Prop:=x=.int (m:Int)∧0<m
section
variable {P:Program}{w:World}{K:PySem.W.Frag}{mg:Str→Option Value}{base:Heap}{f C fI fT fU fL fG CN:Addr}{fd dI dT dU dL dG:FuncData}{mN:List Value}
theorem ok_Y44 (F_Y44:Fun K "take_even" "take_even" s_Y44 f fd)(T:Txt K mg C fI fT fU fL fG dI dT dU dL dG)(g_take:FnOk P w K mg base (CXR P w) 2 fT dT p_Y51 (spTakeB C CN)) :
  FnOk P w K mg base (CXR P w) 3 f fd p_Y44 (spRaw C CN ShN evV):=by
 refine F_Y44.okX sc_Y44 (fun vs H Q E h=>?_) (fun cdv A outer s H vs Q E hr h=>?_)
 ·obtain⟨b,dx,r,bl,z,x,a,rfl,_⟩:=h
  rfl
 obtain⟨b,dx,r,bl,z,x,m,rfl,hA,⟨rfl,hm⟩,q,e⟩:=h
 refine⟨_,(pss_cons (ps_set (i:=2) sc_Y44.nd rfl (Or.inl rfl) pe_int)
   (pss_cons (ps_set (i:=3) sc_Y44.nd rfl (Or.inl rfl) pe_int)
   (pss_one (ps_while (PassesOwn.leaving (M:=model P w)) (pt_truth pe_bl (fun _=>rfl)) (pss_cons (ps_while (PassesOwn.leaving (M:=model P w)) (pt_cmpR op_lt (pv 3) (pv 1) (nomark _)) (pss_cons (ps_set (i:=2) sc_Y44.nd rfl (Or.inl rfl) (pe_op op_add (pe_op op_mul pe_int (pv 2)) (pe_meth0 (pv 0) T.cl T.m_take g_take (hr.mono (by first|decide|omega)) T.b_take .nil cx_pass)))
   (pss_one (ps_set (i:=3) sc_Y44.nd rfl (Or.inl rfl) (pe_op op_mul pe_int (pv 3))))))
   (pss_cons (ps_if (pt_cmpR op_lt (pv 2) (pv 1) (nomark _)) (pss_one (ps_ret (pv 2))) pss_nil)
   (pss_cons (ps_set (i:=2) sc_Y44.nd rfl (Or.inl rfl) (pe_op op_sub (pv 2) (pv 1)))
   (pss_one (ps_set (i:=3) sc_Y44.nd rfl (Or.inl rfl) (pe_op op_sub (pv 3) (pv 1))))))))))),?_⟩
 refine⟨fun mu σ' H'=>∃(n sz u:Nat),mu=2*(bl.length-(z+u))+(if sz<m then 0 else 1)∧σ'=[some (.ref b),some (.int (m:Int)),some (.int (n:Int)),some (.int (sz:Int))]∧Grow b H H'∧At C H' b dx r bl (z+u)∧sz<2*m∧evF m (bl.drop z)=evG m n sz u (bl.drop (z+u)),⟨_,0,1,0,rfl,rfl,Grow.refl _ _,hA,by omega,rfl⟩,?_⟩
 rintro mu σ1 H1 ⟨n,sz,u,rfl,rfl,g1,a1,hsz,hev⟩
 refine⟨_,rfl,iteT ?_⟩
 refine⟨_,fun _ _ z=>z,?_⟩
 refine⟨fun m2 σ' H'=>∃(n2 sz2 u2:Nat),m2=bl.length-(z+u2)∧σ'=[some (.ref b),some (.int (m:Int)),some (.int (n2:Int)),some (.int (sz2:Int))]∧Grow b H H'∧At C H' b dx r bl (z+u2)∧sz2<2*m∧evF m (bl.drop z)=evG m n2 sz2 u2 (bl.drop (z+u2))∧u≤u2∧(u2=u→sz2=sz),⟨_,n,sz,u,rfl,rfl,g1,a1,hsz,hev,Nat.le_refl _,fun _=>rfl⟩,?_⟩
 rintro m2 σ2 H2 ⟨n2,sz2,u2,rfl,rfl,g2,a2,hsz2,hev2,hu2,hk2⟩
 refine⟨_,rfl,_,rfl,_,_,rfl,rfl,_,rfl,ite2 (fun c=>?_) (fun c=>?_)⟩
 ·have c':(sz2:Int)<(m:Int):=of_decide_eq_true c
  have hlt:sz2<m:=by omega
  refine⟨_,fun _ _ z=>z,?_⟩
  refine⟨_,rfl,_,_,rfl,rfl,.inl ⟨by decide,by decide⟩,_,rfl,b,dx,_,rfl,a2.obj,flds_no _ _ (by decide +kernel) (by decide +kernel),b,dx,r,bl,z+u2,rfl,a2,fun x H3 hx g3 a3=>?_,fun hz=>?_⟩
  ·have hl3:=a3.le
   refine⟨_,_,rfl,rfl,?_⟩
   refine⟨_,rfl,_,_,rfl,rfl,.inl ⟨by decide,by decide⟩,?_⟩
   refine⟨bl.length-(z+(u2+1)),by omega,2*n2+x,2*sz2,u2+1,rfl,?_,g2.trans g3,a3,by omega,?_,by omega,fun h=>by omega⟩
   ·show _=[some (V.ref b),some (V.int (m:Int)),some (V.int ((2*n2+x:Nat):Int)),some (V.int ((2*sz2:Nat):Int))]
    rw[Int.natCast_add,Int.natCast_mul,Int.natCast_mul]
    rfl
   ·rw[hev2,drop_at hx,evG_step hlt]
    rfl
  ·refine e (z+u2) H2 ?_ (by omega) g2 a2
   unfold evV
   rw[hev2,List.drop_eq_nil_of_le (by omega),evG_nil hlt]
   rfl
 ·have c':¬(sz2:Int)<(m:Int):=of_decide_eq_false (Bool.eq_false_iff.mpr c)
  have hge:¬sz2<m:=by omega
  refine⟨_,rfl,_,rfl,_,_,rfl,rfl,_,rfl,ite2 (fun c2=>?_) (fun c2=>?_)⟩
  ·have c3:(n2:Int)<(m:Int):=of_decide_eq_true c2
   refine⟨_,rfl,q _ u2 H2 ?_ g2 a2⟩
   unfold evV
   rw[hev2,evG_end hge (by omega)]
   rfl
  ·have c3:¬(n2:Int)<(m:Int):=of_decide_eq_false (Bool.eq_false_iff.mpr c2)
   refine⟨_,rfl,_,rfl,_,_,rfl,rfl,?_⟩
   refine⟨_,rfl,_,rfl,_,_,rfl,rfl,?_⟩
   have l2:=a2.le
   refine⟨2*(bl.length-(z+u2))+(if sz2-m<m then 0 else 1),?_,n2-m,sz2-m,u2,rfl,?_,g2,a2,by omega,by rw[hev2,evG_less hge (by omega) hsz2]⟩
   ·rw[if_pos (show sz2-m<m by omega)]
    by_cases hu:u2=u
    ·have:=hk2 hu
     subst this
     subst hu
     rw[if_neg hge]
     omega
    ·omega
   ·show _=[some (V.ref b),some (V.int (m:Int)),some (V.int ((n2-m:Nat):Int)),some (V.int ((sz2-m:Nat):Int))]
    rw[Int.ofNat_sub (by omega),Int.ofNat_sub (by omega)]
    rfl
theorem ok_Y77 (F_Y77:Fun K "even" "even" s_Y77 f fd){fD fR:Addr}{dD dR:FuncData}(g_Y22:FnX P w K mg base "drawn_whole" fD dD p_Y22 5 (spDW P w K mg base 4 C CN))(g_Y44:FnX P w K mg base "take_even" fR dR p_Y44 3 (spRaw C CN ShN evV)) :
  FnOk P w K mg base (CXR P w) 6 f fd p_Y77 (spDone C CN ShN evV):=by
 refine F_Y77.okX sc_Y77 (fun vs H Q E h=>?_) (fun cdv A outer s H vs Q E hr h=>?_)
 ·obtain⟨b,dx,r,bl,z,x,a,rfl,_⟩:=h
  rfl
 obtain⟨b,dx,r,bl,z,x,m,rfl,hA,hS,q,e⟩:=h
 refine⟨_,(pss_one (ps_ret (pe_fnX g_Y22 hr (pa_cons (pv 0) (pa_cons (pe_glob (v:=.ref _) rfl g_Y44.mg rfl) (pa_cons (pv 1) pa_nil)))))),?_⟩
 exact⟨_,rfl,_,rfl,dw_of g_Y44 (by decide) hA hS q e⟩
end
noncomputable def wd (m:Nat):Nat:=if m≤1 then 0 else Nat.log2 (m-1)+1
theorem wd_le (m:Nat):m≤2 ^ wd m:=by
 unfold wd
 by_cases h:m≤1
 ·rw[if_pos h];simpa using h
 ·rw[if_neg h]
  have:=(Nat.log2_lt (n:=m-1) (k:=Nat.log2 (m-1)+1) (by omega)).mp (Nat.lt_succ_self _)
  omega
theorem wd_lt {m v:Nat}(h:v<wd m):2 ^ v<m:=by
 unfold wd at h
 by_cases c:m≤1
 ·rw[if_pos c]at h;omega
 ·rw[if_neg c]at h
  have:=(Nat.le_log2 (n:=m-1) (k:=v) (by omega)).mp (by omega)
  omega
theorem wd_bd {m:Nat}(h:m≤2 ^ 1000):wd m≤1000:=by
 rcases Nat.lt_or_ge 1000 (wd m)with y|y
 ·have:=wd_lt y;omega
 ·exact y
noncomputable def num (l:List Nat):Nat:=l.foldl (fun a b=>2*a+b) 0
theorem num_snoc (l:List Nat)(b:Nat):num (l++[b])=2*num l+b:=by simp[num,List.foldl_append]
theorem take_snoc {l:List Nat}{i x:Nat}(h:l[i]?=some x):l.take (i+1)=l.take i++[x]:=by
 rw[List.take_add_one,h]
 rfl
noncomputable def siR (m w:Nat):Nat→Nat→List Nat→Option (Nat×Nat)
 | 0,_,_=>none
 | f+1,u,bs=>if bs.length<w then none else if num (bs.take w)<m then some (num (bs.take w),u+w)else siR m w f (u+w) (bs.drop w)
theorem siR_any {m w:Nat}(hw:0<w):∀(f f' u:Nat)(bs:List Nat),bs.length<f→bs.length<f'→siR m w f u bs=siR m w f' u bs
 | 0,_,_,_,h,_=>absurd h (Nat.not_lt_zero _)
 | _+1,0,_,_,_,h=>absurd h (Nat.not_lt_zero _)
 | f+1,f'+1,u,bs,h,h'=>by
  unfold siR
  by_cases c:bs.length<w
  ·rw[if_pos c,if_pos c]
  ·rw[if_neg c,if_neg c]
   by_cases d:num (bs.take w)<m
   ·rw[if_pos d,if_pos d]
   ·rw[if_neg d,if_neg d]
    exact siR_any hw f f' _ _ (by rw[List.length_drop];omega) (by rw[List.length_drop];omega)
noncomputable def siN (m w u:Nat)(bs:List Nat):Option (Nat×Nat):=siR m w (bs.length+1) u bs
theorem siN_few {m w u:Nat}{bs:List Nat}(h:bs.length<w):siN m w u bs=none:=by
 unfold siN siR
 rw[if_pos h]
theorem siN_end {m w u:Nat}{bs:List Nat}(h:w≤bs.length)(d:num (bs.take w)<m):siN m w u bs=some (num (bs.take w),u+w):=by
 unfold siN siR
 rw[if_neg (by omega),if_pos d]
theorem siN_on {m w u:Nat}{bs:List Nat}(hw:0<w)(h:w≤bs.length)(d:¬num (bs.take w)<m):siN m w u bs=siN m w (u+w) (bs.drop w):=by
 have e:siN m w u bs=siR m w bs.length (u+w) (bs.drop w):=by
  unfold siN
  rw[siR,if_neg (by omega),if_neg d]
 rw[e]
 unfold siN
 exact siR_any hw _ _ _ _ (by rw[List.length_drop];omega) (by omega)
noncomputable def siF (m:Nat)(bs:List Nat):Option (Nat×Nat):=siN m (wd m) 0 bs
noncomputable def siV (m:Nat)(bs:List Nat):Option (V×Nat):=(siF m bs).map fun p=>(V.int (p.1:Int),p.2)
def ShS (_:Hp)(x:V)(m:Nat):Prop:=x=.int (m:Int)∧0<m∧m≤2 ^ 1000
def spWidth:Sp:=fun vs H Q _=>∃m:Nat,vs=[.int (m:Int)]∧m≤2 ^ 1000∧Q (.int (wd m:Int)) H
def spNum (C CN:Addr):Sp:=fun vs H Q E=>∃(b dx r:Addr)(bl:List Nat)(z k:Nat),vs=[.ref b,.int (k:Int)]∧At C H b dx r bl z∧k≤100000 ∧
 (z+k≤bl.length→∀H',Grow b H H'→At C H' b dx r bl (z+k)→Q (.int (num ((bl.drop z).take k):Int)) H')∧(bl.length<z+k→∀z' H',z≤z'→Grow b H H'→At C H' b dx r bl z'→E (.ref CN) none H')
section
variable {P:Program}{w:World}{K:PySem.W.Frag}{mg:Str→Option Value}{base:Heap}{f C fI fT fU fL fG CN:Addr}{fd dI dT dU dL dG:FuncData}{mN:List Value}
theorem ok_Y43 (F_Y43:Fun K "width_for" "width_for" s_Y43 f fd):FnOk P w K mg base CX0 1 f fd p_Y43 spWidth:=by
 refine F_Y43.ok sc_Y43 (fun vs H Q E h=>?_) (fun cdv A outer s H vs Q E hr h=>?_)
 ·obtain⟨m,rfl,_⟩:=h
  rfl
 obtain⟨m,rfl,hm,q⟩:=h
 have hb:=wd_bd hm
 refine⟨_,(pss_cons (ps_set (i:=1) sc_Y43.nd rfl (Or.inl rfl) pe_int)
   (pss_cons (ps_while PassesOwn.never (pt_cmpR op_lt (pe_op op_shl pe_int (pv 1)) (pv 0) (nomark _)) (pss_one (ps_set (i:=1) sc_Y43.nd rfl (Or.inl rfl) (pe_op op_add (pv 1) pe_int))))
   (pss_one (ps_ret (pv 1))))),?_⟩
 refine⟨fun mu σ' H'=>∃v:Nat,mu=wd m-v∧σ'=[some (.int (m:Int)),some (.int (v:Int))]∧H'=H∧v≤wd m,⟨_,0,rfl,rfl,rfl,Nat.zero_le _⟩,?_⟩
 rintro mu σ1 H1 ⟨v,rfl,rfl,rfl,hv⟩
 refine⟨_,rfl,_,_,rfl,rfl,⟨by omega,by omega,by decide⟩,_,rfl,_,_,rfl,rfl,_,rfl,?_⟩
 rw[Int.toNat_natCast,Int.one_mul]
 have e2:(2:Int) ^ v=((2 ^ v:Nat):Int):=by rw[Int.natCast_pow];rfl
 rw[e2]
 refine ite2 (fun c=>?_) (fun c=>?_)
 ·have c':((2 ^ v:Nat):Int)<(m:Int):=of_decide_eq_true c
  have c2:2 ^ v<m:=by omega
  have hlt:v<wd m:=by
   rcases Nat.lt_or_ge v (wd m)with y|y
   ·exact y
   ·have z:=wd_le m
    have:wd m=v:=by omega
    rw[this]at z
    omega
  refine⟨_,fun _ _ z=>z,?_⟩
  exact⟨_,rfl,_,_,rfl,rfl,wd m-(v+1),by omega,v+1,rfl,rfl,rfl,hlt⟩
 ·have c':¬((2 ^ v:Nat):Int)<(m:Int):=of_decide_eq_false (Bool.eq_false_iff.mpr c)
  have e:v=wd m:=by
   rcases Nat.lt_or_ge v (wd m)with y|y
   ·have:=wd_lt y;omega
   ·omega
  subst e
  exact⟨_,rfl,q⟩
theorem ok_Y32 (F_Y32:Fun K "take_number" "take_number" s_Y32 f fd)(B:Bl mg)(T:Txt K mg C fI fT fU fL fG dI dT dU dL dG)(g_take:FnOk P w K mg base (CXR P w) 2 fT dT p_Y51 (spTakeB C CN)) :
  FnOk P w K mg base (CXR P w) 3 f fd p_Y32 (spNum C CN):=by
 refine F_Y32.okX sc_Y32 (fun vs H Q E h=>?_) (fun cdv A outer s H vs Q E hr h=>?_)
 ·obtain⟨b,dx,r,bl,z,k,rfl,_⟩:=h
  rfl
 obtain⟨b,dx,r,bl,z,k,rfl,hA,hk,q,e⟩:=h
 refine⟨_,(pss_cons (ps_set (i:=2) sc_Y32.nd rfl (Or.inl rfl) pe_int)
   (pss_cons (ps_for (PassesOwn.leaving (M:=model P w)) rfl (pi_range1 rfl B.range_ (pa_cons (pv 1) pa_nil)) (pg_name (i:=3) sc_Y32.nd rfl (Or.inl rfl)) (pss_one (ps_set (i:=2) sc_Y32.nd rfl (Or.inl rfl) (pe_op op_add (pe_op op_mul pe_int (pv 2)) (pe_meth0 (pv 0) T.cl T.m_take g_take (hr.mono (by first|decide|omega)) T.b_take .nil cx_pass)))))
   (pss_one (ps_ret (pv 2))))),?_⟩
 refine⟨_,rfl,_,rfl,by omega,by omega,?_⟩
 rw[Int.toNat_natCast]
 refine for_range (lo:=0) (n:=k) (fun i σ' H'=>z+i≤bl.length∧Grow b H H'∧At C H' b dx r bl (z+i)∧∃o,σ'=[some (.ref b),some (.int (k:Int)),some (.int (num ((bl.drop z).take i):Int)),o]) ⟨hA.le,Grow.refl _ _,hA,_,rfl⟩ ?_ ?_
 ·rintro i σ1 H1 hi ⟨hl,g1,a1,o,rfl⟩
  refine⟨_,rfl,_,_,rfl,rfl,.inl ⟨by decide,by decide⟩,_,rfl,b,dx,_,rfl,a1.obj,flds_no _ _ (by decide +kernel) (by decide +kernel),b,dx,r,bl,z+i,rfl,a1,fun x H2 hx g2 a2=>?_,fun hz=>?_⟩
  ·refine⟨_,_,rfl,rfl,?_⟩
   refine⟨a2.le,g1.trans g2,a2,some (.int (0+(i:Int))),?_⟩
   have hx2:(bl.drop z)[i]?=some x:=by rw[List.getElem?_drop];exact hx
   rw[take_snoc hx2,num_snoc,Int.natCast_add,Int.natCast_mul]
   rfl
  ·exact e (by omega) (z+i) H1 (by omega) g1 a1
 ·rintro σ1 H1 ⟨hl,g1,a1,o,rfl⟩
  exact⟨_,rfl,q hl H1 g1 a1⟩
theorem ok_Y3 (F_Y3:Fun K "take_simple_even" "take_simple_even" s_Y3 f fd){fN:Addr}{dN:FuncData}(g_Y43:Fn P w K mg base "width_for" p_Y43 1 spWidth)(g_Y32:FnX P w K mg base "take_number" fN dN p_Y32 3 (spNum C CN)) :
  FnOk P w K mg base (CXR P w) 4 f fd p_Y3 (spRaw C CN ShS siV):=by
 refine F_Y3.okX sc_Y3 (fun vs H Q E h=>?_) (fun cdv A outer s H vs Q E hr h=>?_)
 ·obtain⟨b,dx,r,bl,z,x,a,rfl,_⟩:=h
  rfl
 obtain⟨b,dx,r,bl,z,x,m,rfl,hA,⟨rfl,hm,hm2⟩,q,e⟩:=h
 have hb:=wd_bd hm2
 have hz0:=hA.le
 refine⟨_,(pss_cons (ps_set (i:=2) sc_Y3.nd rfl (Or.inl rfl) (pe_fn g_Y43 hr (pa_cons (pv 1) pa_nil)))
   (pss_cons (ps_set (i:=3) sc_Y3.nd rfl (Or.inl rfl) (pe_fnX g_Y32 hr (pa_cons (pv 0) (pa_cons (pv 2) pa_nil))))
   (pss_cons (ps_while (PassesOwn.leaving (M:=model P w)) (pt_cmpR op_ge (pv 3) (pv 1) (nomark _)) (pss_one (ps_set (i:=3) sc_Y3.nd rfl (Or.inl rfl) (pe_fnX g_Y32 hr (pa_cons (pv 0) (pa_cons (pv 2) pa_nil))))))
   (pss_one (ps_ret (pv 3)))))),?_⟩
 refine⟨_,rfl,m,rfl,hm2,?_⟩
 have z0:bl.drop (z+0)=bl.drop z:=rfl
 refine⟨_,rfl,_,rfl,b,dx,r,bl,z,wd m,rfl,hA,by omega,fun hl H1 g1 a1=>?_,fun hl z' H1 h1 g1 a1=>e z' H1 ?_ h1 g1 a1⟩
 ·refine⟨fun mu σ' H'=>∃u:Nat,mu=bl.length-(z+u)∧z+u+wd m≤bl.length∧σ'=[some (.ref b),some (.int (m:Int)),some (.int (wd m:Int)),some (.int (num ((bl.drop (z+u)).take (wd m)):Int))]∧Grow b H H'∧At C H' b dx r bl (z+u+wd m)∧siF m (bl.drop z)=siN m (wd m) u (bl.drop (z+u)),⟨_,0,rfl,hl,rfl,g1,a1,rfl⟩,?_⟩
  rintro mu σ2 H2 ⟨u,rfl,hu,rfl,g2,a2,hs⟩
  have hdl:wd m≤(bl.drop (z+u)).length:=by rw[List.length_drop];omega
  refine⟨_,rfl,_,rfl,_,_,rfl,rfl,_,rfl,ite2 (fun c=>?_) (fun c=>?_)⟩
  ·have c':(m:Int)≤(num ((bl.drop (z+u)).take (wd m)):Int):=of_decide_eq_true c
   have cn:¬num ((bl.drop (z+u)).take (wd m))<m:=by omega
   have hw:0<wd m:=by
    rcases Nat.eq_zero_or_pos (wd m)with y|y
    ·rw[y]at cn
     have:=wd_le m
     rw[y]at this
     have e0:num ((bl.drop (z+u)).take 0)=0:=rfl
     rw[e0]at cn
     omega
    ·exact y
   have hs2:=hs.trans (siN_on hw hdl cn)
   rw[List.drop_drop]at hs2
   refine⟨_,fun _ _ z=>z,?_⟩
   refine⟨_,rfl,_,rfl,b,dx,r,bl,z+u+wd m,wd m,rfl,a2,by omega,fun hl3 H3 g3 a3=>?_,fun hl3 z' H3 h3 g3 a3=>e z' H3 ?_ (by omega) (g2.trans g3) a3⟩
   ·refine⟨bl.length-(z+(u+wd m)),by omega,u+wd m,rfl,by omega,?_,g2.trans g3,?_,?_⟩
    ·rw[Nat.add_assoc]
     rfl
    ·rw[←Nat.add_assoc];exact a3
    ·rw[←Nat.add_assoc];exact hs2
   ·unfold siV
    rw[hs2,siN_few (by rw[List.length_drop];omega)]
    rfl
  ·have c':¬(m:Int)≤(num ((bl.drop (z+u)).take (wd m)):Int):=of_decide_eq_false (Bool.eq_false_iff.mpr c)
   refine⟨_,rfl,q _ (u+wd m) H2 ?_ g2 (by rw[←Nat.add_assoc];exact a2)⟩
   unfold siV
   rw[hs,siN_end hdl (by omega)]
   rfl
 ·unfold siV siF
  rw[siN_few (by rw[List.length_drop];omega)]
  rfl
theorem ok_Y23 (F_Y23:Fun K "simple_even" "simple_even" s_Y23 f fd){fD fR:Addr}{dD dR:FuncData}(g_Y22:FnX P w K mg base "drawn_whole" fD dD p_Y22 5 (spDW P w K mg base 4 C CN))(g_Y3:FnX P w K mg base "take_simple_even" fR dR p_Y3 4 (spRaw C CN ShS siV)) :
  FnOk P w K mg base (CXR P w) 6 f fd p_Y23 (spDone C CN ShS siV):=by
 refine F_Y23.okX sc_Y23 (fun vs H Q E h=>?_) (fun cdv A outer s H vs Q E hr h=>?_)
 ·obtain⟨b,dx,r,bl,z,x,a,rfl,_⟩:=h
  rfl
 obtain⟨b,dx,r,bl,z,x,m,rfl,hA,hS,q,e⟩:=h
 refine⟨_,(pss_one (ps_ret (pe_fnX g_Y22 hr (pa_cons (pv 0) (pa_cons (pe_glob (v:=.ref _) rfl g_Y3.mg rfl) (pa_cons (pv 1) pa_nil)))))),?_⟩
 exact⟨_,rfl,_,rfl,dw_of g_Y3 (by decide) hA hS q e⟩
end
noncomputable def vnats (l:List Nat):List V:=l.map fun(n:Nat)=>V.int (n:Int)
theorem vnats_ints (l:List Nat):vnats l=(l.map fun(n:Nat)=>(n:Int)).map V.int:=by rw[List.map_map];rfl
theorem vnats_at {l:List Nat}{j:Nat}(h:j<l.length):(vnats l)[j]?=some (V.int (l.getD j 0:Int)):=by
 rw[vnats,List.getElem?_map,List.getElem?_eq_getElem h,List.getD_eq_getElem?_getD,List.getElem?_eq_getElem h]
 rfl
theorem vnats_len (l:List Nat):(vnats l).length=l.length:=List.length_map _
theorem sum_nats:∀l:List Nat,(l.map fun(n:Nat)=>(n:Int)).sum=((l.sum:Nat):Int)
 | []=>rfl
 | a::l=>by rw[List.map_cons,List.sum_cons,List.sum_cons,sum_nats l,Int.natCast_add]
theorem vnats_app (a b:List Nat):vnats (a++b)=vnats a++vnats b:=List.map_append
theorem twn_tup {H:Hp}{t b:Addr}{k:Nat}{xs:List V}(h:Twn H t k)(hb:H b=some (.tup xs)):b≠t:=fun e=>by
 unfold Twn at h
 rw[e,h]at hb
 cases hb
theorem twn_ins {H:Hp}{t b:Addr}{k:Nat}{C dx:Addr}{fs:List (Str×V)}(h:Twn H t k)(hb:H b=some (.ins C dx fs)):b≠t:=fun e=>by
 unfold Twn at h
 rw[e,h]at hb
 cases hb
theorem At.town {C t:Addr}{H H':Hp}{b dx r:Addr}{bl:List Nat}{z k:Nat}(h:At C H b dx r bl z)(tw:Twn H t k)(g:Grow t H H'):At C H' b dx r bl z:=h.grow g (twn_ins tw h.obj) (twn_tup tw h.row)
theorem grow_twnB {C t:Addr}{H H':Hp}{b dx r:Addr}{bl:List Nat}{z k:Nat}(g:Grow b H H')(h:At C H b dx r bl z)(tw:Twn H t k):Twn H' t k:=g _ _ (fun e=>twn_ins tw h.obj e.symm) tw
theorem grow_scrB {K:PySem.W.Frag}{C a:Addr}{H H':Hp}{b dx r:Addr}{bl:List Nat}{z:Nat}{ns:List Int}(g:Grow b H H')(h:At C H b dx r bl z)(s:Scr K H a ns):Scr K H' a ns:=by
 rcases s with ⟨o,y⟩|y
 ·exact .inl ⟨o,g _ _ (fun e=>by rw[e,h.obj]at y;cases y) y⟩
 ·exact .inr y
theorem cat34 {K:PySem.W.Frag}{H:Hp}{a b:Addr}{xs ys:List V}{Q:VK}(ha:H a=some (.tup xs))(hb:H b=some (.tup ys))(hz:xs.length+ys.length≤300000)(q:∀p H',Same H H'→H' p=some (.tup (xs++ys))→Q (.ref p) H'):rCat0 K (.ref a) (.ref b) H Q:=by
 refine⟨a,b,xs,ys,rfl,rfl,SqT.of ha,SqT.of hb,small (by omega),fun e=>?_,fun _ e=>?_,fun _ _ p fp=>q p _ (same_new fp _) upd_same⟩
 ·subst e
  exact q b H (Same.refl _) hb
 ·subst e
  refine q a H (Same.refl _) ?_
  rw[List.append_nil]
  exact ha
theorem pss_never {X:Cx}{b:List Stmt}:PSs X b (fun _ _ _=>False):=fun _ _ _ _ _ _ h=>h.elim
def spNo:Sp:=fun _ _ _ _=>False
theorem ok_no {P:Program}{w:World}{K:PySem.W.Frag}{mg:Str→Option Value}{base:Heap}{CX:CXT}{f:Addr}{fd:FuncData}{ps:List Str}:FnOk P w K mg base CX 0 f fd ps spNo :=
 ⟨fun vs H Q E h=>h.elim,fun A outer s H args us vs Q E _ _ _ _ h=>h.elim⟩
def spRawN (C CN:Addr)(Sh:Hp→V→Prop):Sp:=fun vs H Q E=>∃(b dx r:Addr)(bl:List Nat)(z:Nat)(x:V),vs=[.ref b,x]∧At C H b dx r bl z∧bl.drop z=[1,1]∧Sh H x ∧
 ∀z' H',z≤z'→Grow b H H'→At C H' b dx r bl z'→E (.ref CN) none H'
def spDoneN (C CN:Addr)(Sh:Hp→V→Prop):Sp:=fun vs H Q E=>∃(b dx r:Addr)(bl:List Nat)(z:Nat)(x:V),vs=[.ref b,x]∧At C H b dx r bl z∧bl.drop z=[1,1]∧Sh H x ∧
 ∀H',Grow b H H'→At C H' b dx r bl z→E (.ref CN) none H'
theorem dw_ofN {P:Program}{w:World}{K:PySem.W.Frag}{mg:Str→Option Value}{base:Heap}{k k0:Nat}{C CN f:Addr}{fd:FuncData}{ps:List Str}{x:Str}{Sh:Hp→V→Prop}(G:FnX P w K mg base x f fd ps k (spRawN C CN Sh))(hk:k≤k0)
  {b dx r:Addr}{bl:List Nat}{z:Nat}{y:V}{H:Hp}{Q:VK}{E:XK}(hA:At C H b dx r bl z)(h11:bl.drop z=[1,1])(hS:Sh H y)
  (e:∀H',Grow b H H'→At C H' b dx r bl z→E (.ref CN) none H'):spDW P w K mg base k0 C CN [.ref b,.ref f,y] H Q E :=
 ⟨b,dx,r,f,bl,z,y,fd,ps,k,_,rfl,G.ok,hk,G.kp,G.bd,hA,fun Ex hE=>⟨b,dx,r,bl,z,y,rfl,hA,h11,hS,fun z' H1 l1 g1 a1=>hE z' H1 l1 a1 fun H2 g2 a2=>e H2 (g1.trans g2) a2⟩⟩
theorem ev_no {C CN:Addr}{b dx r:Addr}{bl:List Nat}{z m:Nat}{H:Hp}{Q:VK}{E:XK}(hA:At C H b dx r bl z)(h11:bl.drop z=[1,1])(hm:0<m)(hn:evV m [1,1]=none)
  (e:∀H',Grow b H H'→At C H' b dx r bl z→E (.ref CN) none H'):spDone C CN ShN evV [.ref b,.int (m:Int)] H Q E :=
 ⟨b,dx,r,bl,z,_,m,rfl,hA,⟨rfl,hm⟩,fun v u H' h=>(by rw[h11,hn]at h;cases h),fun H' _ g a=>e H' g a⟩
theorem ok__law_same0 {P:Program}{w:World}{K:PySem.W.Frag}{mg:Str→Option Value}{base:Heap}{f:Addr}{fd:FuncData}{ps:List Str}{sp:Sp}(no:∀vs H Q E,¬sp vs H Q E):FnOk P w K mg base CX0 0 f fd ps sp :=
 ⟨fun vs H Q E h=>absurd h (no vs H Q E),fun A outer s H args us vs Q E _ _ _ _ h=>absurd h (no vs H Q E)⟩
theorem vnats_in (T:Nat)(l:List Nat):inV (V.int (T:Int)) (vnats l)=decide (T∈l):=by
 unfold inV vnats
 rw[Bool.eq_iff_iff,List.any_eq_true,decide_eq_true_iff]
 constructor
 ·rintro ⟨x,hx,e⟩
  obtain⟨n,hn,rfl⟩:=List.mem_map.mp hx
  have e':((n:Int)==(T:Int))=true:=e
  have:n=T:=by have:=eq_of_beq e';omega
  exact this▸hn
 ·intro h
  exact⟨_,List.mem_map.mpr ⟨T,h,rfl⟩,by show((T:Int)==(T:Int))=true;simp⟩
theorem vnats_flat (l:List Nat):(vnats l).all flatV=true:=by
 rw[List.all_eq_true]
 intro x hx
 obtain⟨n,_,rfl⟩:=List.mem_map.mp hx
 rfl
theorem idx_at {T:Nat}{l:List Nat}(h:T∈l):(l.map fun(n:Nat)=>(n:Int))[l.idxOf T]?=some (T:Int)∧∀i,i<l.idxOf T→(l.map fun(n:Nat)=>(n:Int))[i]?≠some (T:Int):=by
 have hl:l.idxOf T<l.length:=List.idxOf_lt_length_of_mem h
 refine⟨?_,fun i hi e=>?_⟩
 ·rw[List.getElem?_map,List.getElem?_eq_getElem hl,List.getElem_idxOf hl]
  rfl
 ·have hil:i<l.length:=Nat.lt_trans hi hl
  rw[List.getElem?_map,List.getElem?_eq_getElem hil]at e
  have e':((l[i]:Nat):Int)=(T:Int):=Option.some.inj e
  exact absurd (show l[i]=T by omega) (by simpa using List.not_of_lt_findIdx (p:=fun x=>x==T) hi)
noncomputable def digs (T:Nat)(rs:List Nat):List Nat:=(List.range rs.length).filter fun i=>decide (T≤2*rs.getD i 0)
noncomputable def stepR (T:Nat)(rs:List Nat):List Nat:=rs.map fun r=>2*r%T
noncomputable def pkR (T:Nat):List Nat→Nat→Nat→List Nat→Option (Nat×Nat)
 | _,_,_,[]=>none
 | rs,p,u,b::bs=>if 2*p+b<(digs T rs).length then some ((digs T rs).getD (2*p+b) 0,u+1)else pkR T (stepR T rs) (2*p+b-(digs T rs).length) (u+1) bs
noncomputable def pfigs (T:Nat)(rs:List Nat)(i:Nat):List Nat:=(List.range i).filter fun k=>decide (T≤2*rs.getD k 0)
theorem pfigs_len (T:Nat)(rs:List Nat)(i:Nat):(pfigs T rs i).length≤i:=Nat.le_trans (List.length_filter_le _ _) (by rw[List.length_range];exact Nat.le_refl _)
theorem figs_yes {T:Nat}{rs:List Nat}{i:Nat}(h:T≤2*rs.getD i 0):vnats (pfigs T rs (i+1))=vnats (pfigs T rs i)++[V.int (i:Int)]:=by
 unfold pfigs
 rw[List.range_succ,List.filter_append,vnats,vnats,List.map_append,List.filter_cons_of_pos (by simpa using h)]
 rfl
theorem figs_no {T:Nat}{rs:List Nat}{i:Nat}(h:¬T≤2*rs.getD i 0):vnats (pfigs T rs (i+1))=vnats (pfigs T rs i):=by
 unfold pfigs
 rw[List.range_succ,List.filter_append,vnats,vnats,List.map_append,List.filter_cons_of_neg (by simpa using h)]
 exact List.append_nil _
theorem step_more {T:Nat}{rs:List Nat}{i:Nat}(h:i<rs.length):vnats (stepR T (rs.take (i+1)))=vnats (stepR T (rs.take i))++[V.int ((2*rs.getD i 0%T:Nat):Int)]:=by
 rw[List.take_add_one,List.getElem?_eq_getElem h,List.getD_eq_getElem?_getD,List.getElem?_eq_getElem h]
 unfold stepR vnats
 rw[List.map_append,List.map_append]
 rfl
theorem step_len (T:Nat)(rs:List Nat):(stepR T rs).length=rs.length:=List.length_map _
noncomputable def pkF (ws bs:List Nat):Option (Nat×Nat):=if ws.sum∈ws then some (ws.idxOf ws.sum,0)else pkR ws.sum ws 0 0 bs
noncomputable def pkV (ws bs:List Nat):Option (V×Nat):=(pkF ws bs).map fun p=>(V.int (p.1:Int),p.2)
def ShW (H:Hp)(x:V)(ws:List Nat):Prop:=∃r,x=.ref r∧H r=some (.tup (vnats ws))∧0<ws.sum∧ws.sum<1073741824∧ws.length≤1000
def ShX (H:Hp)(x:V)(ws:List Nat):Prop:=ShW H x ws∧ws.sum∉ws
section
variable {P:Program}{w:World}{K:PySem.W.Frag}{mg:Str→Option Value}{base:Heap}{f C fI fT fU fL fG CN:Addr}{fd dI dT dU dL dG:FuncData}{mN:List Value}
theorem ok_Y47 (F_Y47:Fun K "take_pick" "take_pick" s_Y47 f fd)(B:Bl mg)(T:Txt K mg C fI fT fU fL fG dI dT dU dL dG)(g_take:FnOk P w K mg base (CXR P w) 2 fT dT p_Y51 (spTakeB C CN)) :
  FnOk P w K mg base (CXR P w) 3 f fd p_Y47 (spRaw C CN ShX pkV):=by
 refine F_Y47.okX sc_Y47 (fun vs H Q E h=>?_) (fun cdv A outer s H vs Q E hr h=>?_)
 ·obtain⟨b,dx,r,bl,z,x,a,rfl,_⟩:=h
  rfl
 obtain⟨b,dx,r0,bl,z,x,ws,rfl,hA,⟨⟨wr,rfl,hW,hT,hT2,hwl⟩,hno⟩,q,e⟩:=h
 refine⟨_,(pss_cons (ps_set (i:=2) sc_Y47.nd rfl (Or.inr rfl) (pe_callB (call_sumT rfl) rfl B.sum_ L3.bt_sum (pa_cons (pv 1) pa_nil)))
   (pss_cons (ps_set (i:=3) sc_Y47.nd rfl (Or.inl rfl) (pv 1))
   (pss_cons (ps_set (i:=4) sc_Y47.nd rfl (Or.inl rfl) pe_int)
   (pss_one (ps_while (PassesOwn.leaving (M:=model P w)) (pt_truth pe_bl (fun _=>rfl)) (pss_cons (ps_set (i:=4) sc_Y47.nd rfl (Or.inl rfl) (pe_op op_add (pe_op op_mul pe_int (pv 4)) (pe_meth0 (pv 0) T.cl T.m_take g_take (hr.mono (by first|decide|omega)) T.b_take .nil cx_pass)))
   (pss_cons (ps_join (ps_comp 5 [] ["bits","weights","total","rests","place","ends","number","rest"] 2 rfl sc_Y47.nd rfl rfl (PI.or (pi_enumT rfl B.enumerate_ (pa_cons (pv 3) pa_nil)) (pi_enumL rfl B.enumerate_ (pa_cons (pv 3) pa_nil))) (fun _ _ _ _ _=>(pg_tupK K 2 rfl (pgs_cons (pg_name (i:=6) nd_1 rfl (Or.inl rfl) (Or.inr rfl)) (pgs_cons (pg_name (i:=7) nd_1 rfl (Or.inl rfl) (Or.inr rfl)) pgs_nil)) rfl rfl rfl)) (fun _ _ _ _ _=>(pif_one (pt_cmpR op_ge (pe_op op_mul pe_int (pv 7)) (pv 2) (nomark _)))) (fun _ _ _ _ _=>(pv 6))))
   (pss_cons (ps_if (pt_cmpR op_lt (pv 4) (pe_callB call_len_seq rfl B.len_ L3.bt_len (pa_cons (pv 5) pa_nil)) (nomark _)) (pss_one (ps_ret (pe_ix ix_list (pv 5) (pv 4) (fun _ _=>rfl)))) pss_nil)
   (pss_cons (ps_set (i:=4) sc_Y47.nd rfl (Or.inl rfl) (pe_op op_sub (pv 4) (pe_callB call_len_seq rfl B.len_ L3.bt_len (pa_cons (pv 5) pa_nil))))
   (pss_one (ps_joinN (ps_comp 3 [] ["bits","weights","total","rests","place","ends","rest"] 1 rfl sc_Y47.nd rfl rfl (PI.or (pi_tup (pv 3)) (pi_list (pv 3))) (fun _ _ _ _ _=>(pg_name (i:=6) nd_2 rfl (Or.inl rfl) (Or.inr rfl))) (fun _ _ _ _ _=>pif_nil) (fun _ _ _ _ _=>(pe_op op_mod (pe_op op_mul pe_int (pv 6)) (pv 2))))))))))))))),?_⟩
 refine⟨_,rfl,wr,ws.map (fun(n:Nat)=>(n:Int)),rfl,SqT.of (by rw[←vnats_ints];exact hW),?_⟩
 rw[sum_nats]
 refine⟨_,rfl,?_⟩
 have hpk:pkF ws (bl.drop z)=pkR ws.sum ws 0 0 (bl.drop z):=if_neg hno
 generalize hS:ws.sum=S at hT hT2 hpk
 refine⟨fun mu σ' H'=>∃(rs:List Nat)(pl u:Nat)(r:Addr)(o5:Option V),mu=bl.length-(z+u)∧σ'=[some (.ref b),some (.ref wr),some (.int (S:Int)),some (.ref r),some (.int (pl:Int)),o5]∧Grow b H H'∧At C H' b dx r0 bl (z+u)∧(H' r=some (.tup (vnats rs))∨H' r=some (.lst (vnats rs)))∧rs.length≤1000∧pkF ws (bl.drop z)=pkR S rs pl u (bl.drop (z+u)),
  ⟨_,ws,0,0,wr,none,rfl,rfl,Grow.refl _ _,hA,.inl hW,hwl,hpk⟩,?_⟩
 rintro mu σ1 H1 ⟨rs,pl,u,r,o5,rfl,rfl,g1,a1,hrs,hrl,hev⟩
 refine⟨_,rfl,iteT ?_⟩
 refine⟨_,fun _ _ z=>z,?_⟩
 -- place
 refine⟨_,rfl,_,_,rfl,rfl,.inl ⟨by decide,by decide⟩,_,rfl,b,dx,_,rfl,a1.obj,flds_no _ _ (by decide +kernel) (by decide +kernel),b,dx,r0,bl,z+u,rfl,a1,fun x H2 hx g2 a2=>?_,fun hz=>?_⟩
 rotate_left
 ·refine e (z+u) H1 ?_ (by omega) g1 a1
  unfold pkV
  rw[hev,List.drop_eq_nil_of_le (by omega)]
  rfl
 have hl2:=a2.le
 have hrb:r≠b:=fun y=>by
  rcases hrs with hh|hh<;>(rw[y,a1.obj]at hh;cases hh)
 replace hrs:H2 r=some (.tup (vnats rs))∨H2 r=some (.lst (vnats rs)):=hrs.imp (fun y=>g2 _ _ hrb y) (fun y=>g2 _ _ hrb y)
 refine⟨_,_,rfl,rfl,?_⟩
 have ep:(2:Int)*(pl:Int)+(x:Int)=((2*pl+x:Nat):Int):=by omega
 -- ends
 refine⟨fun σ' H'=>∃D:Addr,σ'=[some (.ref b),some (.ref wr),some (.int (S:Int)),some (.ref r),some (.int ((2*pl+x:Nat):Int)),some (.ref D)]∧Same H2 H'∧H' D=some (.lst (vnats (digs S rs))),?_,?_⟩
 rotate_left
 ·rcases hrs with hrs|hrs
  ·refine .inl ⟨_,rfl,r,rfl,⟨_,SqT.of hrs⟩,?_⟩
   refine⟨fun i mm acc σ' H'=>mm=rs.length-i∧i≤rs.length∧acc=vnats (pfigs S rs i)∧Same H2 H'∧∃o6 o7:Option V,σ'=[some (.ref b),some (.ref wr),some (.int (S:Int)),some (.ref r),some (.int ((2:Int)*(pl:Int)+(x:Int))),o5,o6,o7],⟨rs.length,rfl,Nat.zero_le _,rfl,Same.refl _,_,_,rfl⟩,?_⟩
   rintro i mm acc σ' H3 ⟨rfl,hi,rfl,s3,o6,o7,rfl⟩
   have hfl:=pfigs_len S rs i
   by_cases hlt:i<rs.length
   ·refine .inr ⟨⟨_,_,SqT.of (s3 _ _ hrs),vnats_at hlt⟩,smallL (by rw[vnats_len];omega),fun acc' σ2 H4=>acc'=vnats (pfigs S rs (i+1))∧Same H2 H4∧∃o6 o7:Option V,σ2=[some (.ref b),some (.ref wr),some (.int (S:Int)),some (.ref r),some (.int ((2:Int)*(pl:Int)+(x:Int))),o5,o6,o7],?_,?_⟩
    ·rintro acc' σ2 H4 ⟨rfl,s4,o6',o7',rfl⟩
     exact⟨rs.length-(i+1),by omega,rfl,hlt,rfl,s4,_,_,rfl⟩
    ·rintro v H4 ⟨p,y,fp,rfl,rfl,ex⟩
     have ex':=ex _ (SqT.of (s3 _ _ hrs))
     rw[vnats_at hlt]at ex'
     obtain rfl:=Option.some.inj ex'
     have s4:=s3.trans (same_new fp (.tup [V.int (i:Int),V.int ((rs.getD i 0:Nat):Int)]))
     refine⟨p,_,rfl,SqT.of upd_same,rfl,_,_,rfl,_,_,rfl,rfl,?_⟩
     refine⟨_,rfl,_,_,rfl,rfl,.inl ⟨by decide,by decide⟩,_,rfl,_,_,rfl,rfl,_,rfl,ite2 (fun c=>?_) (fun c=>?_)⟩
     ·have c':(S:Int)≤2*((rs.getD i 0:Nat):Int):=of_decide_eq_true c
      refine⟨_,rfl,?_,s4,_,_,rfl⟩
      rw[figs_yes (by omega)]
     ·have c':¬(S:Int)≤2*((rs.getD i 0:Nat):Int):=of_decide_eq_false (Bool.eq_false_iff.mpr c)
      refine⟨?_,s4,_,_,rfl⟩
      rw[figs_no (by omega)]
   ·have ei:i=rs.length:=by omega
    subst ei
    refine .inl ⟨⟨_,SqT.of (s3 _ _ hrs),by rw[vnats_len];exact Nat.le_refl _⟩,small (by rw[vnats_len];omega),fun D fD=>⟨D,?_,s3.trans (same_new fD _),upd_same⟩⟩
    rw[←ep]
    rfl
  ·refine .inr ⟨_,rfl,r,rfl,⟨_,SqL.of hrs⟩,?_⟩
   refine⟨fun i mm acc σ' H'=>mm=rs.length-i∧i≤rs.length∧acc=vnats (pfigs S rs i)∧Same H2 H'∧∃o6 o7:Option V,σ'=[some (.ref b),some (.ref wr),some (.int (S:Int)),some (.ref r),some (.int ((2:Int)*(pl:Int)+(x:Int))),o5,o6,o7],⟨rs.length,rfl,Nat.zero_le _,rfl,Same.refl _,_,_,rfl⟩,?_⟩
   rintro i mm acc σ' H3 ⟨rfl,hi,rfl,s3,o6,o7,rfl⟩
   have hfl:=pfigs_len S rs i
   by_cases hlt:i<rs.length
   ·refine .inr ⟨⟨_,_,SqL.of (s3 _ _ hrs),vnats_at hlt⟩,smallL (by rw[vnats_len];omega),fun acc' σ2 H4=>acc'=vnats (pfigs S rs (i+1))∧Same H2 H4∧∃o6 o7:Option V,σ2=[some (.ref b),some (.ref wr),some (.int (S:Int)),some (.ref r),some (.int ((2:Int)*(pl:Int)+(x:Int))),o5,o6,o7],?_,?_⟩
    ·rintro acc' σ2 H4 ⟨rfl,s4,o6',o7',rfl⟩
     exact⟨rs.length-(i+1),by omega,rfl,hlt,rfl,s4,_,_,rfl⟩
    ·rintro v H4 ⟨p,y,fp,rfl,rfl,ex⟩
     have ex':=ex _ (SqL.of (s3 _ _ hrs))
     rw[vnats_at hlt]at ex'
     obtain rfl:=Option.some.inj ex'
     have s4:=s3.trans (same_new fp (.tup [V.int (i:Int),V.int ((rs.getD i 0:Nat):Int)]))
     refine⟨p,_,rfl,SqT.of upd_same,rfl,_,_,rfl,_,_,rfl,rfl,?_⟩
     refine⟨_,rfl,_,_,rfl,rfl,.inl ⟨by decide,by decide⟩,_,rfl,_,_,rfl,rfl,_,rfl,ite2 (fun c=>?_) (fun c=>?_)⟩
     ·have c':(S:Int)≤2*((rs.getD i 0:Nat):Int):=of_decide_eq_true c
      refine⟨_,rfl,?_,s4,_,_,rfl⟩
      rw[figs_yes (by omega)]
     ·have c':¬(S:Int)≤2*((rs.getD i 0:Nat):Int):=of_decide_eq_false (Bool.eq_false_iff.mpr c)
      refine⟨?_,s4,_,_,rfl⟩
      rw[figs_no (by omega)]
   ·have ei:i=rs.length:=by omega
    subst ei
    refine .inl ⟨⟨_,SqL.of (s3 _ _ hrs),by rw[vnats_len];exact Nat.le_refl _⟩,small (by rw[vnats_len];omega),fun D fD=>⟨D,?_,s3.trans (same_new fD _),upd_same⟩⟩
    rw[←ep]
    rfl
 rintro σ3 H3 ⟨D,rfl,s3,hD⟩
 have a3:=a2.same s3
 have hrs3:H3 r=some (.tup (vnats rs))∨H3 r=some (.lst (vnats rs)):=hrs.imp (fun y=>s3 _ _ y) (fun y=>s3 _ _ y)
 have g3:Grow b H H3:=(g1.trans g2).trans (.same s3)
 have hev2:pkF ws (bl.drop z)=if 2*pl+x<(digs S rs).length then some ((digs S rs).getD (2*pl+x) 0,u+1)else pkR S (stepR S rs) (2*pl+x-(digs S rs).length) (u+1) (bl.drop (z+(u+1))):=by
  rw[hev,drop_at hx]
  rfl
 refine⟨_,rfl,_,rfl,D,_,rfl,.inl (SqL.of hD),_,_,rfl,rfl,_,rfl,?_⟩
 rw[vnats_len]
 refine ite2 (fun c=>?_) (fun c=>?_)
 ·have c':((2*pl+x:Nat):Int)<(((digs S rs).length:Nat):Int):=of_decide_eq_true c
  have hlt:2*pl+x<(digs S rs).length:=by omega
  rw[if_pos hlt]at hev2
  refine⟨_,rfl,_,rfl,D,_,_,_,rfl,rfl,SqL.of hD,atI_nat (vnats_at hlt),q _ (u+1) H3 ?_ g3 a3⟩
  unfold pkV
  rw[hev2]
  rfl
 have c':¬((2*pl+x:Nat):Int)<(((digs S rs).length:Nat):Int):=of_decide_eq_false (Bool.eq_false_iff.mpr c)
 have hge:¬2*pl+x<(digs S rs).length:=by omega
 rw[if_neg hge]at hev2
 refine⟨_,rfl,_,rfl,D,_,rfl,.inl (SqL.of hD),_,_,rfl,rfl,?_⟩
 rw[vnats_len]
 have es:((2*pl+x:Nat):Int)-(((digs S rs).length:Nat):Int)=((2*pl+x-(digs S rs).length:Nat):Int):=by rw[Int.ofNat_sub (by omega)]
 -- rests
 refine⟨fun σ' H'=>∃D2:Addr,σ'=[some (.ref b),some (.ref wr),some (.int (S:Int)),some (.ref D2),some (.int ((2*pl+x-(digs S rs).length:Nat):Int)),some (.ref D)]∧Same H3 H'∧H' D2=some (.lst (vnats (stepR S rs))),?_,?_⟩
 rotate_left
 ·rcases hrs3 with hrs|hrs
  ·refine .inl ⟨_,rfl,r,rfl,⟨_,SqT.of hrs⟩,?_⟩
   refine⟨fun i mm acc σ' H'=>mm=rs.length-i∧i≤rs.length∧acc=vnats (stepR S (rs.take i))∧H'=H3∧∃o6:Option V,σ'=[some (.ref b),some (.ref wr),some (.int (S:Int)),some (.ref r),some (.int (((2*pl+x:Nat):Int)-(((digs S rs).length:Nat):Int))),some (.ref D),o6],⟨rs.length,rfl,Nat.zero_le _,rfl,rfl,_,rfl⟩,?_⟩
   rintro i mm acc σ' H4 ⟨rfl,hi,rfl,rfl,o6,rfl⟩
   have hsl:(stepR S (rs.take i)).length≤1000:=by rw[step_len,List.length_take];omega
   by_cases hlt:i<rs.length
   ·refine .inr ⟨⟨_,_,SqT.of hrs,vnats_at hlt⟩,smallL (by rw[vnats_len];omega),fun acc' σ2 H5=>acc'=vnats (stepR S (rs.take (i+1)))∧H5=H4∧∃o6:Option V,σ2=[some (.ref b),some (.ref wr),some (.int (S:Int)),some (.ref r),some (.int (((2*pl+x:Nat):Int)-(((digs S rs).length:Nat):Int))),some (.ref D),o6],?_,?_⟩
    ·rintro acc' σ2 H5 ⟨rfl,rfl,o6',rfl⟩
     exact⟨rs.length-(i+1),by omega,rfl,hlt,rfl,rfl,_,rfl⟩
    ·rintro v H5 ⟨rfl,ex⟩
     have ex':=ex _ (SqT.of hrs)
     rw[vnats_at hlt]at ex'
     obtain rfl:=Option.some.inj ex'
     refine⟨_,rfl,_,_,rfl,rfl,.inl ⟨by decide,by decide⟩,_,rfl,_,_,rfl,rfl,(by show(0:Int)<(S:Int);omega),?_,rfl,_,rfl⟩
     rw[step_more hlt]
     rfl
   ·have ei:i=rs.length:=by omega
    subst ei
    refine .inl ⟨⟨_,SqT.of hrs,by rw[vnats_len];exact Nat.le_refl _⟩,small (by rw[vnats_len];omega),fun D2 fD=>⟨D2,?_,same_new fD _,?_⟩⟩
    ·rw[←es]
     rfl
    ·rw[upd_same,List.take_length]
  ·refine .inr ⟨_,rfl,r,rfl,⟨_,SqL.of hrs⟩,?_⟩
   refine⟨fun i mm acc σ' H'=>mm=rs.length-i∧i≤rs.length∧acc=vnats (stepR S (rs.take i))∧H'=H3∧∃o6:Option V,σ'=[some (.ref b),some (.ref wr),some (.int (S:Int)),some (.ref r),some (.int (((2*pl+x:Nat):Int)-(((digs S rs).length:Nat):Int))),some (.ref D),o6],⟨rs.length,rfl,Nat.zero_le _,rfl,rfl,_,rfl⟩,?_⟩
   rintro i mm acc σ' H4 ⟨rfl,hi,rfl,rfl,o6,rfl⟩
   have hsl:(stepR S (rs.take i)).length≤1000:=by rw[step_len,List.length_take];omega
   by_cases hlt:i<rs.length
   ·refine .inr ⟨⟨_,_,SqL.of hrs,vnats_at hlt⟩,smallL (by rw[vnats_len];omega),fun acc' σ2 H5=>acc'=vnats (stepR S (rs.take (i+1)))∧H5=H4∧∃o6:Option V,σ2=[some (.ref b),some (.ref wr),some (.int (S:Int)),some (.ref r),some (.int (((2*pl+x:Nat):Int)-(((digs S rs).length:Nat):Int))),some (.ref D),o6],?_,?_⟩
    ·rintro acc' σ2 H5 ⟨rfl,rfl,o6',rfl⟩
     exact⟨rs.length-(i+1),by omega,rfl,hlt,rfl,rfl,_,rfl⟩
    ·rintro v H5 ⟨rfl,ex⟩
     have ex':=ex _ (SqL.of hrs)
     rw[vnats_at hlt]at ex'
     obtain rfl:=Option.some.inj ex'
     refine⟨_,rfl,_,_,rfl,rfl,.inl ⟨by decide,by decide⟩,_,rfl,_,_,rfl,rfl,(by show(0:Int)<(S:Int);omega),?_,rfl,_,rfl⟩
     rw[step_more hlt]
     rfl
   ·have ei:i=rs.length:=by omega
    subst ei
    refine .inl ⟨⟨_,SqL.of hrs,by rw[vnats_len];exact Nat.le_refl _⟩,small (by rw[vnats_len];omega),fun D2 fD=>⟨D2,?_,same_new fD _,?_⟩⟩
    ·rw[←es]
     rfl
    ·rw[upd_same,List.take_length]
 rintro σ4 H4 ⟨D2,rfl,s4,hD2⟩
 exact⟨bl.length-(z+(u+1)),by omega,stepR S rs,2*pl+x-(digs S rs).length,u+1,D2,some (.ref D),rfl,rfl,g3.trans (.same s4),a3.same s4,.inr hD2,by rw[step_len];exact hrl,hev2⟩
theorem ok_Y81 (F_Y81:Fun K "pick" "pick" s_Y81 f fd)(B:Bl mg){fD fR:Addr}{dD dR:FuncData}(g_Y22:FnX P w K mg base "drawn_whole" fD dD p_Y22 5 (spDW P w K mg base 4 C CN))(g_Y47:FnX P w K mg base "take_pick" fR dR p_Y47 3 (spRaw C CN ShX pkV)) :
  FnOk P w K mg base (CXR P w) 6 f fd p_Y81 (spDone C CN ShW pkV):=by
 refine F_Y81.okX sc_Y81 (fun vs H Q E h=>?_) (fun cdv A outer s H vs Q E hr h=>?_)
 ·obtain⟨b,dx,r,bl,z,x,a,rfl,_⟩:=h
  rfl
 obtain⟨b,dx,r,bl,z,x,ws,rfl,hA,hSh,q,e⟩:=h
 obtain⟨wr,rfl,hW,hT,hT2,hwl⟩:=id hSh
 have hsq:∀{H'},H' wr=some (.tup (vnats ws))→SqT K H' wr ((ws.map (fun(n:Nat)=>(n:Int))).map V.int):=fun {H'} y=>SqT.of (by rw[←vnats_ints];exact y)
 refine⟨_,(pss_cons (ps_set (i:=2) sc_Y81.nd rfl (Or.inl rfl) (pe_callB (call_sumT rfl) rfl B.sum_ L3.bt_sum (pa_cons (pv 1) pa_nil)))
   (pss_cons (ps_if (pt_cmpR op_in_seq (pv 2) (pv 1) rfl) (pss_one (ps_ret (pe_bmT PySem.F.plainAttrs_tuple PySem.F.slot_tuple_index PySem.F.type_tuple_index mt_tindex (pv 1) (pa_cons (pv 2) pa_nil)))) pss_nil)
   (pss_one (ps_ret (pe_fnX g_Y22 hr (pa_cons (pv 0) (pa_cons (pe_glob (v:=.ref _) rfl g_Y47.mg rfl) (pa_cons (pv 1) pa_nil)))))))),?_⟩
 refine⟨_,rfl,wr,ws.map (fun(n:Nat)=>(n:Int)),rfl,hsq hW,?_⟩
 rw[sum_nats]
 refine⟨_,rfl,_,rfl,wr,vnats ws,rfl,.inr (SqT.of hW),rfl,vnats_flat ws,_,rfl,?_⟩
 rw[vnats_in]
 refine ite2 (fun c=>?_) (fun c=>?_)
 ·have c':ws.sum∈ws:=of_decide_eq_true c
  obtain⟨i1,i2⟩:=idx_at c'
  refine⟨_,rfl,⟨wr,_,rfl,hW⟩,_,rfl,wr,_,_,ws.idxOf ws.sum,rfl,rfl,hsq hW,i1,i2,q _ 0 H ?_ (Grow.refl _ _) hA⟩
  unfold pkV pkF
  rw[if_pos c']
  rfl
 ·have c':¬ws.sum∈ws:=of_decide_eq_false (Bool.eq_false_iff.mpr c)
  exact⟨_,rfl,_,rfl,dw_of g_Y47 (by decide) hA ⟨hSh,c'⟩ q e⟩
end
noncomputable def bino:Nat→Nat→Nat
 | _,0=>1
 | 0,_+1=>0
 | n+1,k+1=>bino n k+bino n (k+1)
theorem bino_zero (n:Nat):bino n 0=1:=by cases n<;>rfl
theorem bino_lt:∀{n k:Nat},n<k→bino n k=0
 | 0,k+1,_=>rfl
 | n+1,k+1,h=>by rw[bino,bino_lt (by omega),bino_lt (by omega)]
theorem bino_self:∀n,bino n n=1
 | 0=>rfl
 | n+1=>by rw[bino,bino_self n,bino_lt (by omega)]
theorem bino_mul:∀n t,bino n (t+1)*(t+1)=bino n t*(n-t)
 | 0,0=>rfl
 | 0,t+1=>by rw[bino_lt (by omega),bino_lt (by omega),Nat.zero_mul,Nat.zero_mul]
 | n+1,0=>by
  have:=bino_mul n 0
  rw[bino_zero]at this ⊢
  show(bino n 0+bino n (0+1))*1=_
  rw[bino_zero]
  omega
 | n+1,t+1=>by
  have h1:=bino_mul n t
  have h2:=bino_mul n (t+1)
  rw[bino,bino]
  by_cases c:t+1≤n
  ·obtain⟨d,rfl⟩:∃d,n=t+1+d:=⟨n-(t+1),by omega⟩
   rw[show t+1+d-t=d+1 by omega]at h1
   rw[show t+1+d-(t+1)=d by omega]at h2
   rw[show t+1+d+1-(t+1)=d+1 by omega]
   grind
  ·by_cases c2:n=t
   ·subst c2
    rw[bino_lt (show n<n+1 by omega),bino_lt (show n<n+1+1 by omega)]
    simp
   ·rw[bino_lt (show n<t+1 by omega),bino_lt (show n<t+1+1 by omega),bino_lt (show n<t by omega)]
    simp
theorem bino_symm:∀{n k:Nat},k≤n→bino n (n-k)=bino n k
 | 0,0,_=>rfl
 | n+1,0,_=>by rw[Nat.sub_zero,bino_self,bino_zero]
 | n+1,k+1,h=>by
  rw[show n+1-(k+1)=n-k by omega]
  by_cases c:k=n
  ·subst c
   rw[Nat.sub_self,bino_zero,bino_self]
  ·obtain⟨d,hd⟩:∃d,n-k=d+1:=⟨n-k-1,by omega⟩
   rw[hd,bino,bino,←bino_symm (n:=n) (k:=k) (by omega),←bino_symm (n:=n) (k:=k+1) (by omega),hd,show n-(k+1)=d by omega]
   omega
noncomputable def wyG (n:Nat):Nat→Nat
 | 0=>1
 | t+1=>wyG n t*(n-t) / (t+1)
theorem wyG_bino (n:Nat):∀t,wyG n t=bino n t
 | 0=>(bino_zero n).symm
 | t+1=>by rw[wyG,wyG_bino n t,←bino_mul,Nat.mul_div_cancel _ (by omega)]
theorem wy_bino {n k:Nat}(h:k≤n):wyG n (min k (n-k))=bino n k:=by
 rw[wyG_bino]
 by_cases c:k≤n-k
 ·rw[Nat.min_eq_left c]
 ·rw[Nat.min_eq_right (by omega),bino_symm h]
noncomputable def Ris (e:Nat):Nat→List Nat→Prop
 | _,[]=>True
 | b,o::os=>b≤o∧o<e∧Ris e (o+1) os
theorem Ris.len {e:Nat}:∀{os:List Nat}{b:Nat},Ris e b os→b≤e→b+os.length≤e
 | [],_,_,h=>h
 | o::os,b,h,_=>by
  have:=Ris.len h.2.2 (by have:=h.2.1;omega)
  have:=h.1
  rw[List.length_cons]
  omega
noncomputable def wyI (n k:Int):Nat:=if k<0∨n<k then 0 else bino n.toNat k.toNat
theorem wyI_nat (n k : Nat) : wyI (n : Int) (k : Int) = bino n k:=by
  unfold wyI
  by_cases c : n < k
  · rw [if_pos (by omega),bino_lt c]
  · rw [if_neg (by omega),Int.toNat_natCast,Int.toNat_natCast]
def spWays:Sp:=fun vs H Q _=>∃n k:Int,vs=[.int n,.int k]∧n≤60∧Q (.int (wyI n k:Int)) H
section
variable {P:Program}{w:World}{K:PySem.W.Frag}{mg:Str→Option Value}{base:Heap}{f:Addr}{fd:FuncData}
theorem ok_Y79 (F_Y79:Fun K "ways" "ways" s_Y79 f fd)(B:Bl mg):FnOk P w K mg base CX0 1 f fd p_Y79 spWays:=by
 refine F_Y79.ok sc_Y79 (fun vs H Q E h=>?_) (fun cdv A outer s H vs Q E hr h=>?_)
 ·obtain⟨n,k,rfl,_⟩:=h
  rfl
 obtain⟨n,k,rfl,hn,q⟩:=h
 refine⟨_,(pss_cons (ps_if (PW.pt (pw_or (pt_cmpR op_lt (pv 1) pe_int (nomark _)) (pw_or1 (pt_cmpR op_gt (pv 1) (pv 0) (nomark _))))) (pss_one (ps_ret pe_int)) pss_nil)
   (pss_cons (ps_set (i:=2) sc_Y79.nd rfl (Or.inl rfl) pe_int)
   (pss_cons (ps_for PassesOwn.never rfl (pi_range1 rfl B.range_ (pa_cons (pe_callB (call_min2 rfl) rfl B.min_ L3.bt_min (pa_cons (pv 1) (pa_cons (pe_op op_sub (pv 0) (pv 1)) pa_nil))) pa_nil)) (pg_name (i:=3) sc_Y79.nd rfl (Or.inl rfl)) (pss_one (ps_set (i:=2) sc_Y79.nd rfl (Or.inl rfl) (pe_op op_fdiv (pe_op op_mul (pv 2) (pe_op op_sub (pv 0) (pv 3))) (pe_op op_add (pv 3) pe_int)))))
   (pss_one (ps_ret (pv 2)))))),?_⟩
 refine⟨_,rfl,_,_,rfl,rfl,_,rfl,ite2 (fun c=>?_) (fun c=>?_)⟩
 ·have c':k<0:=of_decide_eq_true c
  rw[wyI,if_pos (.inl c')]at q
  exact q
 have c1:¬k<0:=fun z=>c (decide_eq_true z)
 refine⟨_,rfl,_,rfl,_,_,rfl,rfl,_,rfl,ite2 (fun c=>?_) (fun c=>?_)⟩
 ·have c':n<k:=of_decide_eq_true c
  rw[wyI,if_pos (.inr c')]at q
  exact q
 have c2:¬n<k:=fun z=>c (decide_eq_true z)
 obtain⟨k,rfl⟩:∃k':Nat,k=(k':Int):=⟨k.toNat,by omega⟩
 obtain⟨n,rfl⟩:∃n':Nat,n=(n':Int):=⟨n.toNat,by omega⟩
 rw[wyI_nat]at q
 have hkn:k≤n:=by omega
 obtain⟨m,hm,hm9⟩:∃m,m=min k (n-k)∧m≤60:=⟨_,rfl,by omega⟩
 have em:(if (n:Int)-(k:Int)<(k:Int)then (n:Int)-(k:Int)else (k:Int))=(m:Int):=by
  rw[hm]
  split<;>omega
 rw[←wy_bino hkn,←hm]at q
 refine⟨_,rfl,_,rfl,_,rfl,_,_,rfl,rfl,_,_,rfl,(m:Int),by rw[em],lo62 _,hi62 (by omega),?_⟩
 rw[Int.toNat_natCast]
 refine for_range (lo:=0) (n:=m) (fun i σ' H'=>∃o3:Option V,σ'=[some (.int (n:Int)),some (.int (k:Int)),some (.int (wyG n i:Int)),o3]∧H'=H) ⟨_,rfl,rfl⟩ ?_ ?_
 ·rintro i σ' H' hi ⟨o3,rfl,rfl⟩
  refine⟨_,rfl,_,rfl,_,rfl,_,_,rfl,rfl,_,_,rfl,rfl,.inr ⟨by omega,by omega⟩,?_⟩
  refine⟨_,rfl,_,_,rfl,rfl,_,_,rfl,rfl,⟨by omega,by omega⟩,some (.int (0+(i:Int))),?_,rfl⟩
  have e1:(wyG n i:Int)*((n:Int)-(0+(i:Int))) / (0+(i:Int)+1)=(wyG n (i+1):Int):=by
   rw[wyG,show(n:Int)-(0+(i:Int))=((n-i:Nat):Int)by omega,show(0+(i:Int)+1)=((i+1:Nat):Int)by omega,Int.natCast_ediv,Int.natCast_mul]
  try dsimp only
  rw[e1]
  rfl
 ·rintro σ' H' ⟨o3,rfl,rfl⟩
  exact⟨_,rfl,q⟩
end
section
variable {P:Program}{w:World}{K:PySem.W.Frag}{mg:Str→Option Value}{base:Heap}{f:Addr}{fd:FuncData}
end
noncomputable def vmk (ms:List Nat):List V:=ms.map fun(m:Nat)=>V.int (m:Int)
theorem vmk_len (ms:List Nat):(vmk ms).length=ms.length:=by unfold vmk;rw[List.length_map]
theorem vmk_app (a b:List Nat):vmk (a++b)=vmk a++vmk b:=by unfold vmk;rw[List.map_append]
theorem vmk_get {ms:List Nat}{i m:Nat}(h:ms[i]?=some m):(vmk ms)[i]?=some (.int (m:Int)):=by unfold vmk;rw[List.getElem?_map,h];rfl
noncomputable def cat:Nat→Nat
 | 0=>1
 | n+1=>cat n*(4*n+2) / (n+2)
noncomputable def catL (n:Nat):List Nat:=(List.range n).map cat
theorem catL_succ (n:Nat):catL (n+1)=catL n++[cat n]:=by unfold catL;rw[List.range_succ,List.map_append];rfl
theorem catL_len (n:Nat):(catL n).length=n:=by unfold catL;simp
theorem catL_at {n i:Nat}(h:i<n):(catL n)[i]?=some (cat i):=by unfold catL;rw[List.getElem?_map,List.getElem?_range h];rfl
def spCnts:Sp:=fun vs H Q _=>∃n:Nat,vs=[.int (n:Int)]∧n≤100∧∀l H',Same H H'→H' l=some (.lst (vmk (catL (n+1))))→Q (.ref l) H'
def spCT:Sp:=fun vs H Q _=>∃n:Nat,vs=[.int (n:Int)]∧n≤100∧∀H',Same H H'→Q (.int (cat n:Int)) H'
section
variable {P:Program}{w:World}{K:PySem.W.Frag}{mg:Str→Option Value}{base:Heap}{f:Addr}{fd:FuncData}
theorem ok_Y18 (F_Y18:Fun K "counts_up_to" "counts_up_to" s_Y18 f fd)(B:Bl mg):FnOk P w K mg base CX0 1 f fd p_Y18 spCnts:=by
 refine F_Y18.ok sc_Y18 (fun vs H Q E h=>?_) (fun cdv A outer s H vs Q E hr h=>?_)
 ·obtain⟨n,rfl,_⟩:=h
  rfl
 obtain⟨n,rfl,hn,q⟩:=h
 refine⟨_,(pss_cons (ps_set (i:=1) sc_Y18.nd rfl (Or.inl rfl) (pe_lst (pa_cons pe_int pa_nil)))
   (pss_cons (ps_for PassesOwn.never rfl (pi_range1 rfl B.range_ (pa_cons (pv 0) pa_nil)) (pg_name (i:=2) sc_Y18.nd rfl (Or.inl rfl)) (pss_one (ps_expr (pe_bm PySem.F.plainAttrs_list PySem.F.slot_list_append PySem.F.type_list_append mt_append (pv 1) (pa_cons (pe_op op_fdiv (pe_op op_mul (pe_ix ix_list (pv 1) (pv 2) (fun _ _=>rfl)) (pe_op op_add (pe_op op_mul pe_int (pv 2)) pe_int)) (pe_op op_add (pv 2) pe_int)) pa_nil)))))
   (pss_one (ps_ret (pv 1))))),?_⟩
 refine⟨(by show 1≤sizeLine;decide),fun l fl=>?_⟩
 have h0:(upd H l (.lst [V.int 1])) l=some (.lst (vmk (catL (0+1)))):=upd_same
 have s0:=same_new fl (.lst [V.int 1])
 generalize upd H l (.lst [V.int 1])=H0 at h0 s0 ⊢
 refine⟨_,rfl,_,rfl,by omega,by omega,?_⟩
 rw[Int.toNat_natCast]
 refine for_range (lo:=0) (n:=n) (fun i σ' H'=>∃o2:Option V,σ'=[some (.int (n:Int)),some (.ref l),o2]∧Same H H'∧H' l=some (.lst (vmk (catL (i+1))))) ⟨_,rfl,s0,h0⟩ ?_ ?_
 ·rintro i σ' H' hi ⟨o2,rfl,sH,hl⟩
  have hat:atI (vmk (catL (i+1))) (0+(i:Int))=some (.int (cat i:Int)):=by
   rw[Int.zero_add]
   exact atI_nat (vmk_get (catL_at (by omega)))
  refine⟨_,rfl,.inl ⟨rfl,_,SqL.of hl⟩,_,rfl,_,rfl,l,_,_,_,rfl,rfl,SqL.of hl,hat,_,rfl,_,_,rfl,rfl,.inl ⟨by decide,by decide⟩,_,_,rfl,rfl,_,_,rfl,rfl,.inr ⟨by omega,by omega⟩,_,rfl,_,_,rfl,rfl,_,_,rfl,rfl,⟨by omega,by omega⟩,l,_,_,rfl,rfl,hl,smallL (by rw[vmk_len,catL_len];omega),?_⟩
  refine⟨_,rfl,fun c o e=>?_,?_⟩
  ·rw[upd_ne (ne_of_none e fl)]
   exact sH c o e
  ·rw[upd_same,catL_succ (i+1),vmk_app]
   have e:(cat i:Int)*(4*(0+(i:Int))+2) / (0+(i:Int)+2)=((cat (i+1):Nat):Int):=by
    rw[show(4*(0+(i:Int))+2)=((4*i+2:Nat):Int)by omega,show(0+(i:Int)+2)=((i+2:Nat):Int)by omega,cat,Int.natCast_ediv,Int.natCast_mul]
   show some (HO.lst (_++[V.int _]))=some (HO.lst (_++[V.int _]))
   rw[e]
 ·rintro σ' H' ⟨o2,rfl,sH,hl⟩
  exact⟨_,rfl,q l H' sH hl⟩
theorem ok_Y29 (F_Y29:Fun K "count_trees" "count_trees" s_Y29 f fd)(g_Y18:Fn P w K mg base "counts_up_to" p_Y18 1 spCnts):FnOk P w K mg base CX0 2 f fd p_Y29 spCT:=by
 refine F_Y29.ok sc_Y29 (fun vs H Q E h=>?_) (fun cdv A outer s H vs Q E hr h=>?_)
 ·obtain⟨n,rfl,_⟩:=h
  rfl
 obtain⟨n,rfl,hn,q⟩:=h
 refine⟨_,(pss_one (ps_ret (pe_ifExp (pt_cmpR op_ge (pv 0) pe_int (nomark _)) (pe_ix ix_list (pe_fn g_Y18 hr (pa_cons (pv 0) pa_nil)) (pv 0) (fun _ _=>rfl)) pe_int))),?_⟩
 refine⟨_,rfl,_,_,rfl,rfl,_,rfl,ite2 (fun _=>?_) (fun y=>absurd (decide_eq_true (show(0:Int)≤(n:Int)by omega)) y)⟩
 refine⟨_,rfl,n,rfl,hn,fun l H' sH hl=>?_⟩
 exact⟨_,rfl,l,_,_,_,rfl,rfl,SqL.of hl,atI_nat (vmk_get (catL_at (by omega))),q H' sH⟩
end
def spCheck (CP:Addr):Sp:=fun vs H Q E=>∃p m:Int,vs=[.int p,.int m]∧(0≤p∧p<m→Q .non H)∧(¬(0≤p∧p<m)→E (.ref CP) none H)
section
variable {P:Program}{w:World}{K:PySem.W.Frag}{mg:Str→Option Value}{base:Heap}{f CP:Addr}{fd:FuncData}{mP:List Value}
theorem ok_Y26 (F_Y26:Fun K "check_place" "check_place" s_Y26 f fd)(X_E3:Exc K mg "NoPlace" CP mP):FnOk P w K mg base (CXR P w) 1 f fd p_Y26 (spCheck CP):=by
 refine F_Y26.okX sc_Y26 (fun vs H Q E h=>?_) (fun cdv A outer s H vs Q E hr h=>?_)
 ·obtain⟨p,m,rfl,_⟩:=h
  rfl
 obtain⟨p,m,rfl,q,e⟩:=h
 refine⟨_,(pss_one (ps_if (PW.pt (pw_or (pt_cmpR op_lt (pv 0) pe_int (nomark _)) (pw_or1 (pt_cmpR op_ge (pv 0) (pv 1) (nomark _))))) (pss_one (ps_raise X_E3 (pa_cons pe_str pa_nil))) pss_nil)),?_⟩
 refine⟨_,rfl,_,_,rfl,rfl,_,rfl,ite2 (fun c=>?_) (fun c=>?_)⟩
 ·have c':p<0:=of_decide_eq_true c
  exact iteT ⟨(by show 1≤sizeLine;decide),e (by omega)⟩
 ·have c':¬p<0:=of_decide_eq_false (Bool.eq_false_iff.mpr c)
  refine⟨_,rfl,_,rfl,_,_,rfl,rfl,_,rfl,ite2 (fun c2=>?_) (fun c2=>?_)⟩
  ·have c3:p≥m:=of_decide_eq_true c2
   exact⟨(by show 1≤sizeLine;decide),e (by omega)⟩
  ·have c3:¬p≥m:=of_decide_eq_false (Bool.eq_false_iff.mpr c2)
   exact q (by omega)
end
noncomputable def prodL:List Nat→Nat
 | []=>1
 | r::rs=>r*prodL rs
def spCoinN (C CN:Addr):Sp:=fun vs H Q E=>∃(b dx r:Addr)(bl:List Nat)(z:Nat),vs=[.ref b,.int 3,.int 8]∧At C H b dx r bl z∧bl.drop z=[1,1]∧∀H',Grow b H H'→At C H' b dx r bl z→E (.ref CN) none H'
def spTabN (C CN:Addr):Sp:=fun vs H Q E=>∃(b dx r p c1 c2:Addr)(bl:List Nat)(z:Nat),vs=[.ref b,.ref p,.int 4]∧H p=some (.tup [.ref c1,.ref c2])∧At C H b dx r bl z∧bl.drop z=[1,1]∧∀H',Grow b H H'→At C H' b dx r bl z→E (.ref CN) none H'
theorem pk_no {C CN:Addr}{b dx r wr:Addr}{bl:List Nat}{z:Nat}{ws:List Nat}{H:Hp}{Q:VK}{E:XK}(hA:At C H b dx r bl z)(h11:bl.drop z=[1,1])(hw:H wr=some (.tup (vnats ws)))(hn:pkV ws [1,1]=none)(h0:0<ws.sum)(h1:ws.sum<1073741824)(h2:ws.length≤1000)
  (e:∀H',Grow b H H'→At C H' b dx r bl z→E (.ref CN) none H'):spDone C CN ShW pkV [.ref b,.ref wr] H Q E :=
 ⟨b,dx,r,bl,z,_,ws,rfl,hA,⟨wr,rfl,hw,h0,h1,h2⟩,fun v u H' h=>(by rw[h11,hn]at h;cases h),fun H' _ g a=>e H' g a⟩
section
variable {P:Program}{w:World}{K:PySem.W.Frag}{mg:Str→Option Value}{base:Heap}{f C CN fE:Addr}{fd dE:FuncData}
theorem ok_Y76 (F_Y76:Fun K "coin" "coin" s_Y76 f fd)(g_Y81:FnX P w K mg base "pick" fE dE p_Y81 6 (spDone C CN ShW pkV)):FnOk P w K mg base (CXR P w) 7 f fd p_Y76 (spCoinN C CN):=by
 refine F_Y76.okX sc_Y76 (fun vs H Q E h=>?_) (fun cdv A outer s H vs Q E hr h=>?_)
 ·obtain⟨b,dx,r,bl,z,rfl,_⟩:=h
  rfl
 obtain⟨b,dx,r,bl,z,rfl,hA,h11,e⟩:=h
 refine⟨_,(pss_one (ps_ret (pe_cmpR op_eq (pe_fnX g_Y81 hr (pa_cons (pv 0) (pa_cons (pe_tup (pa_cons (pe_op op_sub (pv 2) (pv 1)) (pa_cons (pv 1) pa_nil))) pa_nil))) pe_int (nomark _)))),?_⟩
 refine⟨_,rfl,_,rfl,_,rfl,_,_,rfl,rfl,_,rfl,(by show 2≤sizeLine;decide),fun p fp=>?_⟩
 have y:=same_new fp (.tup [V.int 5,V.int 3])
 exact pk_no (ws:=[5,3]) (hA.same y) h11 upd_same (by decide) (by decide) (by decide) (by decide) fun H' g a=>e H' ((Grow.same y).trans g) a
theorem ok_Y57 (F_Y57:Fun K "by_table" "by_table" s_Y57 f fd)(B:Bl mg)(g_Y77:FnX P w K mg base "even" fE dE p_Y77 6 (spDone C CN ShN evV)):FnOk P w K mg base (CXR P w) 7 f fd p_Y57 (spTabN C CN):=by
 refine F_Y57.okX sc_Y57 (fun vs H Q E h=>?_) (fun cdv A outer s H vs Q E hr h=>?_)
 ·obtain⟨b,dx,r,p,c1,c2,bl,z,rfl,_⟩:=h
  rfl
 obtain⟨b,dx,r,p,c1,c2,bl,z,rfl,hp,hA,h11,e⟩:=h
 refine⟨_,(pss_cons (ps_set (i:=3) sc_Y57.nd rfl (Or.inl rfl) (pe_fnX g_Y77 hr (pa_cons (pv 0) (pa_cons (pe_op op_mul (pv 2) (pe_callB call_len_seq rfl B.len_ L3.bt_len (pa_cons (pv 1) pa_nil))) pa_nil))))
   pss_never),?_⟩
 exact⟨_,rfl,_,rfl,_,rfl,p,_,rfl,.inr (SqT.of hp),_,_,rfl,rfl,.inl ⟨by decide,by decide⟩,ev_no (m:=8) hA h11 (by decide) (by decide) e⟩
end
def spChN (C CN CP:Addr):Sp:=fun vs H Q E=>∃(b dx r:Addr)(bl:List Nat)(z:Nat)(n k:Int),vs=[.ref b,.int n,.int k]∧At C H b dx r bl z∧n≤60∧((wyI n k=0∧E (.ref CP) none H)∨(bl.drop z=[1,1]∧n=5∧k=2∧∀H',Grow b H H'→At C H' b dx r bl z→E (.ref CN) none H'))
def spChAtN (CP:Addr):Sp:=fun vs H Q E=>∃n k p:Int,vs=[.int n,.int k,.int p]∧n≤60∧(p<0∨(wyI n k:Int)≤p)∧E (.ref CP) none H
def spCntF:Sp:=fun vs H Q _=>∃(r:Addr)(rs:List Nat),vs=[.ref r]∧H r=some (.tup (vnats rs))∧(∀x∈rs,x≤1000)∧Q (.int (prodL rs:Int)) H
def spFigN (CP:Addr):Sp:=fun vs H Q E=>∃(r:Addr)(rs:List Nat)(p:Int),vs=[.ref r,.int p]∧H r=some (.tup (vnats rs))∧(∀x∈rs,x≤1000)∧(p<0∨(prodL rs:Int)≤p)∧E (.ref CP) none H
def spRadN:Sp:=fun vs H Q _=>∃n:Nat,vs=[.int (n:Int)]∧(n=3∨n=4)∧∀p H',Same H H'→H' p=some (.tup (vnats (if n=3 then [3,2,1]else [4,3,2,1])))→Q (.ref p) H'
def spOAtN (CP:Addr):Sp:=fun vs H Q E=>∃p:Int,vs=[.int 3,.int p]∧p<0∧∀H',Same H H'→E (.ref CP) none H'
def spOrdN (C CN:Addr):Sp:=fun vs H Q E=>∃(b dx r:Addr)(bl:List Nat)(z:Nat),vs=[.ref b,.int 4]∧At C H b dx r bl z∧bl.drop z=[1,1]∧∀H',Grow b H H'→At C H' b dx r bl z→E (.ref CN) none H'
def spTreeN (C CN:Addr):Sp:=fun vs H Q E=>∃(b dx r:Addr)(bl:List Nat)(z:Nat),vs=[.ref b,.int 3]∧At C H b dx r bl z∧bl.drop z=[1,1]∧∀H',Grow b H H'→At C H' b dx r bl z→E (.ref CN) none H'
def spTAtN (CP:Addr):Sp:=fun vs H Q E=>∃(n:Nat)(p:Int),vs=[.int (n:Int),.int p]∧n≤100∧(p<0∨(cat n:Int)≤p)∧∀H',Same H H'→E (.ref CP) none H'
def spPaN (CP:Addr):Sp:=fun vs H Q E=>∃t:Int,vs=[.int t,.int 0,.int 0]∧0<t∧E (.ref CP) none H
theorem prod_take {rs:List Nat}{i x:Nat}(h:rs[i]?=some x):prodL (rs.take (i+1))=prodL (rs.take i)*x:=by
 have:∀(l:List Nat)(y:Nat),prodL (l++[y])=prodL l*y:=fun l y=>by
  induction l with
  | nil=>show y*1=1*y;omega
  | cons a l ih=>show a*prodL (l++[y])=a*prodL l*y;rw[ih,Nat.mul_assoc]
 rw[List.take_add_one,h]
 exact this _ _
section
variable {P:Program}{w:World}{K:PySem.W.Frag}{mg:Str→Option Value}{base:Heap}{f C CN CP fE fC fO:Addr}{fd dE dC dO:FuncData}{spO:Sp}
theorem ok_Y70 (F_Y70:Fun K "choice" "choice" s_Y70 f fd)(g_Y79:Fn P w K mg base "ways" p_Y79 1 spWays)(g_Y26:FnX P w K mg base "check_place" fC dC p_Y26 1 (spCheck CP))(g_Y42:FnX P w K mg base "choice_at" fO dO p_Y42 0 spNo)(g_Y77:FnX P w K mg base "even" fE dE p_Y77 6 (spDone C CN ShN evV)):FnOk P w K mg base (CXR P w) 7 f fd p_Y70 (spChN C CN CP):=by
 refine F_Y70.okX sc_Y70 (fun vs H Q E h=>?_) (fun cdv A outer s H vs Q E hr h=>?_)
 ·obtain⟨b,dx,r,bl,z,n,k,rfl,_⟩:=h
  rfl
 obtain⟨b,dx,r,bl,z,n,k,rfl,hA,hn,h⟩:=h
 refine⟨_,(pss_cons (ps_set (i:=3) sc_Y70.nd rfl (Or.inl rfl) (pe_fn g_Y79 hr (pa_cons (pv 1) (pa_cons (pv 2) pa_nil))))
   (pss_cons (ps_expr (pe_fnX g_Y26 hr (pa_cons pe_int (pa_cons (pv 3) pa_nil))))
   (pss_one (ps_ret (pe_fnX g_Y42 hr (pa_cons (pv 1) (pa_cons (pv 2) (pa_cons (pe_fnX g_Y77 hr (pa_cons (pv 0) (pa_cons (pv 3) pa_nil))) pa_nil)))))))),?_⟩
 refine⟨_,rfl,_,rfl,n,k,rfl,hn,?_⟩
 rcases h with ⟨h0,e⟩|⟨h11,rfl,rfl,e⟩
 ·refine⟨_,rfl,0,_,rfl,fun hy=>absurd hy (by rw[h0];decide),fun _=>e⟩
 ·have hw:wyI 5 2=10:=by decide
  rw[hw]
  refine⟨_,rfl,0,_,rfl,fun _=>?_,fun hy=>absurd ⟨by decide,by decide⟩ hy⟩
  exact⟨_,rfl,_,rfl,_,rfl,_,rfl,ev_no (m:=10) hA h11 (by decide) (by decide) e⟩
theorem ok_Y42 (F_Y42:Fun K "choice_at" "choice_at" s_Y42 f fd)(g_Y79:Fn P w K mg base "ways" p_Y79 1 spWays)(g_Y26:FnX P w K mg base "check_place" fC dC p_Y26 1 (spCheck CP)):FnOk P w K mg base (CXR P w) 2 f fd p_Y42 (spChAtN CP):=by
 refine F_Y42.okX sc_Y42 (fun vs H Q E h=>?_) (fun cdv A outer s H vs Q E hr h=>?_)
 ·obtain⟨n,k,p,rfl,_⟩:=h
  rfl
 obtain⟨n,k,p,rfl,hn,hp,e⟩:=h
 refine⟨_,(pss_cons (ps_set (i:=3) sc_Y42.nd rfl (Or.inl rfl) (pe_fn g_Y79 hr (pa_cons (pv 0) (pa_cons (pv 1) pa_nil))))
   (pss_cons (ps_expr (pe_fnX g_Y26 hr (pa_cons (pv 2) (pa_cons (pv 3) pa_nil))))
   pss_never)),?_⟩
 exact⟨_,rfl,_,rfl,n,k,rfl,hn,_,rfl,_,rfl,p,_,rfl,fun hy=>absurd hy (by omega),fun _=>e⟩
theorem ok_Y14 (F_Y14:Fun K "count_figures" "count_figures" s_Y14 f fd)(B:Bl mg):FnOk P w K mg base CX0 1 f fd p_Y14 spCntF:=by
 refine F_Y14.ok sc_Y14 (fun vs H Q E h=>?_) (fun cdv A outer s H vs Q E hr h=>?_)
 ·obtain⟨r,rs,rfl,_⟩:=h
  rfl
 obtain⟨r,rs,rfl,hR,hs,q⟩:=h
 refine⟨_,(pss_cons (ps_set (i:=1) sc_Y14.nd rfl (Or.inl rfl) pe_int)
   (pss_cons (ps_for PassesOwn.never rfl (pi_tup (pv 0)) (pg_name (i:=2) sc_Y14.nd rfl (Or.inl rfl)) (pss_one (ps_set (i:=1) sc_Y14.nd rfl (Or.inl rfl) (pe_op op_mul (pv 1) (pe_callB (call_max2 rfl) rfl B.max_ L3.bt_max (pa_cons pe_int (pa_cons (pv 2) pa_nil)))))))
   (pss_one (ps_ret (pv 1))))),?_⟩
 refine⟨_,rfl,r,rfl,⟨_,SqT.of hR⟩,for_tup (xs:=vnats rs) (fun i σ' H'=>∃o2:Option V,σ'=[some (.ref r),some (.int (prodL (rs.take i):Int)),o2]∧H'=H) ⟨_,rfl,rfl⟩ (fun i σ' H' _ ⟨_,_,y⟩=>by rw[y];exact SqT.of hR) ?_ ?_⟩
 ·rintro i v σ' H' hv ⟨o2,rfl,rfl⟩
  obtain⟨x,hx,rfl⟩:∃x,rs[i]?=some x∧v=.int (x:Int):=by
   rw[vnats,List.getElem?_map]at hv
   cases e:rs[i]? with
   | none=>rw[e]at hv;cases hv
   | some x=>rw[e]at hv;exact⟨x,rfl,(Option.some.inj hv).symm⟩
  have hx2:=hs x (List.mem_of_getElem? hx)
  refine⟨_,rfl,_,rfl,_,_,rfl,?_⟩
  refine⟨_,_,rfl,rfl,.inr ⟨by omega,by omega⟩,?_⟩
  have hm:(if (x:Int)>0 then (x:Int)else 0)=(x:Int):=by
   split<;>omega
  refine⟨some (.int (x:Int)),?_,rfl⟩
  show [some (V.ref r),some (V.int ((prodL (rs.take i):Int)*(if (x:Int)>0 then (x:Int)else 0))),some (V.int (x:Int))]=_
  rw[hm,prod_take hx,Int.natCast_mul]
 ·rintro σ' H' ⟨o2,rfl,rfl⟩
  rw[vnats,List.length_map,List.take_length]
  exact⟨_,rfl,q⟩
theorem ok_Y36 (F_Y36:Fun K "figures_at" "figures_at" s_Y36 f fd)(g_Y26:FnX P w K mg base "check_place" fC dC p_Y26 1 (spCheck CP))(g_Y14:Fn P w K mg base "count_figures" p_Y14 1 spCntF):FnOk P w K mg base (CXR P w) 2 f fd p_Y36 (spFigN CP):=by
 refine F_Y36.okX sc_Y36 (fun vs H Q E h=>?_) (fun cdv A outer s H vs Q E hr h=>?_)
 ·obtain⟨r,rs,p,rfl,_⟩:=h
  rfl
 obtain⟨r,rs,p,rfl,hR,hs,hp,e⟩:=h
 refine⟨_,(pss_cons (ps_expr (pe_fnX g_Y26 hr (pa_cons (pv 1) (pa_cons (pe_fn g_Y14 hr (pa_cons (pv 0) pa_nil)) pa_nil))))
   pss_never),?_⟩
 exact⟨_,rfl,_,rfl,r,rs,rfl,hR,hs,p,_,rfl,fun hy=>absurd hy (by omega),fun _=>e⟩
theorem ok_Y1 (F_Y1:Fun K "radices_of_orders" "radices_of_orders" s_Y1 f fd)(B:Bl mg):FnOk P w K mg base CX0 1 f fd p_Y1 spRadN:=by
 refine F_Y1.ok sc_Y1 (fun vs H Q E h=>?_) (fun cdv A outer s H vs Q E hr h=>?_)
 ·obtain⟨n,rfl,_⟩:=h
  rfl
 obtain⟨n,rfl,hn,q⟩:=h
 refine⟨_,(pss_one (ps_ret (pe_tupDown rfl rfl B.tuple_ rfl B.range_ (pa_cons (pv 0) (pa_cons pe_int (pa_cons (pe_un un_neg pe_int) pa_nil)))))),?_⟩
 rcases hn with rfl|rfl
 ·refine⟨_,rfl,_,rfl,_,0,rfl,⟨by decide,by decide,by decide,by decide⟩,fun p fp=>?_⟩
  exact q p _ (same_new fp _) upd_same
 ·refine⟨_,rfl,_,rfl,_,0,rfl,⟨by decide,by decide,by decide,by decide⟩,fun p fp=>?_⟩
  exact q p _ (same_new fp _) upd_same
theorem ok_Y55 (F_Y55:Fun K "order_at" "order_at" s_Y55 f fd)(B:Bl mg)(g_Y1:Fn P w K mg base "radices_of_orders" p_Y1 1 spRadN)(g_Y36:FnX P w K mg base "figures_at" fO dO p_Y36 2 (spFigN CP)):FnOk P w K mg base (CXR P w) 3 f fd p_Y55 (spOAtN CP):=by
 refine F_Y55.okX sc_Y55 (fun vs H Q E h=>?_) (fun cdv A outer s H vs Q E hr h=>?_)
 ·obtain⟨p,rfl,_⟩:=h
  rfl
 obtain⟨p,rfl,hp,e⟩:=h
 refine⟨_,(pss_cons (ps_set (i:=2) sc_Y55.nd rfl (Or.inl rfl) (pe_listRange rfl rfl B.list_ rfl B.range_ (pa_cons (pv 0) pa_nil)))
   (pss_cons (ps_set (i:=3) sc_Y55.nd rfl (Or.inl rfl) (pe_lst pa_nil))
   (pss_cons (ps_for (PassesOwn.leaving (M:=model P w)) rfl (pi_tup (pe_fnX g_Y36 hr (pa_cons (pe_fn g_Y1 hr (pa_cons (pv 0) pa_nil)) (pa_cons (pv 1) pa_nil)))) (pg_name (i:=4) sc_Y55.nd rfl (Or.inl rfl)) pss_never)
   pss_never))),?_⟩
 refine⟨_,rfl,3,rfl,by decide,fun l fl=>?_⟩
 have y1:=same_new fl (.lst ((List.range 3).map fun(i:Nat)=>V.int (i:Int)))
 refine⟨(by show 0≤sizeLine;decide),fun l2 f2=>?_⟩
 have y2:=same_new f2 (.lst ([]:List V))
 exact⟨_,rfl,3,rfl,.inl rfl,fun pr H1 s1 h1=>⟨_,rfl,pr,[3,2,1],p,rfl,h1,by decide,.inl hp,e H1 ((y1.trans y2).trans s1)⟩⟩
theorem ok_Y72 (F_Y72:Fun K "order" "order" s_Y72 f fd)(g_Y55:FnX P w K mg base "order_at" fO dO p_Y55 3 spO)(g_Y1:Fn P w K mg base "radices_of_orders" p_Y1 1 spRadN)(g_Y14:Fn P w K mg base "count_figures" p_Y14 1 spCntF)(g_Y77:FnX P w K mg base "even" fE dE p_Y77 6 (spDone C CN ShN evV)):FnOk P w K mg base (CXR P w) 7 f fd p_Y72 (spOrdN C CN):=by
 refine F_Y72.okX sc_Y72 (fun vs H Q E h=>?_) (fun cdv A outer s H vs Q E hr h=>?_)
 ·obtain⟨b,dx,r,bl,z,rfl,_⟩:=h
  rfl
 obtain⟨b,dx,r,bl,z,rfl,hA,h11,e⟩:=h
 refine⟨_,(pss_one (ps_ret (pe_fnX g_Y55 hr (pa_cons (pv 1) (pa_cons (pe_fnX g_Y77 hr (pa_cons (pv 0) (pa_cons (pe_fn g_Y14 hr (pa_cons (pe_fn g_Y1 hr (pa_cons (pv 1) pa_nil)) pa_nil)) pa_nil))) pa_nil))))),?_⟩
 refine⟨_,rfl,_,rfl,_,rfl,4,rfl,.inr rfl,fun pr H1 s1 h1=>⟨pr,[4,3,2,1],rfl,h1,by decide,?_⟩⟩
 exact ev_no (m:=24) (hA.same s1) h11 (by decide) (by decide) fun H' g a=>e H' ((Grow.same s1).trans g) a
theorem ok_Y59 (F_Y59:Fun K "parts_at" "parts_at" s_Y59 f fd)(g_Y26:FnX P w K mg base "check_place" fC dC p_Y26 1 (spCheck CP)):FnOk P w K mg base (CXR P w) 2 f fd p_Y59 (spPaN CP):=by
 refine F_Y59.okX sc_Y59 (fun vs H Q E h=>?_) (fun cdv A outer s H vs Q E hr h=>?_)
 ·obtain⟨t,rfl,_⟩:=h
  rfl
 obtain⟨t,rfl,ht,e⟩:=h
 refine⟨_,(pss_cons (ps_if (pt_cmpR op_eq (pv 1) pe_int (nomark _)) (pss_cons (ps_expr (pe_fnX g_Y26 hr (pa_cons (pv 2) (pa_cons (pe_ifExp (pt_cmpR op_eq (pv 0) pe_int (nomark _)) pe_int pe_int) pa_nil))))
   pss_never) pss_nil)
   pss_never),?_⟩
 refine⟨_,rfl,rfl,_,rfl,iteT ?_⟩
 refine⟨_,rfl,_,rfl,rfl,_,rfl,ite2 (fun c=>?_) (fun _=>?_)⟩
 ·have c':V.int t=V.int 0:=of_decide_eq_true c
  cases c'
  exact absurd ht (by decide)
 ·exact⟨0,0,rfl,fun hy=>absurd hy (by decide),fun _=>e⟩
theorem ok_Y67 (F_Y67:Fun K "tree_at" "tree_at" s_Y67 f fd)(g_Y26:FnX P w K mg base "check_place" fC dC p_Y26 1 (spCheck CP))(g_Y29:Fn P w K mg base "count_trees" p_Y29 2 spCT):FnOk P w K mg base (CXR P w) 3 f fd p_Y67 (spTAtN CP):=by
 refine F_Y67.okX sc_Y67 (fun vs H Q E h=>?_) (fun cdv A outer s H vs Q E hr h=>?_)
 ·obtain⟨n,p,rfl,_⟩:=h
  rfl
 obtain⟨n,p,rfl,hn,hp,e⟩:=h
 refine⟨_,(pss_cons (ps_expr (pe_fnX g_Y26 hr (pa_cons (pv 1) (pa_cons (pe_fn g_Y29 hr (pa_cons (pv 0) pa_nil)) pa_nil))))
   pss_never),?_⟩
 exact⟨_,rfl,_,rfl,n,rfl,hn,fun H1 s1=>⟨_,_,rfl,fun hy=>absurd hy (by omega),fun _=>e H1 s1⟩⟩
theorem ok_Y75 (F_Y75:Fun K "tree" "tree" s_Y75 f fd)(g_Y67:FnX P w K mg base "tree_at" fO dO p_Y67 3 spO)(g_Y29:Fn P w K mg base "count_trees" p_Y29 2 spCT)(g_Y77:FnX P w K mg base "even" fE dE p_Y77 6 (spDone C CN ShN evV)):FnOk P w K mg base (CXR P w) 7 f fd p_Y75 (spTreeN C CN):=by
 refine F_Y75.okX sc_Y75 (fun vs H Q E h=>?_) (fun cdv A outer s H vs Q E hr h=>?_)
 ·obtain⟨b,dx,r,bl,z,rfl,_⟩:=h
  rfl
 obtain⟨b,dx,r,bl,z,rfl,hA,h11,e⟩:=h
 refine⟨_,(pss_one (ps_ret (pe_fnX g_Y67 hr (pa_cons (pv 1) (pa_cons (pe_fnX g_Y77 hr (pa_cons (pv 0) (pa_cons (pe_fn g_Y29 hr (pa_cons (pv 1) pa_nil)) pa_nil))) pa_nil))))),?_⟩
 refine⟨_,rfl,_,rfl,_,rfl,3,rfl,by decide,fun H1 s1=>?_⟩
 exact ev_no (m:=5) (hA.same s1) h11 (by decide) (by decide) fun H' g a=>e H' ((Grow.same s1).trans g) a
end
def ShSh (H:Hp)(x:V):Prop:=∃p xs,x=.ref p∧H p=some (.tup xs)∧xs.length=4
def ShGr (_:Hp)(x:V):Prop:=x=.int 3
noncomputable def abv:List V:=[.non,.non,.int 0,.int 1,.non]
def ShOu (H:Hp)(x:V):Prop:=∃p,x=.ref p∧H p=some (.tup abv)
def spPS:Sp:=fun vs H Q _=>vs=[.int 4]∧∀p H',Same H H'→H' p=some (.lst [.int 3,.int 2,.int 1])→Q (.ref p) H'
noncomputable def szL (i:Nat):List V:=if i<2 then [.int 1,.int 1,.int 1,.int 1,.int 1]else if i<3 then [.int 1,.int 2,.int 1,.int 1,.int 1]else [.int 2,.int 2,.int 1,.int 1,.int 1]
noncomputable def cmL (j:Nat):List V:=if j=0 then []else if j=1 then [.int 0]else if j<5 then [.int 0,.int 1]else [.int 0,.int 1,.int 4]
def spSU:Sp:=fun vs H Q _=>∃a,vs=[.ref a]∧H a=some (.tup abv)∧∀p H',Same H H'→H' p=some (.lst [.int 2,.int 2,.int 1,.int 1,.int 1])→Q (.ref p) H'
theorem drop_two {bl:List Nat}{z:Nat}(h:bl.drop z=[1,1]):bl.drop (z+1)=[1]∧bl.drop (z+2)=[]:=by
 constructor
 ·rw[←List.drop_drop,h];rfl
 ·rw[←List.drop_drop,h];rfl
section
variable {P:Program}{w:World}{K:PySem.W.Frag}{mg:Str→Option Value}{base:Heap}{f C CN fE fD fR:Addr}{fd dE dD dR:FuncData}
theorem ok_Y7 (F_Y7:Fun K "places_of_swaps" "places_of_swaps" s_Y7 f fd)(B:Bl mg):FnOk P w K mg base CX0 1 f fd p_Y7 spPS:=by
 refine F_Y7.ok sc_Y7 (fun vs H Q E h=>?_) (fun cdv A outer s H vs Q E hr h=>?_)
 ·obtain⟨rfl,_⟩:=h
  rfl
 obtain⟨rfl,q⟩:=h
 refine⟨_,(pss_one (ps_ret (pe_lstDown rfl rfl B.list_ rfl B.range_ (pa_cons (pe_op op_sub (pv 0) pe_int) (pa_cons pe_int (pa_cons (pe_un un_neg pe_int) pa_nil)))))),?_⟩
 refine⟨_,rfl,_,_,rfl,rfl,_,rfl,_,0,rfl,⟨by decide,by decide,by decide,by decide⟩,fun p fp=>?_⟩
 exact q p _ (same_new fp _) upd_same
theorem ok_Y15 (F_Y15:Fun K "take_shuffled" "take_shuffled" s_Y15 f fd)(B:Bl mg)(g_Y77:FnX P w K mg base "even" fE dE p_Y77 6 (spDone C CN ShN evV))(g_Y7:Fn P w K mg base "places_of_swaps" p_Y7 1 spPS)(g_Y56:Fn P w K mg base "by_swaps" p_Y56 0 spNo) :
  FnOk P w K mg base (CXR P w) 7 f fd p_Y15 (spRawN C CN ShSh):=by
 refine F_Y15.okX sc_Y15 (fun vs H Q E h=>?_) (fun cdv A outer s H vs Q E hr h=>?_)
 ·obtain⟨b,dx,r,bl,z,x,rfl,_⟩:=h
  rfl
 obtain⟨b,dx,r,bl,z,x,rfl,hA,h11,⟨p,xs,rfl,hp,hl⟩,e⟩:=h
 obtain⟨_,h0⟩:=drop_two h11
 refine⟨_,(pss_one (ps_ret (pe_fn g_Y56 hr (pa_cons (pv 1) (pa_cons (pe_compX [] ["bits","row","place"] 1 rfl (pi_list (pe_fn g_Y7 hr (pa_cons (pe_callB call_len_seq rfl B.len_ L3.bt_len (pa_cons (pv 1) pa_nil)) pa_nil))) (fun _ _ _ _ _=>(pg_name (i:=2) nd_3 rfl (Or.inl rfl) (Or.inr rfl))) (fun _ _ _ _ _=>pif_nil) (fun _ _ _ _ _ _ I2 hC f2=>(pe_fnXC I2 hC f2 g_Y77 hr (pa_cons (pv 0) (pa_cons (pe_op op_add (pv 2) pe_int) pa_nil))))) pa_nil))))),?_⟩
 refine⟨_,rfl,_,rfl,p,_,rfl,.inr (SqT.of hp),by rw[hl];rfl,fun l H1 s1 h1=>?_⟩
 refine⟨l,rfl,⟨_,SqL.of h1⟩,comp_list (xs:=[V.int 3,V.int 2,V.int 1]) (fun i acc σ' H'=>∃o2:Option V,σ'=[some (.ref b),some (.ref p),o2]∧Grow b H1 H'∧((i=0∧acc=[]∧At C H' b dx r bl z)∨(i=1∧acc=[.int 3]∧At C H' b dx r bl (z+2))))
  ⟨_,rfl,Grow.refl _ _,.inl ⟨rfl,rfl,hA.same s1⟩⟩ (fun i acc σ' H' _ ⟨_,_,_,hh⟩=>?_) (fun i acc σ' H' _ ⟨_,_,g,_⟩=>SqL.of (g _ _ (fun y=>by rw[y,(hA.same s1).obj]at h1;cases h1) h1)) ?_ ?_⟩
 ·rcases hh with ⟨_,rfl,_⟩|⟨_,rfl,_⟩<;>decide
 ·rintro i v acc σ' H' hv ⟨o2,rfl,g,hh⟩
  unfold gName
  dsimp only
  rw[if_pos rfl]
  rcases hh with ⟨rfl,rfl,a⟩|⟨rfl,rfl,a⟩
  ·cases hv
   refine⟨_,rfl,_,rfl,_,_,rfl,rfl,b,dx,r,bl,z,_,4,rfl,a,⟨rfl,by decide⟩,fun v u H2 hv2 g2 a2=>?_,fun H2 hn=>?_⟩
   ·rw[h11]at hv2
    have:evV 4 [1,1]=some (V.int 3,2):=by decide
    rw[this]at hv2
    cases hv2
    exact⟨_,rfl,g.trans g2,.inr ⟨rfl,rfl,a2⟩⟩
   ·rw[h11]at hn
    cases hn
  ·cases hv
   refine⟨_,rfl,_,rfl,_,_,rfl,rfl,b,dx,r,bl,z+2,_,3,rfl,a,⟨rfl,by decide⟩,fun v u H2 hv2=>?_,fun H2 hn g2 a2=>?_⟩
   ·rw[h0]at hv2
    cases hv2
   ·exact e (z+2) H2 (by omega) ((Grow.same s1).trans (g.trans g2)) a2
 ·rintro acc σ' H' D ⟨o2,rfl,g,hh⟩
  rcases hh with ⟨hh,_⟩|⟨hh,_⟩<;>cases hh
theorem ok_Y58 (F_Y58:Fun K "shuffled" "shuffled" s_Y58 f fd)(g_Y22:FnX P w K mg base "drawn_whole" fD dD p_Y22 9 (spDW P w K mg base 8 C CN))(g_Y15:FnX P w K mg base "take_shuffled" fR dR p_Y15 7 (spRawN C CN ShSh)):FnOk P w K mg base (CXR P w) 10 f fd p_Y58 (spDoneN C CN ShSh):=by
 refine F_Y58.okX sc_Y58 (fun vs H Q E h=>?_) (fun cdv A outer s H vs Q E hr h=>?_)
 ·obtain⟨b,dx,r,bl,z,x,rfl,_⟩:=h
  rfl
 obtain⟨b,dx,r,bl,z,x,rfl,hA,h11,hS,e⟩:=h
 refine⟨_,(pss_one (ps_ret (pe_fnX g_Y22 hr (pa_cons (pv 0) (pa_cons (pe_glob (v:=.ref _) rfl g_Y15.mg rfl) (pa_cons (pv 1) pa_nil)))))),?_⟩
 exact⟨_,rfl,_,rfl,dw_ofN g_Y15 (by decide) hA h11 hS e⟩
theorem ok_Y39 (F_Y39:Fun K "take_grown" "take_grown" s_Y39 f fd)(B:Bl mg)(g_Y77:FnX P w K mg base "even" fE dE p_Y77 6 (spDone C CN ShN evV))(g_Y71:Fn P w K mg base "grown" p_Y71 0 spNo) :
  FnOk P w K mg base (CXR P w) 7 f fd p_Y39 (spRawN C CN ShGr):=by
 refine F_Y39.okX sc_Y39 (fun vs H Q E h=>?_) (fun cdv A outer s H vs Q E hr h=>?_)
 ·obtain⟨b,dx,r,bl,z,x,rfl,_⟩:=h
  rfl
 obtain⟨b,dx,r,bl,z,x,rfl,hA,h11,hx,e⟩:=h
 cases hx
 obtain⟨h1,_⟩:=drop_two h11
 refine⟨_,(pss_one (ps_ret (pe_fn g_Y71 hr (pa_cons (pe_compX [] ["bits","many","turn"] 1 rfl (pi_range1 rfl B.range_ (pa_cons (pv 1) pa_nil)) (fun _ _ _ _ _=>(pg_name (i:=2) nd_4 rfl (Or.inl rfl) (Or.inr rfl))) (fun _ _ _ _ _=>pif_nil) (fun _ _ _ _ _ _ I2 hC f2=>(pe_fnXC I2 hC f2 g_Y77 hr (pa_cons (pv 0) (pa_cons (pe_op op_mul pe_int (pe_op op_add (pe_op op_mul pe_int (pv 2)) pe_int)) pa_nil))))) pa_nil)))),?_⟩
 refine⟨_,rfl,3,rfl,by decide,by decide,comp_range (lo:=0) (n:=3) (fun i acc σ' H'=>∃o2:Option V,σ'=[some (.ref b),some (.int 3),o2]∧Grow b H H'∧((i=0∧acc=[]∧At C H' b dx r bl z)∨(i=1∧acc=[.int 1]∧At C H' b dx r bl (z+1))))
  ⟨_,rfl,Grow.refl _ _,.inl ⟨rfl,rfl,hA⟩⟩ (fun i acc σ' H' _ ⟨_,_,_,hh⟩=>?_) ?_ ?_⟩
 ·rcases hh with ⟨_,rfl,_⟩|⟨_,rfl,_⟩<;>decide
 ·rintro i acc σ' H' hi ⟨o2,rfl,g,hh⟩
  unfold gName
  dsimp only
  rw[if_pos rfl]
  rcases hh with ⟨rfl,rfl,a⟩|⟨rfl,rfl,a⟩
  ·refine⟨_,rfl,_,rfl,_,_,rfl,rfl,.inl ⟨by decide,by decide⟩,_,_,rfl,rfl,_,_,rfl,rfl,.inl ⟨by decide,by decide⟩,b,dx,r,bl,z,_,2,rfl,a,⟨rfl,by decide⟩,fun v u H2 hv2 g2 a2=>?_,fun H2 hn=>?_⟩
   ·rw[h11]at hv2
    have:evV 2 [1,1]=some (V.int 1,1):=by decide
    rw[this]at hv2
    cases hv2
    exact⟨_,rfl,g.trans g2,.inr ⟨rfl,rfl,a2⟩⟩
   ·rw[h11]at hn
    cases hn
  ·refine⟨_,rfl,_,rfl,_,_,rfl,rfl,.inl ⟨by decide,by decide⟩,_,_,rfl,rfl,_,_,rfl,rfl,.inl ⟨by decide,by decide⟩,b,dx,r,bl,z+1,_,6,rfl,a,⟨rfl,by decide⟩,fun v u H2 hv2=>?_,fun H2 hn g2 a2=>?_⟩
   ·rw[h1]at hv2
    cases hv2
   ·exact e (z+1) H2 (by omega) (g.trans g2) a2
 ·rintro acc σ' H' D ⟨o2,rfl,g,hh⟩
  rcases hh with ⟨hh,_⟩|⟨hh,_⟩<;>cases hh
theorem ok_Y74 (F_Y74:Fun K "grow" "grow" s_Y74 f fd)(g_Y22:FnX P w K mg base "drawn_whole" fD dD p_Y22 9 (spDW P w K mg base 8 C CN))(g_Y39:FnX P w K mg base "take_grown" fR dR p_Y39 7 (spRawN C CN ShGr)):FnOk P w K mg base (CXR P w) 10 f fd p_Y74 (spDoneN C CN ShGr):=by
 refine F_Y74.okX sc_Y74 (fun vs H Q E h=>?_) (fun cdv A outer s H vs Q E hr h=>?_)
 ·obtain⟨b,dx,r,bl,z,x,rfl,_⟩:=h
  rfl
 obtain⟨b,dx,r,bl,z,x,rfl,hA,h11,hS,e⟩:=h
 refine⟨_,(pss_one (ps_ret (pe_fnX g_Y22 hr (pa_cons (pv 0) (pa_cons (pe_glob (v:=.ref _) rfl g_Y39.mg rfl) (pa_cons (pv 1) pa_nil)))))),?_⟩
 exact⟨_,rfl,_,rfl,dw_ofN g_Y39 (by decide) hA h11 hS e⟩
theorem ok_Y30 (F_Y30:Fun K "sizes_under" "sizes_under" s_Y30 f fd)(B:Bl mg):FnOk P w K mg base CX0 1 f fd p_Y30 spSU:=by
 refine F_Y30.ok sc_Y30 (fun vs H Q E h=>?_) (fun cdv A outer s H vs Q E hr h=>?_)
 ·obtain⟨a,rfl,_⟩:=h
  rfl
 obtain⟨a,rfl,ha,q⟩:=h
 refine⟨_,(pss_cons (ps_comp 1 [2] ["above","sizes","number","upper"] 0 rfl sc_Y30.nd rfl rfl (pi_tup (pv 0)) (fun _ _ _ _ _=>(pg_name (i:=2) nd_5 rfl (Or.inl rfl) (Or.inr rfl))) (fun _ _ _ _ _=>pif_nil) (fun _ _ _ _ _=>pe_int))
   (pss_cons (ps_for PassesOwn.never rfl (pi_rangeDown rfl B.range_ (pa_cons (pe_op op_sub (pe_callB call_len_seq rfl B.len_ L3.bt_len (pa_cons (pv 0) pa_nil)) pe_int) (pa_cons (pe_un un_neg pe_int) (pa_cons (pe_un un_neg pe_int) pa_nil)))) (pg_name (i:=2) sc_Y30.nd rfl (Or.inl rfl)) (pss_cons (ps_set (i:=3) sc_Y30.nd rfl (Or.inl rfl) (pe_ix ix_tup (pv 0) (pv 2) (fun _ _=>rfl)))
   (pss_one (ps_joinN (ps_if (pt_cmpR op_notN (pv 3) pe_non (nomark _)) (pss_one (ps_asg (pe_op op_add (pe_ix ix_list (pv 1) (pv 3) (fun _ _=>rfl)) (pe_ix ix_list (pv 1) (pv 2) (fun _ _=>rfl))) (pg_sub (pv 1) (pv 3) set_list))) pss_nil)))))
   (pss_one (ps_ret (pv 1))))),?_⟩
 refine⟨_,rfl,a,rfl,⟨_,SqT.of ha⟩,comp_tup (xs:=abv) (fun j acc σ' H'=>acc=List.replicate j (V.int 1)∧H'=H∧∃o:Option V,σ'=[some (.ref a),none,o,none]) ⟨rfl,rfl,_,rfl⟩ (fun j acc σ' H' hj ⟨e,_⟩=>by rw[e,List.length_replicate];exact Nat.le_trans hj (by decide)) (fun j acc σ' H' _ ⟨_,y,_⟩=>SqT.of (by rw[y];exact ha)) ?_ ?_⟩
 ·rintro j x acc σ' H' hx ⟨rfl,rfl,o,rfl⟩
  refine⟨?_,rfl,_,rfl⟩
  rw[List.replicate_succ']
 rintro acc σ' H' L ⟨rfl,rfl,o,rfl⟩ fL
 have e0:List.replicate abv.length (V.int 1)=szL 0:=rfl
 rw[e0]
 have yL:=same_new fL (.lst (szL 0))
 have wL:(upd H' L (.lst (szL 0))) L=some (.lst (szL 0)):=upd_same
 generalize upd H' L (.lst (szL 0))=H1 at yL wL ⊢
 refine⟨_,rfl,a,_,rfl,.inr (SqT.of (yL _ _ ha)),_,_,rfl,rfl,1,rfl,1,rfl,?_⟩
 refine⟨4,-1,rfl,⟨by decide,by decide,by decide,by decide⟩,?_⟩
 rw[show((4:Int)-(-1)).toNat=5 from rfl]
 refine for_rangeS (lo:=4) (st:=-1) (n:=5) (fun j2 σ' H2=>∃o2 o3:Option V,σ'=[some (.ref a),some (.ref L),o2,o3]∧Same H' H2∧H2 L=some (.lst (szL j2)))
  ⟨_,_,rfl,yL,wL⟩ ?_ ?_
 ·rintro j2 σ2 H2 hj2 ⟨o2,o3,rfl,s2,h2⟩
  have ha2:=s2 _ _ ha
  have non:∀{i:Int},atI abv i=some .non→szL (j2+1)=szL j2→True:=fun _ _=>trivial
  have hadd:∀(i u:Int)(v x y:V),True:=fun _ _ _ _ _=>trivial
  clear non hadd
  rcases j2 with _|_|_|_|_|j2
  ·refine⟨_,rfl,_,rfl,a,_,_,_,rfl,rfl,SqT.of ha2,rfl,?_⟩
   refine⟨fun σ' H3=>∃o2 o3:Option V,σ'=[some (.ref a),some (.ref L),o2,o3]∧Same H' H3∧H3 L=some (.lst (szL 1)),fun _ _ h=>h,?_⟩
   exact⟨_,rfl,rfl,_,rfl,iteF ⟨_,_,rfl,s2,h2⟩⟩
  ·refine⟨_,rfl,_,rfl,a,_,_,_,rfl,rfl,SqT.of ha2,rfl,?_⟩
   refine⟨fun σ' H3=>∃o2 o3:Option V,σ'=[some (.ref a),some (.ref L),o2,o3]∧Same H' H3∧H3 L=some (.lst (szL 2)),fun _ _ h=>h,?_⟩
   refine⟨_,rfl,rfl,_,rfl,ite2 (fun _=>?_) (fun c=>absurd rfl c)⟩
   refine⟨_,rfl,_,rfl,L,_,_,_,rfl,rfl,SqL.of h2,rfl,?_⟩
   refine⟨_,rfl,_,rfl,L,_,_,_,rfl,rfl,SqL.of h2,rfl,_,_,rfl,rfl,?_⟩
   refine⟨_,rfl,_,rfl,L,_,_,1,rfl,rfl,h2,rfl,?_⟩
   refine⟨_,_,rfl,fun c o y=>(upd_ne (ne_of_none y fL)).trans (s2 c o y),?_⟩
   rw[upd_same]
   rfl
  ·refine⟨_,rfl,_,rfl,a,_,_,_,rfl,rfl,SqT.of ha2,rfl,?_⟩
   refine⟨fun σ' H3=>∃o2 o3:Option V,σ'=[some (.ref a),some (.ref L),o2,o3]∧Same H' H3∧H3 L=some (.lst (szL 3)),fun _ _ h=>h,?_⟩
   refine⟨_,rfl,rfl,_,rfl,ite2 (fun _=>?_) (fun c=>absurd rfl c)⟩
   refine⟨_,rfl,_,rfl,L,_,_,_,rfl,rfl,SqL.of h2,rfl,?_⟩
   refine⟨_,rfl,_,rfl,L,_,_,_,rfl,rfl,SqL.of h2,rfl,_,_,rfl,rfl,?_⟩
   refine⟨_,rfl,_,rfl,L,_,_,0,rfl,rfl,h2,rfl,?_⟩
   refine⟨_,_,rfl,fun c o y=>(upd_ne (ne_of_none y fL)).trans (s2 c o y),?_⟩
   rw[upd_same]
   rfl
  ·refine⟨_,rfl,_,rfl,a,_,_,_,rfl,rfl,SqT.of ha2,rfl,?_⟩
   refine⟨fun σ' H3=>∃o2 o3:Option V,σ'=[some (.ref a),some (.ref L),o2,o3]∧Same H' H3∧H3 L=some (.lst (szL 4)),fun _ _ h=>h,?_⟩
   exact⟨_,rfl,rfl,_,rfl,iteF ⟨_,_,rfl,s2,h2⟩⟩
  ·refine⟨_,rfl,_,rfl,a,_,_,_,rfl,rfl,SqT.of ha2,rfl,?_⟩
   refine⟨fun σ' H3=>∃o2 o3:Option V,σ'=[some (.ref a),some (.ref L),o2,o3]∧Same H' H3∧H3 L=some (.lst (szL 5)),fun _ _ h=>h,?_⟩
   exact⟨_,rfl,rfl,_,rfl,iteF ⟨_,_,rfl,s2,h2⟩⟩
  ·exact absurd hj2 (by omega)
 ·rintro σ2 H2 ⟨o2,o3,rfl,s2,h2⟩
  exact⟨_,rfl,q L H2 s2 h2⟩
theorem ok_Y4 (F_Y4:Fun K "take_order_under" "take_order_under" s_Y4 f fd)(B:Bl mg)(g_Y30:Fn P w K mg base "sizes_under" p_Y30 1 spSU)(g_Y81:FnX P w K mg base "pick" fE dE p_Y81 6 (spDone C CN ShW pkV)) :
  FnOk P w K mg base (CXR P w) 7 f fd p_Y4 (spRawN C CN ShOu):=by
 refine F_Y4.okX sc_Y4 (fun vs H Q E h=>?_) (fun cdv A outer s H vs Q E hr h=>?_)
 ·obtain⟨b,dx,r,bl,z,x,rfl,_⟩:=h
  rfl
 obtain⟨b,dx,r,bl,z,x,rfl,hA,h11,⟨a,rfl,ha⟩,e⟩:=h
 refine⟨_,(pss_cons (ps_set (i:=2) sc_Y4.nd rfl (Or.inr rfl) (pe_fn g_Y30 hr (pa_cons (pv 1) pa_nil)))
   (pss_cons (ps_comp 3 [] ["bits","above","sizes","coming","row","picked","freed","number","upper"] 2 rfl sc_Y4.nd rfl rfl (pi_enumT rfl B.enumerate_ (pa_cons (pv 1) pa_nil)) (fun _ _ _ _ _=>(pg_tupK K 2 rfl (pgs_cons (pg_name (i:=7) nd_6 rfl (Or.inl rfl) (Or.inr rfl)) (pgs_cons (pg_name (i:=8) nd_6 rfl (Or.inl rfl) (Or.inr rfl)) pgs_nil)) rfl rfl rfl)) (fun _ _ _ _ _=>(pif_one (pt_cmpR op_isN (pv 8) pe_non (nomark _)))) (fun _ _ _ _ _=>(pv 7)))
   (pss_cons (ps_set (i:=4) sc_Y4.nd rfl (Or.inl rfl) (pe_lst pa_nil))
   (pss_cons (ps_while (PassesOwn.leaving (M:=model P w)) (pt_cmpR op_gt (pe_callB call_len_seq rfl B.len_ L3.bt_len (pa_cons (pv 3) pa_nil)) pe_int (nomark _)) (pss_cons (ps_set (i:=5) sc_Y4.nd rfl (Or.inr rfl) (pe_ix ix_list (pv 3) (pe_fnX g_Y81 hr (pa_cons (pv 0) (pa_cons (pe_callTy call_tuple_of rfl B.tuple_ L3.bt_tuple (pa_cons (pe_comp [] ["bits","above","sizes","coming","row","picked","freed","number"] 1 rfl (pi_list (pv 3)) (fun _ _ _ _ _=>(pg_name (i:=7) nd_7 rfl (Or.inl rfl) (Or.inr rfl))) (fun _ _ _ _ _=>pif_nil) (fun _ _ _ _ _=>(pe_ix (ix_listK K rfl) (pv 2) (pv 7) (fun _ _=>rfl)))) pa_nil)) pa_nil))) (fun _ _=>rfl)))
   pss_never))
   pss_never)))),?_⟩
 refine⟨_,rfl,a,rfl,ha,fun sz H1 s1 h1=>?_⟩
 refine⟨_,rfl,a,rfl,⟨_,SqT.of (s1 _ _ ha)⟩,comp_enum (xs:=abv) (fun j acc σ' H'=>acc=cmL j∧Same H1 H'∧∃o7 o8:Option V,σ'=[some (.ref b),some (.ref a),some (.ref sz),none,none,none,none,o7,o8]) ⟨rfl,Same.refl _,_,_,rfl⟩
  (fun j acc σ' H' _ ⟨y,_⟩=>by rw[y];unfold cmL;(repeat' split)<;>decide) (fun j acc σ' H' _ ⟨_,y,_⟩=>SqT.of (y _ _ (s1 _ _ ha))) ?_ ?_⟩
 ·rintro j x acc σ' H' p hx ⟨rfl,y,o7,o8,rfl⟩ fp
  have yp:=same_new fp (.tup [V.int (j:Int),x])
  have hp:(upd H' p (.tup [V.int (j:Int),x])) p=some (.tup [V.int (j:Int),x]):=upd_same
  generalize upd H' p (.tup [V.int (j:Int),x])=H2 at yp hp ⊢
  refine⟨p,_,rfl,SqT.of hp,rfl,_,_,rfl,_,_,rfl,rfl,?_⟩
  rcases j with _|_|_|_|_|j
  ·cases hx
   exact⟨_,rfl,rfl,_,rfl,ite2 (fun _=>⟨_,rfl,rfl,y.trans yp,_,_,rfl⟩) (fun c=>absurd rfl c)⟩
  ·cases hx
   exact⟨_,rfl,rfl,_,rfl,ite2 (fun _=>⟨_,rfl,rfl,y.trans yp,_,_,rfl⟩) (fun c=>absurd rfl c)⟩
  ·cases hx
   exact⟨_,rfl,rfl,_,rfl,ite2 (fun c=>absurd c (by decide)) (fun _=>⟨rfl,y.trans yp,_,_,rfl⟩)⟩
  ·cases hx
   exact⟨_,rfl,rfl,_,rfl,ite2 (fun c=>absurd c (by decide)) (fun _=>⟨rfl,y.trans yp,_,_,rfl⟩)⟩
  ·cases hx
   exact⟨_,rfl,rfl,_,rfl,ite2 (fun _=>⟨_,rfl,rfl,y.trans yp,_,_,rfl⟩) (fun c=>absurd rfl c)⟩
  ·cases hx
 rintro acc σ' H' L ⟨rfl,y,o7,o8,rfl⟩ fL
 have eL:cmL abv.length=[V.int 0,V.int 1,V.int 4]:=rfl
 rw[eL]
 have yL:=same_new fL (.lst [V.int 0,V.int 1,V.int 4])
 have hL:(upd H' L (.lst [V.int 0,V.int 1,V.int 4])) L=some (.lst [V.int 0,V.int 1,V.int 4]):=upd_same
 generalize upd H' L (.lst [V.int 0,V.int 1,V.int 4])=H2 at yL hL ⊢
 refine⟨(by show 0≤sizeLine;decide),fun l2 f2=>?_⟩
 have y2:=same_new f2 (.lst ([]:List V))
 have hL3:=y2 _ _ hL
 have s3:=((s1.trans y).trans yL).trans y2
 have hz3:=((y.trans yL).trans y2) _ _ h1
 generalize upd H2 l2 (.lst ([]:List V))=H3 at hL3 s3 hz3 ⊢
 refine⟨fun mu σ' H'=>σ'=[some (.ref b),some (.ref a),some (.ref sz),some (.ref L),some (.ref l2),none,none]∧H'=H3,⟨0,rfl,rfl⟩,?_⟩
 rintro mu σ4 H4 ⟨rfl,rfl⟩
 refine⟨_,rfl,L,_,rfl,.inl (SqL.of hL3),_,_,rfl,rfl,_,rfl,ite2 (fun _=>?_) (fun c=>absurd (by decide) c)⟩
 refine⟨_,fun _ _ z=>z,?_⟩
 refine⟨_,rfl,_,rfl,_,rfl,L,rfl,⟨_,SqL.of hL3⟩,comp_list (xs:=[V.int 0,V.int 1,V.int 4]) (fun j acc σ' H'=>acc=([V.int 2,V.int 2,V.int 1]:List V).take j∧H'=H4∧∃o7:Option V,σ'=[some (.ref b),some (.ref a),some (.ref sz),some (.ref L),some (.ref l2),none,none,o7]) ⟨rfl,rfl,_,rfl⟩
  (fun j acc σ' H' _ ⟨y,_⟩=>by rw[y,List.length_take];exact Nat.le_trans (Nat.min_le_right _ _) (by decide)) (fun j acc σ' H' _ ⟨_,y,_⟩=>SqL.of (by rw[y];exact hL3)) ?_ ?_⟩
 ·rintro j x acc σ' H' hx ⟨rfl,rfl,o7,rfl⟩
  unfold gName
  dsimp only
  rw[if_pos rfl]
  rcases j with _|_|_|j
  ·cases hx
   exact⟨_,rfl,_,rfl,sz,_,_,_,rfl,rfl,SqL.of hz3,rfl,rfl,rfl,_,rfl⟩
  ·cases hx
   exact⟨_,rfl,_,rfl,sz,_,_,_,rfl,rfl,SqL.of hz3,rfl,rfl,rfl,_,rfl⟩
  ·cases hx
   exact⟨_,rfl,_,rfl,sz,_,_,_,rfl,rfl,SqL.of hz3,rfl,rfl,rfl,_,rfl⟩
  ·cases hx
 rintro acc σ' H' D ⟨rfl,rfl,o7,rfl⟩ fD
 have yD:=same_new fD (.lst (([V.int 2,V.int 2,V.int 1]:List V).take [V.int 0,V.int 1,V.int 4].length))
 refine⟨D,_,rfl,.inl ⟨SqL.of upd_same,fun p fp=>?_⟩⟩
 have yp:=same_new fp (.tup (([V.int 2,V.int 2,V.int 1]:List V).take [V.int 0,V.int 1,V.int 4].length))
 have s5:=(s3.trans yD).trans yp
 exact pk_no (ws:=[2,2,1]) (hA.same s5) h11 upd_same (by decide) (by decide) (by decide) (by decide) fun H' g a'=>e z H' (Nat.le_refl _) ((Grow.same s5).trans g) a'
theorem ok_Y34 (F_Y34:Fun K "order_under" "order_under" s_Y34 f fd)(g_Y22:FnX P w K mg base "drawn_whole" fD dD p_Y22 9 (spDW P w K mg base 8 C CN))(g_Y4:FnX P w K mg base "take_order_under" fR dR p_Y4 7 (spRawN C CN ShOu)):FnOk P w K mg base (CXR P w) 10 f fd p_Y34 (spDoneN C CN ShOu):=by
 refine F_Y34.okX sc_Y34 (fun vs H Q E h=>?_) (fun cdv A outer s H vs Q E hr h=>?_)
 ·obtain⟨b,dx,r,bl,z,x,rfl,_⟩:=h
  rfl
 obtain⟨b,dx,r,bl,z,x,rfl,hA,h11,hS,e⟩:=h
 refine⟨_,(pss_one (ps_ret (pe_fnX g_Y22 hr (pa_cons (pv 0) (pa_cons (pe_glob (v:=.ref _) rfl g_Y4.mg rfl) (pa_cons (pv 1) pa_nil)))))),?_⟩
 exact⟨_,rfl,_,rfl,dw_ofN g_Y4 (by decide) hA h11 hS e⟩
end
structure Mac where
 rows:List (Option Nat×Option Nat)
 ends:List Nat
noncomputable def Mac.stp (M:Mac)(s b:Nat):Option Nat:=if b=0 then (M.rows.getD s (none,none)).1 else (M.rows.getD s (none,none)).2
structure MacOk (M:Mac):Prop where
 pos:0<M.rows.length
 few:M.rows.length≤5
 st:∀s b t,M.stp s b=some t→t<M.rows.length
 en:∀e∈M.ends,e<M.rows.length
 enl:M.ends.length≤5
noncomputable def cN (M:Mac):Nat→Nat→Nat
 | 0,s=>if s∈M.ends then 1 else 0
 | k+1,s=>(M.stp s 0).elim 0 (cN M k)+(M.stp s 1).elim 0 (cN M k)
noncomputable def wst (l:List Nat):Str:=⟨(l.map (97 + ·)).toArray⟩
theorem wst_len (l:List Nat):(wst l).length=l.length:=by
 show((l.map (97 + ·)).toArray).size=_
 rw[List.size_toArray,List.length_map]
noncomputable def lst1 (b:Nat):Str:=⟨#[97+b]⟩
theorem op_inK {X:Cx}(K:PySem.W.Frag)(hK:X.K=K):OpR X (compareOp .In) (rIn K false):=by
 subst hK
 exact op_in_seq
noncomputable def vop:Option Nat→V
 | none=>.non
 | some n=>.int (n:Int)
noncomputable abbrev Mac.row (M:Mac)(j:Nat):Option Nat×Option Nat:=M.rows.getD j (none,none)
def MacAt (H:Hp)(p:Addr)(M:Mac):Prop:=∃(pr pe:Addr)(qs:List Addr),H p=some (.tup [.ref pr,.ref pe])∧H pr=some (.tup (qs.map V.ref))∧qs.length=M.rows.length∧(∀(j:Nat)(q:Addr),qs[j]?=some q→H q=some (.tup [vop (M.row j).1,vop (M.row j).2]))∧H pe=some (.tup (vnats M.ends))
theorem occ_ab:∀b,b≤1→Builtin.Str.occurrences ("ab" : Str) (lst1 b) 0 ("ab" : Str).length 1=[b]:=by
 intro b hb
 have:b=0∨b=1:=by omega
 rcases this with rfl|rfl<;>decide +kernel
def spLed:Sp:=fun vs H Q _=>∃(p:Addr)(M:Mac)(o:Option Nat)(b:Nat),vs=[.ref p,vop o,.str (lst1 b)]∧b≤1∧MacAt H p M∧(∀s,o=some s→s<M.rows.length)∧Q (vop (o.bind fun s=>M.stp s b)) H
def spCF:Sp:=fun vs H Q _=>∃(l:Addr)(cs:List Nat)(o:Option Nat),vs=[.ref l,vop o]∧H l=some (.lst (vnats cs))∧(∀s,o=some s→s<cs.length)∧Q (.int ((o.elim 0 fun s=>cs.getD s 0:Nat):Int)) H
structure CntAt (H:Hp)(L:Addr)(M:Mac)(k:Nat)(ls:List Addr):Prop where
 lst:H L=some (.lst (ls.map V.ref))
 len:ls.length=k+1
 row:∀(j:Nat)(l:Addr),ls[j]?=some l→H l=some (.lst (vnats ((List.range M.rows.length).map (cN M j))))
def spCBL:Sp:=fun vs H Q _=>∃(p:Addr)(M:Mac)(k:Nat),vs=[.ref p,.int (k:Int)]∧MacAt H p M∧MacOk M∧k≤100∧∀L ls H',H L=none→Same H H'→CntAt H' L M k ls→Q (.ref L) H'
def spCW:Sp:=fun vs H Q _=>∃(p:Addr)(M:Mac)(k:Nat),vs=[.ref p,.int (k:Int)]∧MacAt H p M∧MacOk M∧k≤100∧∀H',Same H H'→Q (.int (cN M k 0:Int)) H'
theorem in_nats (x : Nat) (l : List Nat) : inV (.int (x : Int)) (vnats l) = decide (x ∈ l) := by
  unfold inV vnats
  rw [List.any_map]
  by_cases c : x ∈ l
  · rw [decide_eq_true c, List.any_eq_true]
    exact ⟨x, c, by show ((x : Int) == (x : Int)) = true; simp⟩
  · rw [decide_eq_false c, List.any_eq_false]
    intro y hy e
    have e' : ((y : Int) == (x : Int)) = true := e
    have : y = x := by have e2 : (y : Int) = (x : Int) := by simpa using e'
                       omega
    exact c (by rw [← this]; exact hy)
theorem flat_nats2 (l:List Nat):(vnats l).all flatV=true:=by
 rw[List.all_eq_true]
 intro x hx
 obtain⟨n,_,rfl⟩:=List.mem_map.mp hx
 rfl
theorem cN_get {M:Mac}{k s:Nat}(h:s<M.rows.length):((List.range M.rows.length).map (cN M k)).getD s 0=cN M k s:=by
 rw[List.getD_eq_getElem?_getD,List.getElem?_map,List.getElem?_range h]
 rfl
section
variable {P:Program}{w:World}{K:PySem.W.Frag}{mg:Str→Option Value}{base:Heap}{f:Addr}{fd:FuncData}{CP:Addr}{mP:List Value}
theorem ok_Y69 (F_Y69:Fun K "led_to" "led_to" s_Y69 f fd)(C:Cn K mg):FnOk P w K mg base CX0 1 f fd p_Y69 spLed:=by
 obtain⟨_,C_LETTERS⟩:=C.LETTERS
 refine F_Y69.ok sc_Y69 (fun vs H Q E h=>?_) (fun cdv A outer s H vs Q E hr h=>?_)
 ·obtain⟨p,M,o,b,rfl,_⟩:=h
  rfl
 obtain⟨p,M,o,b,rfl,hb,hM,hs,q⟩:=h
 refine⟨_,(pss_cons (ps_if (PW.pt (pw_or (pt_cmpR op_isN (pv 1) pe_non (nomark _)) (pw_or1 (pt_cmpR op_notIn_str (pv 2) (pe_glob (v:=.str "ab") rfl C_LETTERS ⟨_,rfl⟩) rfl)))) (pss_one (ps_ret pe_non)) pss_nil)
   (pss_one (ps_ret (pe_ix ix_tup (pe_ix ix_tup (pe_ix ix_tup (pv 0) pe_int (fun _ _=>rfl)) (pv 1) (fun _ _=>rfl)) (pe_bm PySem.F.plainAttrs_str PySem.F.slot_str_index PySem.F.type_str_index mt_sindex (pe_glob (v:=.str "ab") rfl C_LETTERS ⟨_,rfl⟩) (pa_cons (pv 2) pa_nil)) (fun _ _=>rfl))))),?_⟩
 have hocc:=occ_ab b hb
 cases o with
 | none=>exact⟨_,rfl,rfl,_,rfl,ite2 (fun _=>iteT q) (fun c=>absurd rfl c)⟩
 | some st =>
  refine⟨_,rfl,rfl,_,rfl,ite2 (fun c=>absurd (of_decide_eq_true c) (fun z=>by cases z)) (fun _=>?_)⟩
  refine⟨_,rfl,_,_,rfl,rfl,_,rfl,?_⟩
  rw[hocc]
  refine iteF ?_
  obtain⟨pr,pe,qs,h1,h2,h3,h4,h5⟩:=hM
  have hst:=hs st rfl
  obtain⟨q',hq'⟩:∃q',qs[st]?=some q':=⟨_,List.getElem?_eq_getElem (by omega)⟩
  have hrow:=h4 st q' hq'
  refine⟨_,rfl,p,_,_,_,rfl,rfl,SqT.of h1,rfl,_,rfl,pr,_,_,_,rfl,rfl,SqT.of h2,atI_nat (j:=st) (v:=.ref q') (by rw[List.getElem?_map,hq'];rfl),rfl,_,rfl,_,_,b,[],rfl,rfl,hocc,q',_,_,_,rfl,rfl,SqT.of hrow,atI_nat (j:=b) (v:=vop (M.stp st b)) ?_,q⟩
  have:b=0∨b=1:=by omega
  rcases this with rfl|rfl<;>rfl
theorem ok_Y40 (F_Y40:Fun K "count_from" "count_from" s_Y40 f fd):FnOk P w K mg base CX0 1 f fd p_Y40 spCF:=by
 refine F_Y40.ok sc_Y40 (fun vs H Q E h=>?_) (fun cdv A outer s H vs Q E hr h=>?_)
 ·obtain⟨l,cs,o,rfl,_⟩:=h
  rfl
 obtain⟨l,cs,o,rfl,hL,hs,q⟩:=h
 refine⟨_,(pss_one (ps_ret (pe_ifExp (pt_cmpR op_isN (pv 1) pe_non (nomark _)) pe_int (pe_ix ix_list (pv 0) (pv 1) (fun _ _=>rfl))))),?_⟩
 cases o with
 | none=>exact⟨_,rfl,rfl,_,rfl,ite2 (fun _=>q) (fun c=>absurd rfl c)⟩
 | some st =>
  refine⟨_,rfl,rfl,_,rfl,ite2 (fun c=>absurd (of_decide_eq_true c) (fun z=>by cases z)) (fun _=>?_)⟩
  exact⟨_,rfl,_,rfl,l,_,_,_,rfl,rfl,SqL.of hL,atI_nat (vnats_at (hs st rfl)),q⟩
theorem ok_Y2 (F_Y2:Fun K "counts_by_length" "counts_by_length" s_Y2 f fd)(B:Bl mg)(g_Y40:Fn P w K mg base "count_from" p_Y40 1 spCF):FnOk P w K mg base CX0 2 f fd p_Y2 spCBL:=by
 refine F_Y2.ok sc_Y2 (fun vs H Q E h=>?_) (fun cdv A outer s H vs Q E hr h=>?_)
 ·obtain⟨p,M,k,rfl,_⟩:=h
  rfl
 obtain⟨p,M,k,rfl,hM,ok,hk,q⟩:=h
 refine⟨_,(pss_cons (ps_set (i:=2) sc_Y2.nd rfl (Or.inl rfl) (pe_ix ix_tup (pv 0) pe_int (fun _ _=>rfl)))
   (pss_cons (ps_set (i:=3) sc_Y2.nd rfl (Or.inl rfl) (pe_lst (pa_cons (pe_comp [] ["machine","long","rows","counts","length","shorter","state"] 1 rfl (pi_range1 rfl B.range_ (pa_cons (pe_callB call_len_seq rfl B.len_ L3.bt_len (pa_cons (pv 2) pa_nil)) pa_nil)) (fun _ _ _ _ _=>(pg_name (i:=6) nd_8 rfl (Or.inl rfl) (Or.inr rfl))) (fun _ _ _ _ _=>pif_nil) (fun _ _ _ _ _=>(pe_ifExp (pt_cmpR (op_inK K rfl) (pv 6) (pe_ix (ix_tupK K rfl) (pv 0) pe_int (fun _ _=>rfl)) rfl) pe_int pe_int))) pa_nil)))
   (pss_cons (ps_for PassesOwn.never rfl (pi_range1 rfl B.range_ (pa_cons (pv 1) pa_nil)) (pg_name (i:=4) sc_Y2.nd rfl (Or.inl rfl)) (pss_cons (ps_set (i:=5) sc_Y2.nd rfl (Or.inr rfl) (pe_ix ix_list (pv 3) (pv 4) (fun _ _=>rfl)))
   (pss_one (ps_expr (pe_bm PySem.F.plainAttrs_list PySem.F.slot_list_append PySem.F.type_list_append mt_append (pv 3) (pa_cons (pe_comp [] ["machine","long","rows","counts","length","shorter","row"] 1 rfl (pi_tup (pv 2)) (fun _ _ _ _ _=>(pg_name (i:=6) nd_9 rfl (Or.inl rfl) (Or.inr rfl))) (fun _ _ _ _ _=>pif_nil) (fun _ _ _ _ _=>(pe_op op_add (pe_fn g_Y40 hr (pa_cons (pv 5) (pa_cons (pe_ix (ix_tupK K rfl) (pv 6) pe_int (fun _ _=>rfl)) pa_nil))) (pe_fn g_Y40 hr (pa_cons (pv 5) (pa_cons (pe_ix (ix_tupK K rfl) (pv 6) pe_int (fun _ _=>rfl)) pa_nil)))))) pa_nil))))))
   (pss_one (ps_ret (pv 3)))))),?_⟩
 obtain⟨pr,pe,qs,h1,h2,h3,h4,h5⟩:=id hM
 have hfew:=ok.few
 refine⟨_,rfl,p,_,_,_,rfl,rfl,SqT.of h1,rfl,?_⟩
 -- of no letters
 refine⟨_,rfl,pr,_,rfl,.inr (SqT.of h2),_,rfl,lo62 _,hi62 (by rw[List.length_map];omega),?_⟩
 rw[Int.toNat_natCast,List.length_map,h3]
 refine comp_range (fun j acc σ' H'=>∃o:Option V,acc=vnats ((List.range j).map (cN M 0))∧H'=H∧σ'=[some (.ref p),some (.int (k:Int)),some (.ref pr),none,none,none,o]) ⟨_,rfl,rfl,rfl⟩ (fun j acc σ' H' hj ⟨_,e,_⟩=>by rw[e,vnats_len,List.length_map,List.length_range];omega) ?_ ?_
 ·rintro j acc σ' H' hj ⟨o,rfl,rfl,rfl⟩
  refine⟨_,rfl,_,rfl,p,_,_,_,rfl,rfl,SqT.of h1,rfl,pe,_,rfl,.inr (SqT.of h5),rfl,flat_nats2 _,_,rfl,?_⟩
  have ein:inV (.int (0+(j:Int))) (vnats M.ends)=decide (j∈M.ends):=by rw[Int.zero_add];exact in_nats j _
  have step:∀x:Nat,cN M 0 j=x→vnats ((List.range j).map (cN M 0))++[V.int (x:Int)]=vnats ((List.range (j+1)).map (cN M 0)):=fun x e=>by
   rw[List.range_succ,List.map_append,vnats_app,←e]
   rfl
  by_cases c:j∈M.ends
  ·refine ite2 (fun _=>⟨_,step 1 (by rw[cN,if_pos c]),rfl,rfl⟩) (fun z=>absurd ?_ z)
   show(if false=true then _ else inV _ _)=true
   rw[if_neg (by decide),ein,decide_eq_true c]
  ·refine ite2 (fun z=>absurd z ?_) (fun _=>⟨_,step 0 (by rw[cN,if_neg c]),rfl,rfl⟩)
   show ¬(if false=true then _ else inV _ _)=true
   rw[if_neg (by decide),ein,decide_eq_false c]
   decide
 rintro acc σ' H' D ⟨o,rfl,rfl,rfl⟩ fD
 have yD:=same_new fD (.lst (vnats ((List.range M.rows.length).map (cN M 0))))
 have wD:(upd H' D (.lst (vnats ((List.range M.rows.length).map (cN M 0))))) D=some (.lst (vnats ((List.range M.rows.length).map (cN M 0)))):=upd_same
 generalize upd H' D (.lst (vnats ((List.range M.rows.length).map (cN M 0))))=G1 at yD wD ⊢
 refine⟨(by show 1≤sizeLine;decide),fun L fL=>?_⟩
 have nL:H' L=none:=by
  cases e:H' L with
  | none=>rfl
  | some o=>have:=yD _ _ e;rw[fL]at this;cases this
 have yL:=same_new fL (.lst [V.ref D])
 have wL:(upd G1 L (.lst [V.ref D])) L=some (.lst ([D].map V.ref)):=upd_same
 generalize upd G1 L (.lst [V.ref D])=G2 at yL wL ⊢
 refine⟨_,rfl,_,rfl,by omega,by omega,?_⟩
 rw[Int.toNat_natCast]
 refine for_range (lo:=0) (n:=k) (fun i σ' H2=>∃(ls:List Addr)(o4 o5:Option V),σ'=[some (.ref p),some (.int (k:Int)),some (.ref pr),some (.ref L),o4,o5]∧Same H' H2∧CntAt H2 L M i ls)
  ⟨[D],_,_,rfl,yD.trans yL,⟨wL,rfl,fun j l e=>?_⟩⟩ ?_ ?_
 ·have hj:j=0:=by
   have:=(List.getElem?_eq_some_iff.mp e).1
   simpa using this
  subst hj
  cases e
  exact yL _ _ wD
 ·rintro i σ1 H2 hi ⟨ls,o4,o5,rfl,s2,cA⟩
  have hls:=cA.len
  obtain⟨l,hl⟩:∃l,ls[i]?=some l:=⟨_,List.getElem?_eq_getElem (by omega)⟩
  have hrow:=cA.row i l hl
  have atl:atI (ls.map V.ref) (0+(i:Int))=some (.ref l):=by rw[Int.zero_add];exact atI_nat (by rw[List.getElem?_map,hl];rfl)
  refine⟨_,rfl,_,rfl,L,_,_,_,rfl,rfl,SqL.of cA.lst,atl,?_⟩
  refine⟨_,rfl,.inl ⟨rfl,_,SqL.of cA.lst⟩,?_⟩
  refine⟨_,rfl,pr,rfl,⟨_,SqT.of (s2 _ _ h2)⟩,comp_tup (xs:=qs.map V.ref) (fun j acc σ' H3=>∃o:Option V,acc=vnats ((List.range j).map (cN M (i+1)))∧H3=H2∧σ'=[some (.ref p),some (.int (k:Int)),some (.ref pr),some (.ref L),some (.int (0+(i:Int))),some (.ref l),o]) ⟨_,rfl,rfl,rfl⟩ (fun j acc σ' H3 hj ⟨_,e,_⟩=>by rw[e,vnats_len,List.length_map,List.length_range];rw[List.length_map]at hj;omega) (fun j acc σ' H3 _ ⟨_,_,e,_⟩=>by rw[e];exact SqT.of (s2 _ _ h2)) ?_ ?_⟩
  ·rintro j x acc σ' H3 hx ⟨o,rfl,rfl,rfl⟩
   obtain⟨q',hq'⟩:∃q',qs[j]?=some q':=by
    rw[List.getElem?_map]at hx
    cases e:qs[j]? with
    | none=>rw[e]at hx;cases hx
    | some r=>exact⟨r,rfl⟩
   rw[List.getElem?_map,hq']at hx
   cases hx
   have hq3:=s2 _ _ (h4 j q' hq')
   have st:∀b t,b≤1→M.stp j b=some t→t<((List.range M.rows.length).map (cN M i)).length:=fun b t _ e=>by rw[List.length_map,List.length_range];exact ok.st j b t e
   have val:∀b,((M.stp j b).elim 0 fun s=>((List.range M.rows.length).map (cN M i)).getD s 0)=(M.stp j b).elim 0 (cN M i):=fun b=>by
    cases e:M.stp j b with
    | none=>rfl
    | some t=>exact cN_get (ok.st j b t e)
   refine⟨_,rfl,_,rfl,q',_,_,_,rfl,rfl,SqT.of hq3,rfl,l,_,M.stp j 0,rfl,hrow,fun t e=>st 0 t (by decide) e,_,rfl,_,rfl,q',_,_,_,rfl,rfl,SqT.of hq3,rfl,l,_,M.stp j 1,rfl,hrow,fun t e=>st 1 t (by decide) e,_,_,rfl,rfl,_,?_,rfl,rfl⟩
   rw[List.range_succ,List.map_append,vnats_app,val 0,val 1]
   show _=_++[V.int ((cN M (i+1) j:Nat):Int)]
   rw[cN,Int.natCast_add]
  rintro acc σ' H3 D2 ⟨o,rfl,rfl,rfl⟩ fD2
  rw[List.length_map,h3]
  have y3:=same_new fD2 (.lst (vnats ((List.range M.rows.length).map (cN M (i+1)))))
  have w3:(upd H3 D2 (.lst (vnats ((List.range M.rows.length).map (cN M (i+1)))))) D2=some (.lst (vnats ((List.range M.rows.length).map (cN M (i+1))))):=upd_same
  generalize upd H3 D2 (.lst (vnats ((List.range M.rows.length).map (cN M (i+1)))))=G3 at y3 w3 ⊢
  have hL3:=y3 _ _ cA.lst
  have nD:D2≠L:=fun z=>by rw[z,cA.lst]at fD2;cases fD2
  refine⟨L,_,_,rfl,rfl,hL3,smallL (by rw[List.length_map,hls];omega),?_⟩
  refine⟨ls++[D2],_,_,rfl,fun b o e=>?_,⟨by rw[upd_same,List.map_append];rfl,by rw[List.length_append,hls];rfl,fun j l' e=>?_⟩⟩
  ·rw[upd_ne (ne_of_none e nL)]
   exact y3 _ _ (s2 _ _ e)
  ·by_cases c:j<ls.length
   ·rw[List.getElem?_append_left c]at e
    have h':=cA.row j l' e
    have ne':l'≠L:=fun z=>by
     rw[z,cA.lst]at h'
     injection h' with h'
     injection h' with h'
     have e0:(ls.map V.ref)[0]?=(vnats ((List.range M.rows.length).map (cN M j)))[0]?:=by rw[h']
     rw[List.getElem?_map,vnats_at (by rw[List.length_map,List.length_range];exact ok.pos)]at e0
     cases e1:ls[0]? with
     | none=>rw[e1]at e0;cases e0
     | some r=>rw[e1]at e0;cases e0
    rw[upd_ne ne']
    exact y3 _ _ h'
   ·have hj:j=i+1:=by
     have:=(List.getElem?_eq_some_iff.mp e).1
     rw[List.length_append,hls]at this
     have:j<i+1+1:=this
     omega
    subst hj
    rw[List.getElem?_append_right (by omega),hls,Nat.sub_self]at e
    cases e
    rw[upd_ne nD]
    exact w3
 ·rintro σ1 H2 ⟨ls,o4,o5,rfl,s2,cA⟩
  exact⟨_,rfl,q L ls H2 nL s2 cA⟩
theorem ok_Y25 (F_Y25:Fun K "count_words" "count_words" s_Y25 f fd)(g_Y2:Fn P w K mg base "counts_by_length" p_Y2 2 spCBL):FnOk P w K mg base CX0 3 f fd p_Y25 spCW:=by
 refine F_Y25.ok sc_Y25 (fun vs H Q E h=>?_) (fun cdv A outer s H vs Q E hr h=>?_)
 ·obtain⟨p,M,k,rfl,_⟩:=h
  rfl
 obtain⟨p,M,k,rfl,hM,ok,hk,q⟩:=h
 refine⟨_,(pss_one (ps_ret (pe_ifExp (pt_cmpR op_ge (pv 1) pe_int (nomark _)) (pe_ix ix_list (pe_ix ix_list (pe_fn g_Y2 hr (pa_cons (pv 0) (pa_cons (pv 1) pa_nil))) (pv 1) (fun _ _=>rfl)) pe_int (fun _ _=>rfl)) pe_int))),?_⟩
 refine⟨_,rfl,_,_,rfl,rfl,_,rfl,ite2 (fun _=>?_) (fun c=>absurd (decide_eq_true (by omega:(k:Int)≥0)) c)⟩
 refine⟨_,rfl,_,rfl,p,M,k,rfl,hM,ok,hk,fun L ls H1 nL s1 cA=>?_⟩
 obtain⟨l,hl⟩:∃l,ls[k]?=some l:=⟨_,List.getElem?_eq_getElem (by rw[cA.len];omega)⟩
 have hrow:=cA.row k l hl
 refine⟨_,rfl,L,_,_,_,rfl,rfl,SqL.of cA.lst,atI_nat (v:=.ref l) (by rw[List.getElem?_map,hl];rfl),l,_,_,_,rfl,rfl,SqL.of hrow,atI_nat (j:=0) (vnats_at (by rw[List.length_map,List.length_range];exact ok.pos)),?_⟩
 rw[cN_get ok.pos]
 exact q H1 s1
end
noncomputable def rn (M:Mac):Option Nat→List Nat→Option Nat
 | o,[]=>o
 | o,b::w=>rn M (o.bind fun s=>M.stp s b) w
noncomputable def tk (M:Mac)(w:List Nat):Bool:=(rn M (some 0) w).any fun s=>decide (s∈M.ends)
theorem rn_snoc (M:Mac):∀(w:List Nat)(o:Option Nat)(b:Nat),rn M o (w++[b])=(rn M o w).bind fun s=>M.stp s b
 | [],_,_=>rfl
 | _::w,_,b=>rn_snoc M w _ b
theorem rn_lt {M:Mac}(ok:MacOk M):∀(w:List Nat)(o:Option Nat),(∀s,o=some s→s<M.rows.length)→∀s,rn M o w=some s→s<M.rows.length
 | [],_,h=>h
 | b::w,o,h=>rn_lt ok w _ fun s e=>by
  cases o with
  | none=>cases e
  | some t=>exact ok.st t b s e
theorem wst_ascii {w:List Nat}(h:∀x∈w,x≤1):asciiS (wst w):=by
 unfold asciiS wst
 rw[Array.all_eq_true_iff_forall_mem]
 intro c hc
 have hc':c∈w.map (97 + ·):=by simpa using hc
 obtain⟨x,hx,rfl⟩:=List.mem_map.mp hc'
 have:=h x hx
 exact decide_eq_true (by omega)
theorem wst_at {w:List Nat}{i c:Nat}(h:(wst w).cps[i]?=some c):∃b,w[i]?=some b∧c=97+b:=by
 have h':(w.map (97 + ·))[i]?=some c:=by
  have e:(wst w).cps=(w.map (97 + ·)).toArray:=rfl
  rw[e,List.getElem?_toArray]at h
  exact h
 rw[List.getElem?_map]at h'
 cases e:w[i]? with
 | none=>rw[e]at h';cases h'
 | some b=>rw[e]at h';cases h';exact⟨b,rfl,rfl⟩
theorem wst_size (w:List Nat):(wst w).cps.size=w.length:=wst_len w
def spTk:Sp:=fun vs H Q _=>∃(p:Addr)(M:Mac)(w:List Nat),vs=[.ref p,.str (wst w)]∧MacAt H p M∧MacOk M∧(∀x∈w,x≤1)∧Q (.bl (tk M w)) H
theorem tk_val {M:Mac}{w:List Nat}:inV (vop (rn M (some 0) w)) (vnats M.ends)=tk M w:=by
 unfold tk
 cases rn M (some 0) w with
 | none =>
  show inV .non (vnats M.ends)=false
  unfold inV vnats
  rw[List.any_map,List.any_eq_false]
  intro y _ z
  cases z
 | some s=>exact in_nats s _
theorem flat_vop (o:Option Nat):flatV (vop o)=true:=by cases o<;>rfl
section
variable {P:Program}{w:World}{K:PySem.W.Frag}{mg:Str→Option Value}{base:Heap}{f:Addr}{fd:FuncData}{CP:Addr}{mP:List Value}
theorem ok_Y54 (F_Y54:Fun K "is_taken" "is_taken" s_Y54 f fd)(g_Y69:Fn P w K mg base "led_to" p_Y69 1 spLed):FnOk P w K mg base CX0 2 f fd p_Y54 spTk:=by
 refine F_Y54.ok sc_Y54 (fun vs H Q E h=>?_) (fun cdv A outer s H vs Q E hr h=>?_)
 ·obtain⟨p,M,u,rfl,_⟩:=h
  rfl
 obtain⟨p,M,u,rfl,hM,ok,hb,q⟩:=h
 refine⟨_,(pss_cons (ps_set (i:=2) sc_Y54.nd rfl (Or.inl rfl) pe_int)
   (pss_cons (ps_for PassesOwn.never rfl (pi_str (pv 1)) (pg_name (i:=3) sc_Y54.nd rfl (Or.inl rfl)) (pss_one (ps_set (i:=2) sc_Y54.nd rfl (Or.inl rfl) (pe_fn g_Y69 hr (pa_cons (pv 0) (pa_cons (pv 2) (pa_cons (pv 3) pa_nil)))))))
   (pss_one (ps_ret (pe_cmpR (op_inK K rfl) (pv 2) (pe_ix (ix_tupK K rfl) (pv 0) pe_int (fun _ _=>rfl)) rfl))))),?_⟩
 obtain⟨pr,pe,qs,h1,h2,h3,h4,h5⟩:=id hM
 have s0:∀s,some 0=some s→s<M.rows.length:=fun s e=>by cases e;exact ok.pos
 refine⟨_,rfl,_,rfl,wst_ascii hb,for_str (x:=wst u) (fun i σ' H'=>∃o3:Option V,σ'=[some (.ref p),some (.str (wst u)),some (vop (rn M (some 0) (u.take i))),o3]∧H'=H) ⟨_,rfl,rfl⟩ ?_ ?_⟩
 ·rintro i c σ' H' hc ⟨o3,rfl,rfl⟩
  obtain⟨b,hw,rfl⟩:=wst_at hc
  refine⟨_,rfl,_,rfl,_,rfl,p,M,rn M (some 0) (u.take i),b,rfl,hb b (List.mem_of_getElem? hw),hM,rn_lt ok _ _ s0,some (.str ⟨#[97+b]⟩),?_,rfl⟩
  rw[take_snoc hw,rn_snoc]
  rfl
 ·rintro σ' H' ⟨o3,rfl,rfl⟩
  rw[wst_size,List.take_length]
  refine⟨_,rfl,_,rfl,p,_,_,_,rfl,rfl,SqT.of h1,rfl,pe,_,rfl,.inr (SqT.of h5),flat_vop _,flat_nats2 _,?_⟩
  rw[if_neg (by decide),tk_val]
  exact q
end
def spWordN (C CN CS:Addr):Sp:=fun vs H Q E=>∃(b dx r p:Addr)(bl:List Nat)(z k:Nat)(M:Mac),vs=[.ref b,.ref p,.int (k:Int)]∧At C H b dx r bl z∧MacAt H p M∧MacOk M∧k≤100 ∧
 ((cN M k 0=0∧∀H',Same H H'→E (.ref CS) none H')∨(cN M k 0=8∧bl.drop z=[1,1]∧∀H',Grow b H H'→At C H' b dx r bl z→E (.ref CN) none H'))
def spWAtN (CP:Addr):Sp:=fun vs H Q E=>∃(p:Addr)(k:Nat)(x:Int)(M:Mac),vs=[.ref p,.int (k:Int),.int x]∧MacAt H p M∧MacOk M∧k≤100∧(x<0∨(cN M k 0:Int)≤x)∧∀H',Same H H'→E (.ref CP) none H'
def spPWN (CP:Addr):Sp:=fun vs H Q E=>∃(p:Addr)(u:List Nat)(M:Mac),vs=[.ref p,.str (wst u)]∧MacAt H p M∧MacOk M∧(∀x∈u,x≤1)∧tk M u=false∧E (.ref CP) none H
section
variable {P:Program}{w:World}{K:PySem.W.Frag}{mg:Str→Option Value}{base:Heap}{f C CN CS CP fE fC fO:Addr}{fd dE dC dO:FuncData}{mS mP:List Value}
theorem ok_Y78 (F_Y78:Fun K "word" "word" s_Y78 f fd)(X_E2:Exc K mg "NoShares" CS mS)(g_Y25:Fn P w K mg base "count_words" p_Y25 3 spCW)(g_Y62:FnX P w K mg base "word_at" fO dO p_Y62 0 spNo)(g_Y77:FnX P w K mg base "even" fE dE p_Y77 6 (spDone C CN ShN evV)):FnOk P w K mg base (CXR P w) 7 f fd p_Y78 (spWordN C CN CS):=by
 refine F_Y78.okX sc_Y78 (fun vs H Q E h=>?_) (fun cdv A outer s H vs Q E hr h=>?_)
 ·obtain⟨b,dx,r,p,bl,z,k,M,rfl,_⟩:=h
  rfl
 obtain⟨b,dx,r,p,bl,z,k,M,rfl,hA,hM,ok,hk,h⟩:=h
 refine⟨_,(pss_cons (ps_set (i:=3) sc_Y78.nd rfl (Or.inl rfl) (pe_fn g_Y25 hr (pa_cons (pv 1) (pa_cons (pv 2) pa_nil))))
   (pss_cons (ps_if (pt_cmpR op_eq (pv 3) pe_int (nomark _)) (pss_one (ps_raise X_E2 (pa_cons pe_str pa_nil))) pss_nil)
   (pss_one (ps_ret (pe_fnX g_Y62 hr (pa_cons (pv 1) (pa_cons (pv 2) (pa_cons (pe_fnX g_Y77 hr (pa_cons (pv 0) (pa_cons (pv 3) pa_nil))) pa_nil)))))))),?_⟩
 refine⟨_,rfl,_,rfl,p,M,k,rfl,hM,ok,hk,fun H1 s1=>?_⟩
 rcases h with ⟨h0,e⟩|⟨h8,h11,e⟩
 ·rw[h0]
  exact⟨_,rfl,rfl,_,rfl,iteT ⟨(by show 1≤sizeLine;decide),e H1 s1⟩⟩
 ·rw[h8]
  refine⟨_,rfl,rfl,_,rfl,iteF ?_⟩
  exact⟨_,rfl,_,rfl,_,rfl,_,rfl,ev_no (m:=8) (hA.same s1) h11 (by decide) (by decide) fun H' g a=>e H' ((Grow.same s1).trans g) a⟩
theorem ok_Y62 (F_Y62:Fun K "word_at" "word_at" s_Y62 f fd)(g_Y26:FnX P w K mg base "check_place" fC dC p_Y26 1 (spCheck CP))(g_Y25:Fn P w K mg base "count_words" p_Y25 3 spCW):FnOk P w K mg base (CXR P w) 4 f fd p_Y62 (spWAtN CP):=by
 refine F_Y62.okX sc_Y62 (fun vs H Q E h=>?_) (fun cdv A outer s H vs Q E hr h=>?_)
 ·obtain⟨p,k,x,M,rfl,_⟩:=h
  rfl
 obtain⟨p,k,x,M,rfl,hM,ok,hk,hx,e⟩:=h
 refine⟨_,(pss_cons (ps_expr (pe_fnX g_Y26 hr (pa_cons (pv 2) (pa_cons (pe_fn g_Y25 hr (pa_cons (pv 0) (pa_cons (pv 1) pa_nil))) pa_nil))))
   pss_never),?_⟩
 exact⟨_,rfl,_,rfl,_,rfl,p,M,k,rfl,hM,ok,hk,fun H1 s1=>⟨_,_,rfl,fun hy=>absurd hy (by omega),fun _=>e H1 s1⟩⟩
theorem ok_Y11 (F_Y11:Fun K "place_of_word" "place_of_word" s_Y11 f fd)(X_E3:Exc K mg "NoPlace" CP mP)(g_Y54:Fn P w K mg base "is_taken" p_Y54 2 spTk):FnOk P w K mg base (CXR P w) 3 f fd p_Y11 (spPWN CP):=by
 refine F_Y11.okX sc_Y11 (fun vs H Q E h=>?_) (fun cdv A outer s H vs Q E hr h=>?_)
 ·obtain⟨p,u,M,rfl,_⟩:=h
  rfl
 obtain⟨p,u,M,rfl,hM,ok,hb,ht,e⟩:=h
 refine⟨_,(pss_cons (ps_if (pt_not (pt_truth (pe_fn g_Y54 hr (pa_cons (pv 0) (pa_cons (pv 1) pa_nil))) (fun _=>rfl))) (pss_one (ps_raise X_E3 (pa_cons pe_str pa_nil))) pss_nil)
   pss_never),?_⟩
 refine⟨_,rfl,_,rfl,p,M,u,rfl,hM,ok,hb,tk M u,rfl,?_⟩
 rw[ht]
 exact iteT ⟨(by show 1≤sizeLine;decide),e⟩
end
inductive Pn where
 | num (n:Nat)
 | again
 | ask (l r:Pn)
noncomputable def Pn.has:Pn→Bool
 |.num _=>true
 |.again=>false
 |.ask l r=>l.has||r.has
noncomputable def Pn.dp:Pn→Nat
 |.num _=>0
 |.again=>0
 |.ask l r=>max l.dp r.dp+1
noncomputable def ends:Pn→Nat→List (Option Nat×Nat)
 |.num n,d=>[(some n,d)]
 |.again,d=>[(none,d)]
 |.ask l r,d=>ends l (d+1)++ends r (d+1)
noncomputable def stl (root:Pn):Pn→Pn
 |.again=>root
 | c=>c
noncomputable def wk (root:Pn):Pn→List Nat→Option (Nat×Nat)
 | cur,[]=>match stl root cur with
  |.num n=>some (n,0)
  | _=>none
 | cur,b::bs=>match stl root cur with
  |.num n=>some (n,0)
  |.again=>none
  |.ask l r=>(wk root (if b=0 then l else r) bs).map fun x=>(x.1,x.2+1)
theorem has_ends:∀(p:Pn)(d:Nat),(ends p d).any (fun e=>e.1.isSome)=p.has
 |.num _,_=>rfl
 |.again,_=>rfl
 |.ask l r,d=>by rw[ends,List.any_append,has_ends l,has_ends r,Pn.has]
theorem ends_deep:∀(p:Pn)(d:Nat),∀e∈ends p d,d≤e.2∧e.2≤d+p.dp
 |.num m,d,e,h=>by
  have:e=(some m,d):=by simpa[ends]using h
  rw[this];exact⟨Nat.le_refl _,Nat.le_add_right _ _⟩
 |.again,d,e,h=>by
  have:e=(none,d):=by simpa[ends]using h
  rw[this];exact⟨Nat.le_refl _,Nat.le_add_right _ _⟩
 |.ask l r,d,e,h=>by
  rw[Pn.dp]
  rcases List.mem_append.mp h with h|h
  ·have:=ends_deep l (d+1) e h
   omega
  ·have:=ends_deep r (d+1) e h
   omega
theorem ends_len:∀(p:Pn)(d:Nat),(ends p d).length≤2 ^ p.dp
 |.num _,_=>Nat.le_refl _
 |.again,_=>Nat.le_refl _
 |.ask l r,d=>by
  rw[ends,List.length_append,Pn.dp,Nat.pow_succ]
  have h1:=ends_len l (d+1)
  have h2:=ends_len r (d+1)
  have h3:2 ^ l.dp≤2 ^ max l.dp r.dp:=Nat.pow_le_pow_right (by decide) (Nat.le_max_left _ _)
  have h4:2 ^ r.dp≤2 ^ max l.dp r.dp:=Nat.pow_le_pow_right (by decide) (Nat.le_max_right _ _)
  omega
theorem has_root {p:Pn}(h:p.has=true):p≠.again:=fun e=>by rw[e]at h;cases h
noncomputable def PnAt (H:Hp):Pn→V→Prop
 |.num n,v=>∃p,v=.ref p∧H p=some (.tup [.str "is",.int (n:Int)])
 |.again,v=>∃p,v=.ref p∧H p=some (.tup [.str "again"])
 |.ask l r,v=>∃p y z,v=.ref p∧H p=some (.tup [.str "ask",y,z])∧PnAt H l y∧PnAt H r z
theorem PnAt.keep {H H':Hp}(k:∀c xs,H c=some (.tup xs)→H' c=some (.tup xs)):∀{p:Pn}{v:V},PnAt H p v→PnAt H' p v
 |.num _,_,⟨p,e,h⟩=>⟨p,e,k _ _ h⟩
 |.again,_,⟨p,e,h⟩=>⟨p,e,k _ _ h⟩
 |.ask _ _,_,⟨p,y,z,e,h,h1,h2⟩=>⟨p,y,z,e,k _ _ h,h1.keep k,h2.keep k⟩
theorem PnAt.same {H H':Hp}{p:Pn}{v:V}(h:PnAt H p v)(s:Same H H'):PnAt H' p v:=h.keep fun _ _ e=>s _ _ e
theorem PnAt.growB {C:Addr}{H H':Hp}{b dx r:Addr}{bl:List Nat}{z:Nat}{p:Pn}{v:V}(h:PnAt H p v)(a:At C H b dx r bl z)(g:Grow b H H'):PnAt H' p v:=h.keep fun c _ e=>g _ _ (fun y=>by rw[y,a.obj]at e;cases e) e
noncomputable def ag:Pn→Nat
 |.again=>1
 | _=>0
theorem ag_le (p:Pn):ag p≤1:=by cases p<;>first|exact Nat.le_refl _|exact Nat.zero_le _
def LeafV (H:Hp)(o:Option Nat)(v:V):Prop:=PnAt H (o.elim .again .num) v
def EndsL (H:Hp)(as:List Addr)(es:List (Option Nat×Nat)):Prop:=as.length=es.length∧∀(j:Nat)(a:Addr)(e:Option Nat×Nat),as[j]?=some a→es[j]?=some e→∃v,H a=some (.tup [.int (e.2:Int),v])∧LeafV H e.1 v
theorem EndsL.same {H H':Hp}{as:List Addr}{es:List (Option Nat×Nat)}(h:EndsL H as es)(s:Same H H'):EndsL H' as es:=⟨h.1,fun j a e e1 e2=>by
 obtain⟨v,h1,h2⟩:=h.2 j a e e1 e2
 exact⟨v,s _ _ h1,PnAt.same h2 s⟩⟩
theorem EndsL.app {H:Hp}{as bs:List Addr}{es fs:List (Option Nat×Nat)}(h:EndsL H as es)(g:EndsL H bs fs):EndsL H (as++bs) (es++fs):=by
 refine⟨by rw[List.length_append,List.length_append,h.1,g.1],fun j a e e1 e2=>?_⟩
 by_cases c:j<as.length
 ·rw[List.getElem?_append_left c]at e1
  rw[List.getElem?_append_left (by rw[←h.1];exact c)]at e2
  exact h.2 j a e e1 e2
 ·rw[List.getElem?_append_right (by omega)]at e1
  rw[List.getElem?_append_right (by rw[←h.1];omega),←h.1]at e2
  exact g.2 _ a e e1 e2
def spEnds (n:Nat):Sp:=fun vs H Q _=>∃(v:V)(pl:Pn)(d:Nat),vs=[v,.int (d:Int)]∧PnAt H pl v∧pl.dp≤n∧n≤12∧∀l as H',H l=none→Same H H'→H' l=some (.lst (as.map V.ref))→EndsL H' as (ends pl d)→Q (.ref l) H'
theorem op_neTAK {X:Cx}(K:PySem.W.Frag)(hK:X.K=K)(hu:X.A.units+64<cLine):OpR X (compareOp .NotEq) (rEqTA K true):=by
 subst hK
 exact op_neTA hu
def spNE (CS:Addr):Sp:=fun vs H Q E=>∃(v:V)(pl:Pn),vs=[v]∧PnAt H pl v∧pl.dp≤12∧(pl.has=true→∀x H',Same H H'→Q x H')∧(pl.has=false→∀H',Same H H'→E (.ref CS) none H')
def ShP (H:Hp)(x:V)(pl:Pn):Prop:=PnAt H pl x∧pl.has=true
def spRawP (C CN:Addr)(F:Pn→List Nat→Option (V×Nat)):Sp:=fun vs H Q E=>∃(b dx r:Addr)(bl:List Nat)(z:Nat)(x:V)(pl:Pn),vs=[.ref b,x]∧At C H b dx r bl z∧(∀y∈bl,y≤1)∧ShP H x pl ∧
 (∀v u H',F pl (bl.drop z)=some (v,u)→Grow b H H'→At C H' b dx r bl (z+u)→Q v H') ∧
 (∀z' H',F pl (bl.drop z)=none→z≤z'→Grow b H H'→At C H' b dx r bl z'→E (.ref CN) none H')
def spByP (C CN CS:Addr)(F:Pn→List Nat→Option (V×Nat)):Sp:=fun vs H Q E=>∃(b dx r:Addr)(bl:List Nat)(z:Nat)(x:V)(pl:Pn),vs=[.ref b,x]∧At C H b dx r bl z∧(∀y∈bl,y≤1)∧PnAt H pl x∧pl.dp≤12 ∧
 (∀v u H',pl.has=true→F pl (bl.drop z)=some (v,u)→Grow b H H'→At C H' b dx r bl (z+u)→Q v H') ∧
 (∀H',pl.has=true→F pl (bl.drop z)=none→Grow b H H'→At C H' b dx r bl z→E (.ref CN) none H') ∧
 (∀H',pl.has=false→Same H H'→E (.ref CS) none H')
noncomputable def wkV (pl:Pn)(bs:List Nat):Option (V×Nat):=(wk pl pl bs).map fun x=>(V.int (x.1:Int),x.2)
section
variable {P:Program}{w:World}{K:PySem.W.Frag}{mg:Str→Option Value}{base:Heap}{f C fI fT fU fL fG CN CS:Addr}{fd dI dT dU dL dG:FuncData}{mN mS:List Value}
theorem ok_Y66 {lv n:Nat}{spG:Sp}(F_Y66:Fun K "ends_of" "ends_of" s_Y66 f fd)(g_Y66:Fn P w K mg base "ends_of" p_Y66 lv spG)(hg:∀m vs H Q E,n=m+1→spEnds m vs H Q E→spG vs H Q E):FnOk P w K mg base CX0 (lv+1) f fd p_Y66 (spEnds n):=by
 refine F_Y66.ok sc_Y66 (fun vs H Q E h=>?_) (fun cdv A outer s H vs Q E hr h=>?_)
 ·obtain⟨v,pl,d,rfl,_⟩:=h
  rfl
 obtain⟨v,pl,d,rfl,hP,hd,hn,q⟩:=h
 refine⟨_,(pss_cons (ps_if (pt_cmpR op_eq (pe_ix ix_tup (pv 0) pe_int (fun _ _=>rfl)) pe_str (nomark _)) (pss_one (ps_ret (pe_op op_cat (pe_fn g_Y66 hr (pa_cons (pe_ix ix_tup (pv 0) pe_int (fun _ _=>rfl)) (pa_cons (pe_op op_add (pv 1) pe_int) pa_nil))) (pe_fn g_Y66 hr (pa_cons (pe_ix ix_tup (pv 0) pe_int (fun _ _=>rfl)) (pa_cons (pe_op op_add (pv 1) pe_int) pa_nil)))))) pss_nil)
   (pss_one (ps_ret (pe_lst (pa_cons (pe_tup (pa_cons (pv 1) (pa_cons (pv 0) pa_nil))) pa_nil))))),?_⟩
 have leaf:∀(o:Option Nat),ends (o.elim .again .num) d=[(o,d)]:=fun o=>by cases o<;>rfl
 have last:∀(o:Option Nat)(v:V)(p l:Addr),LeafV H o v→pl=o.elim .again .num→H p=none→(upd H p (.tup [V.int (d:Int),v])) l=none→Q (.ref l) (upd (upd H p (.tup [V.int (d:Int),v])) l (.lst [V.ref p])):=fun o v p l hv e fp fl=>by
  have y1:=same_new fp (.tup [V.int (d:Int),v])
  have y2:=same_new fl (.lst [V.ref p])
  have nl:H l=none:=by
   cases e:H l with
   | none=>rfl
   | some o=>have:=y1 _ _ e;rw[fl]at this;cases this
  refine q l [p] _ nl (y1.trans y2) upd_same ?_
  rw[e,leaf o]
  refine⟨rfl,fun j a e' h1 h2=>?_⟩
  have hj:j=0:=by
   have:=(List.getElem?_eq_some_iff.mp h1).1
   simpa using this
  subst hj
  cases h1
  cases h2
  exact⟨v,y2 _ _ upd_same,PnAt.same hv (y1.trans y2)⟩
 cases pl with
 | num m =>
  obtain⟨p,rfl,h⟩:=id hP
  refine⟨_,rfl,p,_,_,_,rfl,rfl,SqT.of h,rfl,rfl,_,rfl,ite2 (fun c=>absurd (of_decide_eq_true c) (by decide +kernel)) (fun _=>?_)⟩
  exact⟨_,rfl,_,rfl,(by show 2≤sizeLine;decide),fun p' fp=>⟨(by show 1≤sizeLine;decide),fun l fl=>last (some m) _ p' l hP rfl fp fl⟩⟩
 | again =>
  obtain⟨p,rfl,h⟩:=id hP
  refine⟨_,rfl,p,_,_,_,rfl,rfl,SqT.of h,rfl,rfl,_,rfl,ite2 (fun c=>absurd (of_decide_eq_true c) (by decide +kernel)) (fun _=>?_)⟩
  exact⟨_,rfl,_,rfl,(by show 2≤sizeLine;decide),fun p' fp=>⟨(by show 1≤sizeLine;decide),fun l fl=>last none _ p' l hP rfl fp fl⟩⟩
 | ask pl1 pl2 =>
  clear last leaf
  obtain⟨p,y,z,rfl,h,h1,h2⟩:=id hP
  have hd':max pl1.dp pl2.dp+1≤n:=hd
  obtain⟨m,rfl⟩:∃m,n=m+1:=⟨n-1,by omega⟩
  refine⟨_,rfl,p,_,_,_,rfl,rfl,SqT.of h,rfl,rfl,_,rfl,ite2 (fun _=>?_) (fun c=>absurd (by decide +kernel) c)⟩
  refine⟨_,rfl,p,_,_,_,rfl,rfl,SqT.of h,rfl,_,rfl,_,_,rfl,rfl,hg m _ _ _ _ rfl ⟨y,pl1,d+1,rfl,h1,by omega,by omega,fun l1 as1 H1 n1 s1 w1 e1=>?_⟩⟩
  refine⟨_,rfl,p,_,_,_,rfl,rfl,SqT.of (s1 _ _ h),rfl,_,rfl,_,_,rfl,rfl,hg m _ _ _ _ rfl ⟨z,pl2,d+1,rfl,h2.same s1,by omega,by omega,fun l2 as2 H2 n2 s2 w2 e2=>?_⟩⟩
  have e1':=e1.same s2
  have b1:=ends_len pl1 (d+1)
  have b2:=ends_len pl2 (d+1)
  have c1:2 ^ pl1.dp≤4096:=Nat.le_trans (Nat.pow_le_pow_right (n:=2) (by decide) (show pl1.dp≤12 by omega)) (by decide)
  have c2:2 ^ pl2.dp≤4096:=Nat.le_trans (Nat.pow_le_pow_right (n:=2) (by decide) (show pl2.dp≤12 by omega)) (by decide)
  refine⟨l1,l2,_,_,rfl,rfl,s2 _ _ w1,w2,small (by rw[List.length_map,List.length_map,e1.1,e2.1];omega),fun l3 f3=>?_⟩
  have y3:=same_new f3 (.lst (as1.map V.ref++as2.map V.ref))
  have n3:H l3=none:=by
   cases e:H l3 with
   | none=>rfl
   | some o=>have:=s2 _ _ (s1 _ _ e);rw[f3]at this;cases this
  refine q l3 (as1++as2) _ n3 ((s1.trans s2).trans y3) (by rw[upd_same,List.map_append]) ((e1'.app e2).same y3)
theorem ends_all (F:Fun K "ends_of" "ends_of" s_Y66 f fd)(mo:∀{k:Nat}{sp:Sp},FnOk P w K mg base CX0 k f fd p_Y66 sp→Fn P w K mg base "ends_of" p_Y66 k sp):∀n:Nat,FnOk P w K mg base CX0 (n+1) f fd p_Y66 (spEnds n)
 | 0=>ok_Y66 (lv:=0) (n:=0) F (mo (ok__law_same0 (sp:=fun _ _ _ _=>False) (fun _ _ _ _ h=>h))) (fun m vs H Q E e=>by cases e)
 | n+1=>ok_Y66 (lv:=n+1) (n:=n+1) F (mo (ends_all F mo n)) (fun m vs H Q E e h=>by cases e;exact h)
theorem ok_Y12 (F_Y12:Fun K "numbered_ends" "numbered_ends" s_Y12 f fd)(B:Bl mg)(C':Cn K mg)(X_E2:Exc K mg "NoShares" CS mS)(g_Y66:Fn P w K mg base "ends_of" p_Y66 13 (spEnds 12)):FnOk P w K mg base (CXR P w) 14 f fd p_Y12 (spNE CS):=by
 refine F_Y12.okX sc_Y12 (fun vs H Q E h=>?_) (fun cdv A outer s H vs Q E hr h=>?_)
 ·obtain⟨v,pl,rfl,_⟩:=h
  rfl
 obtain⟨v,pl,rfl,hP,hd,q,e⟩:=h
 obtain⟨A_AGAIN,C_AGAIN,hAg⟩:=C'.AGAIN
 refine⟨_,(pss_cons (ps_comp 1 [] ["plan","ends","depth","end"] 2 rfl sc_Y12.nd rfl rfl (pi_list (pe_fn g_Y66 hr (pa_cons (pv 0) (pa_cons pe_int pa_nil)))) (fun _ _ _ _ _=>(pg_tupK K 2 rfl (pgs_cons (pg_name (i:=2) nd_10 rfl (Or.inl rfl) (Or.inr rfl)) (pgs_cons (pg_name (i:=3) nd_10 rfl (Or.inl rfl) (Or.inr rfl)) pgs_nil)) rfl rfl rfl)) (fun _ _ _ _ _=>(pif_one (pt_cmpR (op_neTAK K rfl hr.units) (pv 3) (pe_glob (v:=.ref A_AGAIN) rfl C_AGAIN rfl) (nomark _)))) (fun _ _ _ _ _=>(pe_tup (pa_cons (pv 2) (pa_cons (pe_ix (ix_tupK K rfl) (pv 3) pe_int (fun _ _=>rfl)) pa_nil)))))
   (pss_cons (ps_if (pt_cmpR op_eq (pe_callB call_len_seq rfl B.len_ L3.bt_len (pa_cons (pv 1) pa_nil)) pe_int (nomark _)) (pss_one (ps_raise X_E2 (pa_cons pe_str pa_nil))) pss_nil)
   (pss_one (ps_ret (pv 1))))),?_⟩
 refine⟨_,rfl,v,pl,0,rfl,hP,hd,by decide,fun l as H1 nl s1 w1 e1=>?_⟩
 have b1:=ends_len pl 0
 have c1:2 ^ pl.dp≤4096:=Nat.le_trans (Nat.pow_le_pow_right (n:=2) (by decide) hd) (by decide)
 refine⟨l,rfl,⟨_,SqL.of w1⟩,comp_list (xs:=as.map V.ref) (fun j acc σ' H'=>∃(bs:List Addr)(o2 o3:Option V),acc=bs.map V.ref∧bs.length≤j∧decide (0<bs.length)=((ends pl 0).take j).any (fun e=>e.1.isSome)∧Same H1 H'∧σ'=[some v,none,o2,o3]) ⟨[],_,_,rfl,Nat.le_refl _,rfl,Same.refl _,rfl⟩
  (fun j acc σ' H' hj ⟨bs,_,_,e',hb,_⟩=>by
   rw[e',List.length_map]
   rw[List.length_map,e1.1]at hj
   omega) (fun j acc σ' H' _ ⟨_,_,_,_,_,_,y,_⟩=>SqL.of (y _ _ w1)) ?_ ?_⟩
 ·rintro j x acc σ' H' hx ⟨bs,o2,o3,rfl,hb,hany,y,rfl⟩
  obtain⟨a,hja⟩:∃a,as[j]?=some a:=by
   rw[List.getElem?_map]at hx
   cases e:as[j]? with
   | none=>rw[e]at hx;cases hx
   | some r=>exact⟨r,rfl⟩
  rw[List.getElem?_map,hja]at hx
  cases hx
  have hj:j<(ends pl 0).length:=by rw[←e1.1];exact(List.getElem?_eq_some_iff.mp hja).1
  obtain⟨en,hen⟩:∃en,(ends pl 0)[j]?=some en:=⟨_,List.getElem?_eq_getElem hj⟩
  obtain⟨lv,ha,hleaf⟩:=e1.2 j a en hja hen
  have ha':=y _ _ ha
  have hany':((ends pl 0).take (j+1)).any (fun e=>e.1.isSome)=(((ends pl 0).take j).any (fun e=>e.1.isSome)||en.1.isSome):=by
   rw[List.take_succ,hen,List.any_append]
   congr 1
   show(en.1.isSome||false)=_
   rw[Bool.or_false]
  refine⟨a,_,rfl,SqT.of ha',rfl,_,_,rfl,_,_,rfl,rfl,?_⟩
  unfold LeafV at hleaf
  cases eo:en.1 with
  | none =>
   rw[eo]at hleaf hany'
   obtain⟨p,rfl,hp⟩:=hleaf
   refine⟨_,rfl,p,A_AGAIN,_,_,_,rfl,rfl,SqT.of (y _ _ hp),hAg _,_,rfl,ite2 (fun c=>absurd c (by decide +kernel)) (fun _=>⟨bs,_,_,rfl,by omega,?_,y,rfl⟩)⟩
   rw[hany',←hany]
   show _=(_||false)
   rw[Bool.or_false]
  | some n =>
   rw[eo]at hleaf hany'
   obtain⟨p,rfl,hp⟩:=hleaf
   refine⟨_,rfl,p,A_AGAIN,_,_,_,rfl,rfl,SqT.of (y _ _ hp),hAg _,_,rfl,ite2 (fun _=>?_) (fun c=>absurd (by show(!(decide (("is" : Str) = "again")&&false))=true;rw[Bool.and_false];rfl) c)⟩
   refine⟨_,rfl,_,rfl,p,_,_,_,rfl,rfl,SqT.of (y _ _ hp),rfl,(by show 2≤sizeLine;decide),fun p2 fp2=>?_⟩
   refine⟨bs++[p2],_,_,by rw[List.map_append];rfl,by rw[List.length_append];show bs.length+1≤_;omega,?_,y.trans (same_new fp2 _),rfl⟩
   rw[hany']
   show decide (0<(bs++[p2]).length)=(_||true)
   rw[Bool.or_true,List.length_append]
   exact decide_eq_true (by show 0<bs.length+1;omega)
 rintro acc σ' H2 D ⟨bs,o2,o3,rfl,hb,hany,y,rfl⟩ fD
 rw[List.length_map,e1.1,List.take_length,has_ends]at hany
 have yD:=same_new fD (.lst (bs.map V.ref))
 have s12:=(s1.trans y).trans yD
 refine⟨_,rfl,D,_,rfl,.inl (SqL.of upd_same),rfl,_,rfl,ite2 (fun c=>?_) (fun c=>?_)⟩
 ·have c':=of_decide_eq_true c
  rw[List.length_map]at c'
  injection c' with c'
  have:pl.has=false:=by rw[←hany];exact decide_eq_false (by omega)
  exact⟨(by show 1≤sizeLine;decide),e this _ s12⟩
 ·have c':¬bs.length=0:=fun z=>c (decide_eq_true (by rw[List.length_map,z];rfl))
  have:pl.has=true:=by rw[←hany];exact decide_eq_true (by omega)
  exact⟨_,rfl,q this _ _ s12⟩
theorem ok_Y17 (F_Y17:Fun K "take_by_plan" "take_by_plan" s_Y17 f fd)(C':Cn K mg)(T:Txt K mg C fI fT fU fL fG dI dT dU dL dG)(g_take:FnOk P w K mg base (CXR P w) 2 fT dT p_Y51 (spTakeB C CN)):FnOk P w K mg base (CXR P w) 3 f fd p_Y17 (spRawP C CN wkV):=by
 refine F_Y17.okX sc_Y17 (fun vs H Q E h=>?_) (fun cdv A outer s H vs Q E hr h=>?_)
 ·obtain⟨b,dx,r,bl,z,x,a,rfl,_⟩:=h
  rfl
 obtain⟨b,dx,r,bl,z,x,pl,rfl,hA,hbit,⟨hP,hhas⟩,q,e⟩:=h
 obtain⟨A_AGAIN,C_AGAIN,hAg⟩:=C'.AGAIN
 refine⟨_,(pss_cons (ps_set (i:=2) sc_Y17.nd rfl (Or.inl rfl) (pv 1))
   (pss_cons (ps_while (PassesOwn.leaving (M:=model P w)) (pt_cmpR op_ne (pe_ix ix_tup (pv 2) pe_int (fun _ _=>rfl)) pe_str (nomark _)) (pss_one (ps_joinN (ps_if (pt_cmpR (op_eqTA hr.units) (pv 2) (pe_glob (v:=.ref A_AGAIN) rfl C_AGAIN rfl) (nomark _)) (pss_one (ps_set (i:=2) sc_Y17.nd rfl (Or.inl rfl) (pv 1))) (pss_one (ps_set (i:=2) sc_Y17.nd rfl (Or.inl rfl) (pe_ix ix_tup (pv 2) (pe_op op_add pe_int (pe_meth0 (pv 0) T.cl T.m_take g_take (hr.mono (by first|decide|omega)) T.b_take .nil cx_pass)) (fun _ _=>rfl))))))))
   (pss_one (ps_ret (pe_ix ix_tup (pv 2) pe_int (fun _ _=>rfl)))))),?_⟩
 have hroot:=has_root hhas
 refine⟨_,rfl,?_⟩
 refine⟨fun m σ' H'=>∃(cur:Pn)(cv:V)(u:Nat),m=2*(bl.length-(z+u))+ag cur∧σ'=[some (.ref b),some x,some cv]∧Grow b H H'∧At C H' b dx r bl (z+u)∧PnAt H' pl x∧PnAt H' cur cv∧wk pl pl (bl.drop z)=(wk pl cur (bl.drop (z+u))).map (fun y=>(y.1,y.2+u)),⟨_,pl,x,0,rfl,rfl,Grow.refl _ _,hA,hP,hP,?_⟩,?_⟩
 ·rw[Nat.add_zero]
  cases wk pl pl (bl.drop z)<;>rfl
 rintro m σ' H1 ⟨cur,cv,u,rfl,rfl,g1,a1,hP1,hC1,hw⟩
 cases cur with
 | num n =>
  obtain⟨p,rfl,hp⟩:=id hC1
  refine⟨_,rfl,p,_,_,_,rfl,rfl,SqT.of hp,rfl,rfl,_,rfl,ite2 (fun c=>absurd c (by decide +kernel)) (fun _=>?_)⟩
  refine⟨_,rfl,p,_,_,_,rfl,rfl,SqT.of hp,rfl,q _ u H1 ?_ g1 a1⟩
  unfold wkV
  rw[hw]
  cases bl.drop (z+u)<;>(show some (V.int (n:Int),0+u)=_;rw[Nat.zero_add])
 | again =>
  obtain⟨p,rfl,hp⟩:=id hC1
  refine⟨_,rfl,p,_,_,_,rfl,rfl,SqT.of hp,rfl,rfl,_,rfl,ite2 (fun _=>?_) (fun c=>absurd (by decide +kernel) c)⟩
  refine⟨_,fun _ _ z=>z,_,fun _ _ z=>z,_,rfl,p,A_AGAIN,_,_,_,rfl,rfl,SqT.of hp,hAg _,_,rfl,ite2 (fun _=>?_) (fun c=>absurd (by decide +kernel) c)⟩
  refine⟨_,rfl,_,?_,pl,x,u,rfl,rfl,g1,a1,hP1,hP1,?_⟩
  ·have:ag pl=0:=by cases pl<;>first|rfl|exact absurd rfl hroot
   rw[this]
   exact Nat.lt_succ_self _
  ·rw[hw]
   have:wk pl .again (bl.drop (z+u))=wk pl pl (bl.drop (z+u)):=by
    have st:stl pl pl=pl:=by cases pl<;>first|rfl|exact absurd rfl hroot
    cases bl.drop (z+u)with
    | nil=>rw[wk,wk,st];rfl
    | cons _ _=>rw[wk,wk,st];rfl
   rw[this]
 | ask l r' =>
  obtain⟨p,y1,y2,rfl,hp,h1,h2⟩:=id hC1
  refine⟨_,rfl,p,_,_,_,rfl,rfl,SqT.of hp,rfl,rfl,_,rfl,ite2 (fun _=>?_) (fun c=>absurd (by decide +kernel) c)⟩
  refine⟨_,fun _ _ z=>z,_,fun _ _ z=>z,_,rfl,p,A_AGAIN,_,_,_,rfl,rfl,SqT.of hp,hAg _,_,rfl,ite2 (fun c=>absurd c (by show ¬(decide (("ask" : Str) = "again")&&false)=true;rw[Bool.and_false];decide)) (fun _=>?_)⟩
  refine⟨_,rfl,_,rfl,b,dx,_,rfl,a1.obj,flds_no _ _ (by decide +kernel) (by decide +kernel),b,dx,r,bl,z+u,rfl,a1,fun x' H3 hx g3 a3=>?_,fun hz=>?_⟩
  ·have hx1:=hbit x' (List.mem_of_getElem? hx)
   have hx2:x'=0∨x'=1:=by omega
   have hp3:=g3 _ _ (fun e'=>by rw[e',a1.obj]at hp;cases hp) hp
   have l3:=a3.le
   have hd:bl.drop (z+u)=x'::bl.drop (z+(u+1)):=by
    obtain⟨hi,e'⟩:=List.getElem?_eq_some_iff.mp hx
    rw[List.drop_eq_getElem_cons hi,e']
    rfl
   rw[hd]at hw
   rcases hx2 with rfl|rfl
   ·refine⟨_,_,rfl,rfl,p,_,_,y1,rfl,rfl,SqT.of hp3,rfl,_,?_,l,y1,u+1,rfl,rfl,g1.trans g3,a3,hP1.growB a1 g3,h1.growB a1 g3,?_⟩
    ·have:=ag_le l
     show 2*(bl.length-(z+(u+1)))+ag l<2*(bl.length-(z+u))+0
     omega
    ·rw[hw,wk]
     show((wk pl (if 0=0 then l else r') (bl.drop (z+(u+1)))).map _).map _=_
     rw[if_pos rfl,Option.map_map]
     congr 1
     funext y
     show(y.1,y.2+1+u)=(y.1,y.2+(u+1))
     rw[Nat.add_assoc,Nat.add_comm 1 u]
   ·refine⟨_,_,rfl,rfl,p,_,_,y2,rfl,rfl,SqT.of hp3,rfl,_,?_,r',y2,u+1,rfl,rfl,g1.trans g3,a3,hP1.growB a1 g3,h2.growB a1 g3,?_⟩
    ·have:=ag_le r'
     show 2*(bl.length-(z+(u+1)))+ag r'<2*(bl.length-(z+u))+0
     omega
    ·rw[hw,wk]
     show((wk pl (if 1=0 then l else r') (bl.drop (z+(u+1)))).map _).map _=_
     rw[if_neg (by decide),Option.map_map]
     congr 1
     funext y
     show(y.1,y.2+1+u)=(y.1,y.2+(u+1))
     rw[Nat.add_assoc,Nat.add_comm 1 u]
  ·refine e (z+u) H1 ?_ (by omega) g1 a1
   unfold wkV
   rw[hw,List.drop_eq_nil_of_le (by omega)]
   rfl
theorem ok_Y64 (F_Y64:Fun K "by_plan" "by_plan" s_Y64 f fd){fN fD fR:Addr}{dN dD dR:FuncData}(g_Y12:FnX P w K mg base "numbered_ends" fN dN p_Y12 14 (spNE CS))(g_Y22:FnX P w K mg base "drawn_whole" fD dD p_Y22 5 (spDW P w K mg base 4 C CN))(g_Y17:FnX P w K mg base "take_by_plan" fR dR p_Y17 3 (spRawP C CN wkV)) :
  FnOk P w K mg base (CXR P w) 15 f fd p_Y64 (spByP C CN CS wkV):=by
 refine F_Y64.okX sc_Y64 (fun vs H Q E h=>?_) (fun cdv A outer s H vs Q E hr h=>?_)
 ·obtain⟨b,dx,r,bl,z,x,a,rfl,_⟩:=h
  rfl
 obtain⟨b,dx,r,bl,z,x,pl,rfl,hA,hbit,hP,hd,q,e,e2⟩:=h
 refine⟨_,(pss_cons (ps_expr (pe_fnX g_Y12 hr (pa_cons (pv 1) pa_nil)))
   (pss_one (ps_ret (pe_fnX g_Y22 hr (pa_cons (pv 0) (pa_cons (pe_glob (v:=.ref _) rfl g_Y17.mg rfl) (pa_cons (pv 1) pa_nil))))))),?_⟩
 refine⟨_,rfl,x,pl,rfl,hP,hd,fun hh v1 H1 s1=>?_,fun hh H1 s1=>e2 H1 hh s1⟩
 have hA1:=hA.same s1
 have g1:Grow b H H1:=.same s1
 refine⟨_,rfl,_,rfl,b,dx,r,fR,bl,z,x,dR,_,3,_,rfl,g_Y17.ok,by decide,g_Y17.kp,g_Y17.bd,hA1,fun Ex hE=>⟨b,dx,r,bl,z,x,pl,rfl,hA1,hbit,⟨hP.same s1,hh⟩,fun v u H' h1 g' a'=>q v u H' hh h1 (g1.trans g') a',fun z' H2 n1 l1 g2 a2=>hE z' H2 l1 a2 fun H3 g3 a3=>e H3 hh n1 (g1.trans (g2.trans g3)) a3⟩⟩
end
theorem dp_at:∀(p:Pn)(d:Nat),∃e∈ends p d,e.2=d+p.dp
 |.num m,d=>⟨(some m,d),by simp[ends],rfl⟩
 |.again,d=>⟨(none,d),by simp[ends],rfl⟩
 |.ask l r,d=>by
  rw[Pn.dp]
  by_cases c:l.dp≤r.dp
  ·obtain⟨e,he,h⟩:=dp_at r (d+1)
   exact⟨e,List.mem_append_right _ he,by omega⟩
  ·obtain⟨e,he,h⟩:=dp_at l (d+1)
   exact⟨e,List.mem_append_left _ he,by omega⟩
def spDeepN:Sp:=fun vs H Q _=>∃(v:V)(pl:Pn),vs=[v]∧PnAt H pl v∧pl.dp≤12∧∀H',Same H H'→Q (.int (pl.dp:Int)) H'
def spNoSh (CS:Addr):Sp:=fun vs H Q E=>∃(v:V)(pl:Pn),vs=[v]∧PnAt H pl v∧pl.dp≤12∧pl.has=false∧∀H',Same H H'→E (.ref CS) none H'
section
variable {P:Program}{w:World}{K:PySem.W.Frag}{mg:Str→Option Value}{base:Heap}{f CS fN:Addr}{fd dN:FuncData}
theorem ok_Y73 (F_Y73:Fun K "deep" "deep" s_Y73 f fd)(B:Bl mg)(g_Y66:Fn P w K mg base "ends_of" p_Y66 13 (spEnds 12)):FnOk P w K mg base CX0 14 f fd p_Y73 spDeepN:=by
 refine F_Y73.ok sc_Y73 (fun vs H Q E h=>?_) (fun cdv A outer s H vs Q E hr h=>?_)
 ·obtain⟨v,pl,rfl,_⟩:=h
  rfl
 obtain⟨v,pl,rfl,hP,hd,q⟩:=h
 refine⟨_,(pss_one (ps_ret (pe_callB (call_maxL rfl) rfl B.max_ L3.bt_max (pa_cons (pe_comp [] ["plan","depth","end"] 2 rfl (pi_list (pe_fn g_Y66 hr (pa_cons (pv 0) (pa_cons pe_int pa_nil)))) (fun _ _ _ _ _=>(pg_tupK K 2 rfl (pgs_cons (pg_name (i:=1) nd_11 rfl (Or.inl rfl) (Or.inr rfl)) (pgs_cons (pg_name (i:=2) nd_11 rfl (Or.inl rfl) (Or.inr rfl)) pgs_nil)) rfl rfl rfl)) (fun _ _ _ _ _=>pif_nil) (fun _ _ _ _ _=>(pv 1))) pa_nil)))),?_⟩
 refine⟨_,rfl,v,pl,0,rfl,hP,hd,by decide,fun l as H1 nl s1 w1 e1=>?_⟩
 have b1:=ends_len pl 0
 have c1:2 ^ pl.dp≤4096:=Nat.le_trans (Nat.pow_le_pow_right (n:=2) (by decide) hd) (by decide)
 refine⟨l,rfl,⟨_,SqL.of w1⟩,comp_list (xs:=as.map V.ref) (fun j acc σ' H'=>∃(o2 o3:Option V),acc=((((ends pl 0).take j).map fun e=>(e.2:Int))).map V.int∧H'=H1∧σ'=[some v,o2,o3]) ⟨_,_,rfl,rfl,rfl⟩
  (fun j acc σ' H' hj ⟨_,_,e',_⟩=>by
   rw[e',List.length_map,List.length_map,List.length_take]
   omega) (fun j acc σ' H' _ ⟨_,_,_,y,_⟩=>SqL.of (by rw[y];exact w1)) ?_ ?_⟩
 ·rintro j x acc σ' H' hx ⟨o2,o3,rfl,rfl,rfl⟩
  obtain⟨a,hja⟩:∃a,as[j]?=some a:=by
   rw[List.getElem?_map]at hx
   cases e:as[j]? with
   | none=>rw[e]at hx;cases hx
   | some r=>exact⟨r,rfl⟩
  rw[List.getElem?_map,hja]at hx
  cases hx
  have hj:j<(ends pl 0).length:=by rw[←e1.1];exact(List.getElem?_eq_some_iff.mp hja).1
  obtain⟨en,hen⟩:∃en,(ends pl 0)[j]?=some en:=⟨_,List.getElem?_eq_getElem hj⟩
  obtain⟨lv,ha,hleaf⟩:=e1.2 j a en hja hen
  refine⟨a,_,rfl,SqT.of ha,rfl,_,_,rfl,_,_,rfl,rfl,_,rfl,_,_,?_,rfl,rfl⟩
  rw[List.take_add_one,hen,List.map_append,List.map_append]
  rfl
 rintro acc σ' H2 D ⟨o2,o3,rfl,rfl,rfl⟩ fD
 rw[List.length_map,e1.1,List.take_length]
 have yD:=same_new fD (.lst (((ends pl 0).map fun e=>(e.2:Int)).map V.int))
 refine⟨D,_,rfl,SqL.of upd_same,?_,fun M hM hle=>?_⟩
 ·obtain⟨e,he,_⟩:=dp_at pl 0
  rw[List.length_map]
  exact List.length_pos_of_mem he
 ·have:M=(pl.dp:Int):=by
   obtain⟨e,he,hd⟩:=dp_at pl 0
   have h1:=hle _ (List.mem_map.mpr ⟨e,he,rfl⟩)
   obtain⟨e',he',rfl⟩:=List.mem_map.mp hM
   have:=ends_deep pl 0 e' he'
   omega
  rw[this]
  exact q _ (s1.trans yD)
theorem ok_Y52 (F_Y52:Fun K "shares_of" "shares_of" s_Y52 f fd)(g_Y73:Fn P w K mg base "deep" p_Y73 14 spDeepN)(g_Y12:FnX P w K mg base "numbered_ends" fN dN p_Y12 14 (spNE CS)):FnOk P w K mg base (CXR P w) 15 f fd p_Y52 (spNoSh CS):=by
 refine F_Y52.okX sc_Y52 (fun vs H Q E h=>?_) (fun cdv A outer s H vs Q E hr h=>?_)
 ·obtain⟨v,pl,rfl,_⟩:=h
  rfl
 obtain⟨v,pl,rfl,hP,hd,hh,e⟩:=h
 refine⟨_,(pss_cons (ps_set (i:=1) sc_Y52.nd rfl (Or.inl rfl) (pe_fn g_Y73 hr (pa_cons (pv 0) pa_nil)))
   (pss_cons (ps_set (i:=2) sc_Y52.nd rfl (Or.inr rfl) pe_dnewK)
   (pss_cons (ps_for (PassesOwn.leaving (M:=model P w)) rfl (pi_list (pe_fnX g_Y12 hr (pa_cons (pv 0) pa_nil))) (pg_tup rfl (pgs_cons (pg_name (i:=3) sc_Y52.nd rfl (Or.inl rfl)) (pgs_cons (pg_name (i:=4) sc_Y52.nd rfl (Or.inl rfl)) pgs_nil))) pss_never)
   pss_never))),?_⟩
 refine⟨_,rfl,v,pl,rfl,hP,hd,fun H1 s1=>?_⟩
 intro dz fz
 have yz:=same_new fz (.dK [])
 refine⟨_,rfl,v,pl,rfl,(hP.same s1).same yz,hd,fun y=>absurd hh (by rw[y];decide),fun _ H2 s2=>e H2 ((s1.trans yz).trans s2)⟩
theorem ok_Y61 (F_Y61:Fun K "mean_of" "mean_of" s_Y61 f fd)(B:Bl mg)(g_Y73:Fn P w K mg base "deep" p_Y73 14 spDeepN)(g_Y68:Fn P w K mg base "rows_to" p_Y68 0 spNo)(g_Y12:FnX P w K mg base "numbered_ends" fN dN p_Y12 14 (spNE CS)):FnOk P w K mg base (CXR P w) 15 f fd p_Y61 (spNoSh CS):=by
 refine F_Y61.okX sc_Y61 (fun vs H Q E h=>?_) (fun cdv A outer s H vs Q E hr h=>?_)
 ·obtain⟨v,pl,rfl,_⟩:=h
  rfl
 obtain⟨v,pl,rfl,hP,hd,hh,e⟩:=h
 refine⟨_,(pss_cons (ps_set (i:=1) sc_Y61.nd rfl (Or.inr rfl) (pe_fn g_Y73 hr (pa_cons (pv 0) pa_nil)))
   (pss_cons (ps_set (i:=2) sc_Y61.nd rfl (Or.inl rfl) (pe_callB (call_sumL rfl) rfl B.sum_ L3.bt_sum (pa_cons (pe_comp [] ["plan","deepest","ending","taken","depth","number"] 2 rfl (pi_list (pe_fnX g_Y12 hr (pa_cons (pv 0) pa_nil))) (fun _ _ _ _ _=>(pg_tupK K 2 rfl (pgs_cons (pg_name (i:=4) nd_12 rfl (Or.inl rfl) (Or.inr rfl)) (pgs_cons (pg_name (i:=5) nd_12 rfl (Or.inl rfl) (Or.inr rfl)) pgs_nil)) rfl rfl rfl)) (fun _ _ _ _ _=>pif_nil) (fun _ _ _ _ _=>(pe_fn g_Y68 hr (pa_cons (pv 4) (pa_cons (pv 1) pa_nil))))) pa_nil)))
   pss_never)),?_⟩
 refine⟨_,rfl,v,pl,rfl,hP,hd,fun H1 s1=>?_⟩
 exact⟨_,rfl,v,pl,rfl,hP.same s1,hd,fun y=>absurd hh (by rw[y];decide),fun _ H2 s2=>e H2 (s1.trans s2)⟩
end
noncomputable def nxt (s:Int):Int:=(1664525*s+1013904223)%4294967296
@[irreducible] noncomputable def stN (s:Int)(n:Nat):Int:=Nat.rec s (fun _ x=>nxt x) n
theorem stN_zero (s:Int):stN s 0=s:=by
 unfold stN
 rfl
theorem stN_succ (s:Int)(n:Nat):stN s (n+1)=nxt (stN s n):=by
 unfold stN
 rfl
noncomputable def btO (s:Int):Int:=if 2147483648≤s then 1 else 0
noncomputable def strm (s:Int)(n:Nat):List Int:=(List.range n).map fun i=>btO (stN s (i+1))
theorem strm_length (s:Int)(n:Nat):(strm s n).length=n:=by simp[strm]
theorem strm_succ (s:Int)(n:Nat):strm s (n+1)=strm s n++[btO (stN s (n+1))]:=by simp[strm,List.range_succ]
def spNext:Sp:=fun vs H Q _=>∃s:Int,vs=[.int s]∧Q (.int (nxt s)) H
def spBitsOf:Sp:=fun vs H Q _=>∃(s:Int)(n:Nat),vs=[.int s,.int n]∧n≤100000∧∀p H',Same H H'→H' p=some (.tup ((strm s n).map V.int))→Q (.ref p) H'
section
variable {P:Program}{w:World}{K:PySem.W.Frag}{mg:Str→Option Value}{base:Heap}{f:Addr}{fd:FuncData}
theorem ok_Y35 (F_Y35:Fun K "next_state" "next_state" s_Y35 f fd)(C:Cn K mg):FnOk P w K mg base CX0 1 f fd p_Y35 spNext:=by
 refine F_Y35.ok sc_Y35 (fun vs H Q E h=>?_) (fun cdv A outer s H vs Q E hr h=>?_)
 ·obtain⟨s,rfl,_⟩:=h
  rfl
 obtain⟨s,rfl,q⟩:=h
 obtain⟨c1,C_FACTOR⟩:=C.FACTOR
 obtain⟨c2,C_ADDED⟩:=C.ADDED
 obtain⟨c3,C_STATES⟩:=C.STATES
 refine⟨_,(pss_one (ps_ret (pe_op op_mod (pe_op op_add (pe_op op_mul (pe_glob (v:=.int 1664525) rfl C_FACTOR ⟨_,rfl⟩) (pv 0)) (pe_glob (v:=.int 1013904223) rfl C_ADDED ⟨_,rfl⟩)) (pe_glob (v:=.int 4294967296) rfl C_STATES ⟨_,rfl⟩)))),?_⟩
 refine⟨_,rfl,_,_,rfl,rfl,.inl ⟨by decide,by decide⟩,_,_,rfl,rfl,_,_,rfl,rfl,(by show(0:Int)<4294967296;decide),?_⟩
 exact q
theorem ok_Y63 (F_Y63:Fun K "bits_of" "bits_of" s_Y63 f fd)(B:Bl mg)(C:Cn K mg)(g_Y35:Fn P w K mg base "next_state" p_Y35 1 spNext):FnOk P w K mg base CX0 2 f fd p_Y63 spBitsOf:=by
 refine F_Y63.ok sc_Y63 (fun vs H Q E h=>?_) (fun cdv A outer s H vs Q E hr h=>?_)
 ·obtain⟨s,n,rfl,_⟩:=h
  rfl
 obtain⟨s,n,rfl,hn,q⟩:=h
 obtain⟨c4,C_HALF_OF_STATES⟩:=C.HALF_OF_STATES
 refine⟨_,(pss_cons (ps_set (i:=2) sc_Y63.nd rfl (Or.inl rfl) (pv 0))
   (pss_cons (ps_set (i:=3) sc_Y63.nd rfl (Or.inl rfl) (pe_lst pa_nil))
   (pss_cons (ps_while PassesOwn.never (pt_cmpR op_lt (pe_callB call_len_seq rfl B.len_ L3.bt_len (pa_cons (pv 3) pa_nil)) (pv 1) (nomark _)) (pss_cons (ps_set (i:=2) sc_Y63.nd rfl (Or.inl rfl) (pe_fn g_Y35 hr (pa_cons (pv 2) pa_nil)))
   (pss_one (ps_expr (pe_bm PySem.F.plainAttrs_list PySem.F.slot_list_append PySem.F.type_list_append mt_append (pv 3) (pa_cons (pe_ifExp (pt_cmpR op_ge (pv 2) (pe_glob (v:=.int 2147483648) rfl C_HALF_OF_STATES ⟨_,rfl⟩) (nomark _)) pe_int pe_int) pa_nil))))))
   (pss_one (ps_ret (pe_callTy call_tuple_of rfl B.tuple_ L3.bt_tuple (pa_cons (pv 3) pa_nil))))))),?_⟩
 refine⟨_,rfl,(by show 0≤sizeLine;decide),fun r hr'=>?_⟩
 refine while_by (fun(σ:St)(H':Hp)=>∃i,i≤n∧σ=[some (.int s),some (.int n),some (.int (stN s i)),some (.ref r)]∧Same H H'∧H' r=some (.lst ((strm s i).map V.int))) (fun(_:St)(H':Hp)=>match H' r with|some (.lst xs)=>n-xs.length|_=>0) ⟨0,Nat.zero_le _,by rw[stN_zero];rfl,same_new hr' _,upd_same⟩ ?_ ?_
 ·rintro σ H' ⟨i,hi,rfl,sH,hR⟩
  refine⟨_,rfl,r,_,rfl,.inl (SqL.of hR),_,rfl,_,_,rfl,rfl,_,rfl,?_⟩
  rw[List.length_map,strm_length]
  refine ite2 (fun c=>?_) (fun c=>?_)
  ·have c':(i:Int)<(n:Int):=of_decide_eq_true c
   refine⟨_,rfl,_,rfl,?_⟩
   rw[←stN_succ]
   refine⟨_,rfl,.inl ⟨rfl,_,SqL.of hR⟩,?_⟩
   refine⟨_,rfl,_,_,rfl,rfl,_,rfl,?_⟩
   have fin:∀v:Int,v=btO (stN s (i+1))→∃l xs y,V.ref r=V.ref l∧[V.int v]=[y]∧H' l=some (.lst xs)∧xs.length<sizeLine ∧
     (fun(σ':St)(H'':Hp)=>(∃i,i≤n∧σ'=[some (.int s),some (.int n),some (.int (stN s i)),some (.ref r)]∧Same H H''∧H'' r=some (.lst ((strm s i).map V.int))) ∧
      (match H'' r with|some (.lst xs)=>n-xs.length|_=>0)<(match H' r with|some (.lst xs)=>n-xs.length|_=>0)) [some (.int s),some (.int n),some (.int (stN s (i+1))),some (.ref r)] (upd H' l (.lst (xs++[y]))):=by
    rintro v rfl
    refine⟨r,_,_,rfl,rfl,hR,by rw[List.length_map,strm_length];exact smallL (by omega),⟨i+1,by omega,rfl,fun b o e=>?_,?_⟩,?_⟩
    ·rw[upd_ne (ne_of_none e hr')]
     exact sH b o e
    ·rw[upd_same,strm_succ,List.map_append]
     rfl
    ·rw[upd_same,hR]
     simp only[List.length_append,List.length_map,strm_length,List.length_singleton]
     omega
   refine ite2 (fun c2=>?_) (fun c2=>?_)
   ·exact fin 1 (by unfold btO;rw[if_pos (of_decide_eq_true c2)])
   ·exact fin 0 (by unfold btO;rw[if_neg (of_decide_eq_false (Bool.eq_false_iff.mpr c2))])
  ·have c':¬(i:Int)<(n:Int):=of_decide_eq_false (Bool.eq_false_iff.mpr c)
   have e:i=n:=by omega
   subst e
   refine⟨_,rfl,r,_,rfl,.inl ⟨SqL.of hR,fun l fl=>?_⟩⟩
   exact q l _ (sH.trans (same_new fl _)) upd_same
 ·rintro σ H' Q1 Q2 hQ ⟨x,e1,p,ys,e2,h1,y,e3,i,j,e4,e5,k,e6,h2⟩
  exact⟨x,e1,p,ys,e2,h1,y,e3,i,j,e4,e5,k,e6,hQ _ _ h2⟩
end
theorem strm_bits (sd:Int)(n:Nat):∃bl:List Nat,(strm sd n).map V.int=vbits bl:=by
 refine⟨(strm sd n).map Int.toNat,?_⟩
 rw[vbits,List.map_map]
 refine List.map_congr_left fun x hx=>?_
 obtain⟨i,_,rfl⟩:=List.mem_map.mp hx
 show V.int _=V.int ((Int.toNat (btO _):Nat):Int)
 unfold btO
 split<;>rfl
theorem n_bst:¬(("bits" : Str) = "steps"):=by decide +kernel
noncomputable def df (b st:Addr):List (Str×V):=putF "steps" (.ref st) (putF "bits" (.ref b) [])
theorem df_bits (b st:Addr):(df b st).lookup ("bits" : Str)=some (.ref b):=by
 unfold df
 rw[lookup_putF,if_neg n_bst,lookup_putF,if_pos rfl]
theorem df_steps (b st:Addr):(df b st).lookup ("steps" : Str)=some (.ref st):=by
 unfold df
 rw[lookup_putF,if_pos rfl]
theorem df_no (b st:Addr){m:Str}(h1:¬m = "steps")(h2:¬m = "bits"):(df b st).lookup m=none:=by
 unfold df
 rw[lookup_putF,if_neg h1,lookup_putF,if_neg h2]
 all_goals rfl
structure TxtD (K:PySem.W.Frag)(mg:Str→Option Value)(C fI fC fN fU fB:Addr)(dI dC dN dU dB:FuncData):Prop where
 cl:Cls K C
 nB:NoAttr K C "bits"
 nS:NoAttr K C "steps"
 mgC:mg "Drawer"=some (.ref C)
 made:Mk K C fI
 m_Y70:Meth K C "choice" fC
 m_noted:Meth K C "noted" fN
 m_used:Meth K C "used" fU
 m_back:Meth K C "back" fB
 b_init:Binds K dI p_Y6 []
 b_Y70:Binds K dC p_Y13 []
 b_noted:Binds K dN p_Y16 []
 b_used:Binds K dU p_Y31 []
 b_back:Binds K dB p_Y27 []
structure DAt (C CD:Addr)(H:Hp)(d dd b dx r st:Addr)(bl:List Nat):Prop where
 obj:H d=some (.ins CD dd (df b st))
 bits:At C H b dx r bl 0
 lst:H st=some (.lst [])
def spUsedD (C CD:Addr):Sp:=fun vs H Q _=>∃(d dd b dx r st:Addr)(bl:List Nat),vs=[.ref d]∧DAt C CD H d dd b dx r st bl∧Q (.int 0) H
def spChD (C CD CP:Addr):Sp:=fun vs H Q E=>∃(d dd b dx r st:Addr)(bl:List Nat)(n k:Int),vs=[.ref d,.int n,.int k]∧DAt C CD H d dd b dx r st bl∧n≤60∧wyI n k=0∧E (.ref CP) none H
def spBackD (C CD CS:Addr):Sp:=fun vs H Q E=>∃(d dd b dx r st:Addr)(bl:List Nat),vs=[.ref d]∧DAt C CD H d dd b dx r st bl∧E (.ref CS) none H
def spInitD (C CD:Addr):Sp:=fun vs H Q _=>∃(d dd:Addr)(sd:Int)(n:Nat),vs=[.ref d,.int sd,.int (n:Int)]∧H d=some (.ins CD dd [])∧n≤1000 ∧
 ∀b dx r st bl H',(∀c o,c≠d→H c=some o→H' c=some o)→DAt C CD H' d dd b dx r st bl→Q .non H'
section
variable {P:Program}{w:World}{K:PySem.W.Frag}{mg:Str→Option Value}{base:Heap}{f C fI fT fU fL fG CD CN CP CS gI gC gN gU gB fE:Addr}{fd dI dT dU dL dG jI jC jN jU jB dE:FuncData}{mS:List Value}
theorem ok_usedD (F_Y31:Fun K "used" "Drawer.used" s_Y31 f fd)(T:Txt K mg C fI fT fU fL fG dI dT dU dL dG)(TD:TxtD K mg CD gI gC gN gU gB jI jC jN jU jB)(g_used:FnOk P w K mg base CX0 1 fU dU p_Y41 (spUsed C)):FnOk P w K mg base CX0 2 f fd p_Y31 (spUsedD C CD):=by
 refine F_Y31.ok sc_Y31 (fun vs H Q E h=>?_) (fun cdv A outer s H vs Q E hr h=>?_)
 ·obtain⟨d,dd,b,dx,r,st,bl,rfl,_⟩:=h
  rfl
 obtain⟨d,dd,b,dx,r,st,bl,rfl,hD,q⟩:=h
 refine⟨_,(pss_one (ps_ret (pe_meth0 (pe_fld (pv 0) rfl) T.cl T.m_used g_used (hr.mono (by first|decide|omega)) T.b_used .nil pass0))),?_⟩
 exact⟨_,rfl,d,CD,dd,_,_,rfl,hD.obj,TD.cl,TD.nB,df_bits _ _,b,dx,_,rfl,hD.bits.obj,flds_no _ _ (by decide +kernel) (by decide +kernel),b,dx,r,0,rfl,hD.bits.obj,q⟩
theorem ok_choiceD (F_Y13:Fun K "choice" "Drawer.choice" s_Y13 f fd)(TD:TxtD K mg CD gI gC gN gU gB jI jC jN jU jB)(gD_used:FnOk P w K mg base CX0 2 gU jU p_Y31 (spUsedD C CD))(gD_noted:FnOk P w K mg base CX0 0 gN jN p_Y16 spNo)(g_Y70:FnX P w K mg base "choice_orders" fE dE p_Y70 7 (spChN C CN CP)):FnOk P w K mg base (CXR P w) 11 f fd p_Y13 (spChD C CD CP):=by
 refine F_Y13.okX sc_Y13 (fun vs H Q E h=>?_) (fun cdv A outer s H vs Q E hr h=>?_)
 ·obtain⟨d,dd,b,dx,r,st,bl,n,k,rfl,_⟩:=h
  rfl
 obtain⟨d,dd,b,dx,r,st,bl,n,k,rfl,hD,hn,h0,e⟩:=h
 refine⟨_,(pss_one (ps_ret (pe_meth (pv 0) TD.cl TD.m_noted gD_noted (hr.mono (by first|decide|omega)) TD.b_noted .nil pass0 (pa_cons (pe_meth0 (pv 0) TD.cl TD.m_used gD_used (hr.mono (by first|decide|omega)) TD.b_used .nil pass0) (pa_cons (pe_fnX g_Y70 hr (pa_cons (pe_fld (pv 0) rfl) (pa_cons (pv 1) (pa_cons (pv 2) pa_nil)))) pa_nil))))),?_⟩
 refine⟨_,rfl,d,dd,_,rfl,hD.obj,df_no _ _ (by decide +kernel) (by decide +kernel),_,rfl,d,dd,_,rfl,hD.obj,df_no _ _ (by decide +kernel) (by decide +kernel),d,dd,b,dx,r,st,bl,rfl,hD,?_⟩
 exact⟨_,rfl,d,CD,dd,_,_,rfl,hD.obj,TD.cl,TD.nB,df_bits _ _,_,rfl,_,rfl,b,dx,r,bl,0,n,k,rfl,hD.bits,hn,.inl ⟨h0,e⟩⟩
theorem ok_back (F_Y27:Fun K "back" "Drawer.back" s_Y27 f fd)(B:Bl mg)(TD:TxtD K mg CD gI gC gN gU gB jI jC jN jU jB)(X_E4:Exc K mg "NoStep" CS mS):FnOk P w K mg base (CXR P w) 2 f fd p_Y27 (spBackD C CD CS):=by
 refine F_Y27.okX sc_Y27 (fun vs H Q E h=>?_) (fun cdv A outer s H vs Q E hr h=>?_)
 ·obtain⟨d,dd,b,dx,r,st,bl,rfl,_⟩:=h
  rfl
 obtain⟨d,dd,b,dx,r,st,bl,rfl,hD,e⟩:=h
 refine⟨_,(pss_cons (ps_if (pt_cmpR op_eq (pe_callB call_len_seq rfl B.len_ L3.bt_len (pa_cons (pe_fld (pv 0) rfl) pa_nil)) pe_int (nomark _)) (pss_one (ps_raise X_E4 (pa_cons pe_str pa_nil))) pss_nil)
   pss_never),?_⟩
 exact⟨_,rfl,d,CD,dd,_,_,rfl,hD.obj,TD.cl,TD.nS,df_steps _ _,st,_,rfl,.inl (SqL.of hD.lst),rfl,_,rfl,iteT ⟨(by show 1≤sizeLine;decide),e⟩⟩
theorem ok_initTD (F_Y6:Fun K "__init__" "Drawer.__init__" s_Y6 f fd)(T:Txt K mg C fI fT fU fL fG dI dT dU dL dG)(TD:TxtD K mg CD gI gC gN gU gB jI jC jN jU jB)(g_init:FnOk P w K mg base CX0 1 fI dI p_Y10 (spInit C))(g_Y63:Fn P w K mg base "bits_of" p_Y63 2 spBitsOf):FnOk P w K mg base CX0 3 f fd p_Y6 (spInitD C CD):=by
 refine F_Y6.ok sc_Y6 (fun vs H Q E h=>?_) (fun cdv A outer s H vs Q E hr h=>?_)
 ·obtain⟨d,dd,sd,n,rfl,_⟩:=h
  rfl
 obtain⟨d,dd,sd,n,rfl,hp,hn,q⟩:=h
 refine⟨_,(pss_cons (ps_fld (pv 0) (pe_make T.made g_init (hr.mono (by first|decide|omega)) rfl T.mgC T.b_init .nil pass0 (pa_cons (pe_fn g_Y63 hr (pa_cons (pv 1) (pa_cons (pv 2) pa_nil))) pa_nil)) rfl)
   (pss_one (ps_fld (pv 0) (pe_lst pa_nil) rfl))),?_⟩
 refine⟨_,rfl,_,rfl,sd,n,rfl,by omega,fun rb H1 s1 h1=>fun b dx nb ndx nex=>?_⟩
 obtain⟨bl,hbl⟩:=strm_bits sd n
 rw[hbl]at h1
 have s2:Same H1 (upd (upd H1 dx (.own b)) b (.ins C dx [])):=fun c o y=>by
  rw[upd_ne (ne_of_none y nb),upd_ne (ne_of_none y ndx)]
  exact y
 refine⟨b,dx,rb,vbits bl,rfl,upd_same,s2 _ _ h1,fun H2 e2 kp=>⟨rfl,?_⟩⟩
 have s3:Same H1 H2:=fun c o y=>kp c o (s2 c o y) (ne_of_none y nb)
 have hd2:=s3 _ _ (s1 _ _ hp)
 have ndb:d≠b:=fun y=>by have:=s1 _ _ hp;rw[y,nb]at this;cases this
 refine⟨_,rfl,d,CD,dd,[],rfl,hd2,TD.cl,TD.nB,(by show 0<1000;decide),?_⟩
 have hd3:upd H2 d (.ins CD dd (putF "bits" (.ref b) [])) d=some (.ins CD dd (putF "bits" (.ref b) [])):=upd_same
 have k3:∀{c o},c≠d→H2 c=some o→upd H2 d (.ins CD dd (putF "bits" (.ref b) [])) c=some o:=fun n e=>(upd_ne n).trans e
 generalize upd H2 d (.ins CD dd (putF "bits" (.ref b) []))=H3 at hd3 k3 ⊢
 refine⟨(by show 0≤sizeLine;decide),fun st fst=>?_⟩
 have y4:=same_new fst (.lst ([]:List V))
 have w4:upd H3 st (.lst ([]:List V)) st=some (.lst ([]:List V)):=upd_same
 generalize upd H3 st (.lst ([]:List V))=H4 at y4 w4 ⊢
 have hd4:=y4 _ _ hd3
 refine⟨_,rfl,d,CD,dd,_,rfl,hd4,TD.cl,TD.nS,(by show 1<1000;decide),?_⟩
 have up:∀{c o},c≠d→H4 c=some o→upd H4 d (.ins CD dd (putF "steps" (.ref st) (putF "bits" (.ref b) []))) c=some o:=fun n e=>(upd_ne n).trans e
 have hst:st≠d:=fun y=>by rw[y,hd4]at w4;cases w4
 have hrd:rb≠d:=fun y=>by have:=s3 _ _ h1;rw[y,hd2]at this;cases this
 exact q b dx rb st bl _ (fun c o n e=>up n (y4 _ _ (k3 n (s3 _ _ (s1 _ _ e))))) ⟨upd_same,⟨up (Ne.symm ndb) (y4 _ _ (k3 (Ne.symm ndb) e2)),up hrd (y4 _ _ (k3 hrd (s3 _ _ h1))),Nat.zero_le _⟩,up hst w4⟩
end
noncomputable abbrev dgS (k:Nat):Str:=⟨#[48+k]⟩
theorem dg_all:∀n:Nat,n<100→(n:Int).natAbs.log2<1920∧(Str.ofString (toString (n:Int))).length+(Str.ofString ".").length≤100∧(Str.ofString (toString (n:Int))++Str.ofString ".").length≠0:=by
 have:(List.range 100).all (fun n=>decide ((n:Int).natAbs.log2<1920∧(Str.ofString (toString (n:Int))).length+(Str.ofString ".").length≤100∧(Str.ofString (toString (n:Int))++Str.ofString ".").length≠0))=true:=by decide +kernel
 intro n hn
 exact of_decide_eq_true (List.all_eq_true.mp this n (List.mem_range.mpr hn))
theorem dg_cut:∀k:Nat,k<10→(Txt.slice (dgS k) (some 0) (some (Txt.find3 (dgS k) (Str.ofString ".") 0+1))).length=0∧Txt.slice (dgS k) (some 0) (some (0+1))≠Str.ofString "*"∧Txt.slice (dgS k) (some 0) (some (0+1))≠Str.ofString "?"∧Str.ofString (toString (k:Int))=dgS k:=by
 have:(List.range 10).all (fun k=>decide ((Txt.slice (dgS k) (some 0) (some (Txt.find3 (dgS k) (Str.ofString ".") 0+1))).length=0∧Txt.slice (dgS k) (some 0) (some (0+1))≠Str.ofString "*"∧Txt.slice (dgS k) (some 0) (some (0+1))≠Str.ofString "?"∧Str.ofString (toString (k:Int))=dgS k))=true:=by decide +kernel
 intro n hn
 exact of_decide_eq_true (List.all_eq_true.mp this n (List.mem_range.mpr hn))
theorem dg_len (k:Nat):(dgS k).length≤sizeLine:=by show 1≤sizeLine;decide
def spWrN:Sp:=fun vs H Q _=>∃(p:Addr)(n:Nat),vs=[.ref p]∧H p=some (.tup [.str "is",.int (n:Int)])∧n<100∧∀t:Str,t.length≠0→Q (.str t) H
def spRdN (CT:Addr):Sp:=fun vs H Q E=>∃k:Nat,vs=[.str (dgS k),.int 0]∧k<10∧∀H',Same H H'→E (.ref CT) none H'
def spRdP (CT:Addr):Sp:=fun vs H Q E=>∃k:Nat,vs=[.str (dgS k),.int 0,.int 12]∧k<10∧∀H',Same H H'→E (.ref CT) none H'
def spRd (CT:Addr):Sp:=fun vs H Q E=>∃k:Nat,vs=[.str (dgS k)]∧k<10∧∀H',Same H H'→E (.ref CT) none H'
section
variable {P:Program}{w:World}{K:PySem.W.Frag}{mg:Str→Option Value}{base:Heap}{f CT fN:Addr}{fd dN:FuncData}{mT:List Value}
theorem ok_Y65 (F_Y65:Fun K "written" "written" s_Y65 f fd)(B:Bl mg)(g_Y65:Fn P w K mg base "written" p_Y65 0 spNo):FnOk P w K mg base CX0 1 f fd p_Y65 spWrN:=by
 refine F_Y65.ok sc_Y65 (fun vs H Q E h=>?_) (fun cdv A outer s H vs Q E hr h=>?_)
 ·obtain⟨p,n,rfl,_⟩:=h
  rfl
 obtain⟨p,n,rfl,hp,hn,q⟩:=h
 obtain⟨d1,d2,d3⟩:=dg_all n hn
 refine⟨_,(pss_cons (ps_if (pt_cmpR op_eq (pe_ix ix_tup (pv 0) pe_int (fun _ _=>rfl)) pe_str (nomark _)) (pss_one (ps_ret (pe_op op_add_str (pe_callTy call_str_int rfl B.str_ L3.bt_str (pa_cons (pe_ix ix_tup (pv 0) pe_int (fun _ _=>rfl)) pa_nil)) pe_str))) pss_nil)
   pss_never),?_⟩
 refine⟨_,rfl,p,_,_,_,rfl,rfl,SqT.of hp,rfl,rfl,_,rfl,ite2 (fun _=>?_) (fun c=>absurd (by decide +kernel) c)⟩
 exact⟨_,rfl,p,_,_,_,rfl,rfl,SqT.of hp,rfl,_,rfl,d1,_,_,rfl,rfl,Nat.le_trans d2 (by decide),q _ d3⟩
theorem ok_Y28 (F_Y28:Fun K "read_number" "read_number" s_Y28 f fd)(B:Bl mg)(C:Cn K mg)(X_E5:Exc K mg "NoText" CT mT)(g_Y65:Fn P w K mg base "written" p_Y65 1 spWrN):FnOk P w K mg base (CXR P w) 2 f fd p_Y28 (spRdN CT):=by
 refine F_Y28.okX sc_Y28 (fun vs H Q E h=>?_) (fun cdv A outer s H vs Q E hr h=>?_)
 ·obtain⟨k,rfl,_⟩:=h
  rfl
 obtain⟨k,rfl,hk,e⟩:=h
 obtain⟨c1,C_GREATEST_NUMBER⟩:=C.GREATEST_NUMBER
 obtain⟨d1,_⟩:=dg_cut k hk
 refine⟨_,(pss_cons (ps_set (i:=2) sc_Y28.nd rfl (Or.inl rfl) (pe_slice sl_str (pv 0) (po_some (pv 1)) (po_some (pe_op op_add (pe_bm PySem.F.plainAttrs_str PySem.F.slot_str_find PySem.F.type_str_find mt_find3 (pv 0) (pa_cons pe_str (pa_cons (pv 1) pa_nil))) pe_int))))
   (pss_cons (ps_for (PassesOwn.leaving (M:=model P w)) rfl (pi_range1 rfl B.range_ (pa_cons (pe_op op_add (pe_glob (v:=.int 99) rfl C_GREATEST_NUMBER ⟨_,rfl⟩) pe_int) pa_nil)) (pg_name (i:=3) sc_Y28.nd rfl (Or.inl rfl)) (pss_one (ps_if (pt_cmpR op_eq (pv 2) (pe_fn g_Y65 hr (pa_cons (pe_tup (pa_cons pe_str (pa_cons (pv 3) pa_nil))) pa_nil)) (nomark _)) pss_never pss_nil)))
   (pss_one (ps_raise X_E5 (pa_cons pe_str pa_nil))))),?_⟩
 refine⟨_,rfl,_,rfl,_,rfl,_,rfl,rfl,_,rfl,_,_,_,rfl,rfl,_,_,rfl,rfl,_,rfl,_,rfl,dg_len k,?_⟩
 generalize Txt.slice (dgS k) (some 0) (some (Txt.find3 (dgS k) (Str.ofString ".") 0+1))=pt at d1 ⊢
 refine⟨_,_,rfl,rfl,100,rfl,by decide,by decide,for_range (lo:=0) (n:=100) (fun i σ' H'=>∃o3:Option V,σ'=[some (.str (dgS k)),some (.int 0),some (.str pt),o3]∧Same H H') ⟨_,rfl,Same.refl _⟩ ?_ ?_⟩
 ·rintro i σ' H' hi ⟨o3,rfl,s1⟩
  refine⟨_,rfl,_,rfl,(by show 2≤sizeLine;decide),fun p fp=>?_⟩
  have yp:=same_new fp (.tup [V.str "is",V.int (0+(i:Int))])
  have hp:(upd H' p (.tup [V.str "is",V.int (0+(i:Int))])) p=some (.tup [V.str "is",V.int (i:Int)]):=by rw[upd_same,Int.zero_add]
  refine⟨p,i,rfl,hp,hi,fun t ht=>⟨rfl,_,rfl,ite2 (fun c=>?_) (fun _=>⟨_,rfl,s1.trans yp⟩)⟩⟩
  have c':V.str pt=V.str t:=of_decide_eq_true c
  injection c' with c'
  exact absurd (by rw[←c'];exact d1) ht
 ·rintro σ' H' ⟨o3,rfl,s1⟩
  exact⟨(by show 1≤sizeLine;decide),e H' s1⟩
theorem ok_Y48 (F_Y48:Fun K "read_part" "read_part" s_Y48 f fd)(X_E5:Exc K mg "NoText" CT mT)(g_Y28:FnX P w K mg base "read_number" fN dN p_Y28 2 (spRdN CT)):FnOk P w K mg base (CXR P w) 3 f fd p_Y48 (spRdP CT):=by
 refine F_Y48.okX sc_Y48 (fun vs H Q E h=>?_) (fun cdv A outer s H vs Q E hr h=>?_)
 ·obtain⟨k,rfl,_⟩:=h
  rfl
 obtain⟨k,rfl,hk,e⟩:=h
 obtain⟨_,d2,d3,_⟩:=dg_cut k hk
 refine⟨_,(pss_cons (ps_set (i:=3) sc_Y48.nd rfl (Or.inl rfl) (pe_slice sl_str (pv 0) (po_some (pv 1)) (po_some (pe_op op_add (pv 1) pe_int))))
   (pss_cons (ps_if (pt_cmpR op_eq (pv 3) pe_str (nomark _)) pss_never pss_nil)
   (pss_cons (ps_if (pt_cmpR op_ne (pv 3) pe_str (nomark _)) (pss_one (ps_ret (pe_fnX g_Y28 hr (pa_cons (pv 0) (pa_cons (pv 1) pa_nil))))) pss_nil)
   pss_never))),?_⟩
 refine⟨_,rfl,_,rfl,_,rfl,_,rfl,_,_,rfl,rfl,_,rfl,_,rfl,dg_len k,?_⟩
 generalize Txt.slice (dgS k) (some 0) (some (0+1))=sg at d2 d3 ⊢
 refine⟨_,rfl,rfl,_,rfl,ite2 (fun c=>?_) (fun _=>?_)⟩
 ·have c':V.str sg=V.str _:=of_decide_eq_true c
  injection c' with c'
  exact absurd c' d2
 refine⟨_,rfl,rfl,_,rfl,ite2 (fun _=>?_) (fun c=>?_)⟩
 ·exact⟨_,rfl,_,rfl,k,rfl,hk,e⟩
 ·have n3:¬V.str sg=V.str (Str.ofString "?"):=fun y=>d3 (by injection y)
  exact absurd (by rw[decide_eq_false n3];rfl) c
theorem ok_Y80 (F_Y80:Fun K "read" "read" s_Y80 f fd)(C:Cn K mg)(g_Y48:FnX P w K mg base "read_part" fN dN p_Y48 3 (spRdP CT)):FnOk P w K mg base (CXR P w) 4 f fd p_Y80 (spRd CT):=by
 refine F_Y80.okX sc_Y80 (fun vs H Q E h=>?_) (fun cdv A outer s H vs Q E hr h=>?_)
 ·obtain⟨k,rfl,_⟩:=h
  rfl
 obtain⟨k,rfl,hk,e⟩:=h
 obtain⟨c1,C_MOST_ASKS⟩:=C.MOST_ASKS
 refine⟨_,(pss_cons (ps_set (i:=1) sc_Y80.nd rfl (Or.inl rfl) (pe_fnX g_Y48 hr (pa_cons (pv 0) (pa_cons pe_int (pa_cons (pe_glob (v:=.int 12) rfl C_MOST_ASKS ⟨_,rfl⟩) pa_nil)))))
   pss_never),?_⟩
 exact⟨_,rfl,k,rfl,hk,e⟩
end
noncomputable def xOk (K:PySem.W.Frag)(l:List Addr):Bool:=(PySem.W.specialIn K (.builtin "object.__class__") "__get__"==some (some (.builtin "getset_descriptor.__get__")))&&(PySem.W.takesIn K (.builtin "object.__class__")==some true) &&
 l.all fun C=>(PySem.W.findIn K (.ref C) "__getattribute__"==some (some (.builtin "BaseException.__getattribute__")))&&(PySem.W.findIn K (.ref C) "__getattr__"==some none)&&(PySem.W.findIn K (.ref C) "__class__"==some (some (.builtin "object.__class__")))&&(PySem.W.mroIn K C (.type "object")==some true)&&(PySem.W.clsIn K C).isSome&&(PySem.W.mroIn K C (.type "BaseException")==some true)&&(PySem.W.kitOne K (.ref C) (.type "ValueError")==some true)&&l.all fun D=>PySem.W.kitOne K (.ref C) (.ref D)==some (C==D)
theorem xOk_at {K:PySem.W.Frag}{l:List Addr}(h:xOk K l=true){C:Addr}(hC:C∈l):XCl K C∧PySem.W.kitOne K (.ref C) (.type "ValueError")=some true∧∀D∈l,PySem.W.kitOne K (.ref C) (.ref D)=some (C==D):=by
 unfold xOk at h
 rw[Bool.and_eq_true,Bool.and_eq_true]at h
 obtain⟨⟨h1,h2⟩,h3⟩:=h
 have h4:=List.all_eq_true.mp h3 C hC
 simp only[Bool.and_eq_true]at h4
 obtain⟨⟨⟨⟨⟨⟨⟨a1,a2⟩,a3⟩,a4⟩,a5⟩,a8⟩,a6⟩,a7⟩:=h4
 exact⟨⟨eq_of_beq a1,eq_of_beq a2,eq_of_beq a3,eq_of_beq h1,eq_of_beq h2,eq_of_beq a4,a5,eq_of_beq a8⟩,eq_of_beq a6,fun D hD=>eq_of_beq (List.all_eq_true.mp a7 D hD)⟩
structure Five (B S P T X:Addr):Prop where
 bs:B≠S
 bp:B≠P
 bt:B≠T
 bx:B≠X
 sp:S≠P
 st:S≠T
 sx:S≠X
 pt:P≠T
 px:P≠X
 tx:T≠X
def Kd (B S P T X C:Addr)(n:Str):Prop:=(C=B∧n=Str.ofString "NoBits")∨(C=S∧n=Str.ofString "NoShares")∨(C=P∧n=Str.ofString "NoPlace")∨(C=T∧n=Str.ofString "NoStep")∨(C=X∧n=Str.ofString "NoText")
def spNames (B S P T X:Addr):Sp:=fun vs H Q _=>∃(e C:Addr)(n:Str),vs=[.ref e]∧H e=some (ExcO e C)∧Kd B S P T X C n∧∀l H',Same H H'→H' l=some (.lst [.str n])→Q (.ref l) H'
noncomputable def ifL (b:Bool)(x:V):List V:=if b then [x]else []
theorem ifL_le (b:Bool)(x:V):(ifL b x).length≤1:=by cases b<;>simp[ifL]
theorem rep_b {H:Hp}{Q:VK}{x:V}{b:Bool}{l0:Addr}(h0:H l0=some (.lst [x]))(q:∀l H',Same H H'→H' l=some (.lst (ifL b x))→Q (.ref l) H'):rRep (.ref l0) (.int (if b=true then 1 else 0)) H Q:=by
 cases b with
 | true=>exact⟨l0,1,[x],rfl,rfl,h0,by decide,by decide,(by show 1≤sizeLine;decide),fun l fl=>q l _ (same_new fl _) upd_same⟩
 | false=>exact⟨l0,0,[x],rfl,rfl,h0,by decide,by decide,(by show 0≤sizeLine;decide),fun l fl=>q l _ (same_new fl _) upd_same⟩
theorem cat_b {H:Hp}{Q:VK}{a b:Addr}{xs ys:List V}(ha:H a=some (.lst xs))(hb:H b=some (.lst ys))(hl:xs.length+ys.length≤1000)(q:∀l H',Same H H'→H' l=some (.lst (xs++ys))→Q (.ref l) H'):rCat (.ref a) (.ref b) H Q :=
 ⟨a,b,xs,ys,rfl,rfl,ha,hb,small (by omega),fun l fl=>q l _ (same_new fl _) upd_same⟩
section
variable {P:Program}{w:World}{K:PySem.W.Frag}{mg:Str→Option Value}{base:Heap}{f CB CS CP CT CX:Addr}{fd:FuncData}{mB mS mP mT mX:List Value}
theorem okH_Y37 {k:Nat}(F_Y37:Fun K "_law_names" "_law_names" s_Y37 f fd)(B:Bl mg)(X_E1:Exc K mg "NoBits" CB mB)(X_E2:Exc K mg "NoShares" CS mS)(X_E3:Exc K mg "NoPlace" CP mP)(X_E4:Exc K mg "NoStep" CT mT)(X_E5:Exc K mg "NoText" CX mX)(hx:xOk K [CB,CS,CP,CT,CX]=true)(h5:Five CB CS CP CT CX):FnOkH P w K mg base (k+1) f fd p_Y37 (spNames CB CS CP CT CX):=by
 refine F_Y37.okH sc_Y37 (fun vs H Q E h=>?_) (fun cdv A outer s H vs Q E h=>?_)
 ·obtain⟨e,C,n,rfl,_⟩:=h
  rfl
 obtain⟨e,C,n,rfl,he,hk,q⟩:=h
 have hC:C∈[CB,CS,CP,CT,CX]:=by
  rcases hk with ⟨rfl,_⟩|⟨rfl,_⟩|⟨rfl,_⟩|⟨rfl,_⟩|⟨rfl,_⟩<;>simp
 obtain⟨Z,zv,zk⟩:=xOk_at hx hC
 refine⟨_,(pss_cons (ps_set (i:=1) sc_Y37.nd rfl (Or.inl rfl) (pe_op op_cat (pe_op op_rep (pe_lst (pa_cons pe_str pa_nil)) (pe_callTy call_int1 rfl B.int_ L3.bt_int (pa_cons (pe_callB call_isiX rfl B.isinstance_ L3.bt_isinstance (pa_cons (pv 0) (pa_cons (pe_glob (v:=.ref _) rfl X_E1.bound rfl) pa_nil))) pa_nil))) (pe_op op_rep (pe_lst (pa_cons pe_str pa_nil)) (pe_callTy call_int1 rfl B.int_ L3.bt_int (pa_cons (pe_callB call_isiX rfl B.isinstance_ L3.bt_isinstance (pa_cons (pv 0) (pa_cons (pe_glob (v:=.ref _) rfl X_E2.bound rfl) pa_nil))) pa_nil)))))
   (pss_cons (ps_set (i:=1) sc_Y37.nd rfl (Or.inl rfl) (pe_op op_cat (pe_op op_cat (pv 1) (pe_op op_rep (pe_lst (pa_cons pe_str pa_nil)) (pe_callTy call_int1 rfl B.int_ L3.bt_int (pa_cons (pe_callB call_isiX rfl B.isinstance_ L3.bt_isinstance (pa_cons (pv 0) (pa_cons (pe_glob (v:=.ref _) rfl X_E3.bound rfl) pa_nil))) pa_nil)))) (pe_op op_rep (pe_lst (pa_cons pe_str pa_nil)) (pe_callTy call_int1 rfl B.int_ L3.bt_int (pa_cons (pe_callB call_isiX rfl B.isinstance_ L3.bt_isinstance (pa_cons (pv 0) (pa_cons (pe_glob (v:=.ref _) rfl X_E4.bound rfl) pa_nil))) pa_nil)))))
   (pss_cons (ps_set (i:=1) sc_Y37.nd rfl (Or.inl rfl) (pe_op op_cat (pv 1) (pe_op op_rep (pe_lst (pa_cons pe_str pa_nil)) (pe_callTy call_int1 rfl B.int_ L3.bt_int (pa_cons (pe_callB call_isiX rfl B.isinstance_ L3.bt_isinstance (pa_cons (pv 0) (pa_cons (pe_glob (v:=.ref _) rfl X_E5.bound rfl) pa_nil))) pa_nil)))))
   (pss_cons (ps_if (pt_not (pt_truth (pe_callB call_isiX rfl B.isinstance_ L3.bt_isinstance (pa_cons (pv 0) (pa_cons (pe_bltn (v:=.ty "ValueError") rfl B.ValueError_ L3.bt_ValueError rfl) pa_nil))) (fun _=>rfl))) (pss_one (ps_ret (pe_lst (pa_cons pe_str pa_nil)))) pss_nil)
   (pss_one (ps_ret (pv 1))))))),?_⟩
 have sA1:Same H H:=Same.refl _
 refine⟨(by show 1≤sizeLine;decide),fun l1 f1=>?_⟩
 have y1:=same_new f1 (.lst [V.str (Str.ofString "NoBits")])
 refine⟨_,rfl,e,C,_,_,.inl ⟨CB,rfl,rfl⟩,(sA1.trans y1) _ _ he,Z,zk CB (by simp),.inr ⟨_,rfl,rep_b upd_same fun m1 G1 z1 w1=>?_⟩⟩
 have sA2:=(sA1.trans y1).trans z1
 refine⟨(by show 1≤sizeLine;decide),fun l2 f2=>?_⟩
 have y2:=same_new f2 (.lst [V.str (Str.ofString "NoShares")])
 refine⟨_,rfl,e,C,_,_,.inl ⟨CS,rfl,rfl⟩,(sA2.trans y2) _ _ he,Z,zk CS (by simp),.inr ⟨_,rfl,rep_b upd_same fun m2 G2 z2 w2=>?_⟩⟩
 have w1':=(y2.trans z2) _ _ w1
 refine cat_b w1' w2 (by have:=ifL_le (C==CB) (V.str (Str.ofString "NoBits"));have:=ifL_le (C==CS) (V.str (Str.ofString "NoShares"));omega) fun m3 G3' z3' w3'=>?_
 have sA3:=((sA2.trans y2).trans z2).trans z3'
 refine⟨_,rfl,?_⟩
 refine⟨(by show 1≤sizeLine;decide),fun l3 f3=>?_⟩
 have y3:=same_new f3 (.lst [V.str (Str.ofString "NoPlace")])
 refine⟨_,rfl,e,C,_,_,.inl ⟨CP,rfl,rfl⟩,(sA3.trans y3) _ _ he,Z,zk CP (by simp),.inr ⟨_,rfl,rep_b upd_same fun m3 G3 z3 w3=>?_⟩⟩
 have w3a:=(y3.trans z3) _ _ w3'
 refine cat_b w3a w3 (by rw[List.length_append];have:=ifL_le (C==CB) (V.str (Str.ofString "NoBits"));have:=ifL_le (C==CS) (V.str (Str.ofString "NoShares"));have:=ifL_le (C==CP) (V.str (Str.ofString "NoPlace"));omega) fun m4 G4' z4' w4'=>?_
 have sA4:=((sA3.trans y3).trans z3).trans z4'
 refine⟨(by show 1≤sizeLine;decide),fun l4 f4=>?_⟩
 have y4:=same_new f4 (.lst [V.str (Str.ofString "NoStep")])
 refine⟨_,rfl,e,C,_,_,.inl ⟨CT,rfl,rfl⟩,(sA4.trans y4) _ _ he,Z,zk CT (by simp),.inr ⟨_,rfl,rep_b upd_same fun m4 G4 z4 w4=>?_⟩⟩
 have w4a:=(y4.trans z4) _ _ w4'
 refine cat_b w4a w4 (by rw[List.length_append,List.length_append];have:=ifL_le (C==CB) (V.str (Str.ofString "NoBits"));have:=ifL_le (C==CS) (V.str (Str.ofString "NoShares"));have:=ifL_le (C==CP) (V.str (Str.ofString "NoPlace"));have:=ifL_le (C==CT) (V.str (Str.ofString "NoStep"));omega) fun m5 G5' z5' w5'=>?_
 have sA5:=((sA4.trans y4).trans z4).trans z5'
 refine⟨_,rfl,?_⟩
 refine⟨(by show 1≤sizeLine;decide),fun l5 f5=>?_⟩
 have y5:=same_new f5 (.lst [V.str (Str.ofString "NoText")])
 refine⟨_,rfl,e,C,_,_,.inl ⟨CX,rfl,rfl⟩,(sA5.trans y5) _ _ he,Z,zk CX (by simp),.inr ⟨_,rfl,rep_b upd_same fun m5 G5 z5 w5=>?_⟩⟩
 have w5a:=(y5.trans z5) _ _ w5'
 refine cat_b w5a w5 (by rw[List.length_append,List.length_append,List.length_append];have:=ifL_le (C==CB) (V.str (Str.ofString "NoBits"));have:=ifL_le (C==CS) (V.str (Str.ofString "NoShares"));have:=ifL_le (C==CP) (V.str (Str.ofString "NoPlace"));have:=ifL_le (C==CT) (V.str (Str.ofString "NoStep"));have:=ifL_le (C==CX) (V.str (Str.ofString "NoText"));omega) fun m6 G6' z6' w6'=>?_
 have sA6:=((sA5.trans y5).trans z5).trans z6'
 refine⟨_,rfl,e,C,_,_,.inr ⟨_,rfl,rfl⟩,sA6 _ _ he,Z,zv,true,rfl,iteF ?_⟩
 refine⟨_,rfl,q m6 G6' sA6 ?_⟩
 rw[w6']
 have nb:∀{a b:Addr},a≠b→(a==b)=false:=fun h=>beq_false_of_ne h
 rcases hk with ⟨rfl,rfl⟩|⟨rfl,rfl⟩|⟨rfl,rfl⟩|⟨rfl,rfl⟩|⟨rfl,rfl⟩
 ·rw[beq_self_eq_true,nb h5.bs,nb h5.bp,nb h5.bt,nb h5.bx];rfl
 ·rw[beq_self_eq_true,nb (Ne.symm h5.bs),nb h5.sp,nb h5.st,nb h5.sx];rfl
 ·rw[beq_self_eq_true,nb (Ne.symm h5.bp),nb (Ne.symm h5.sp),nb h5.pt,nb h5.px];rfl
 ·rw[beq_self_eq_true,nb (Ne.symm h5.bt),nb (Ne.symm h5.st),nb (Ne.symm h5.pt),nb h5.tx];rfl
 ·rw[beq_self_eq_true,nb (Ne.symm h5.bx),nb (Ne.symm h5.sx),nb (Ne.symm h5.px),nb (Ne.symm h5.tx)];rfl
end
noncomputable def kpR (m L:Nat):Nat→Nat→Nat→List Nat→Option ((Nat×Nat×Nat)×Nat)
 | _,_,_,[]=>none
 | n,s,u,b::bs=>if 2*s<L then kpR m L (2*n+b) (2*s) (u+1) bs else if 2*n+b<2*s / m*m then some (((2*n+b)%m,(2*n+b) / m,2*s / m),u+1)else kpR m L (2*n+b-2*s / m*m) (2*s-2*s / m*m) (u+1) bs
noncomputable def kpG (m L n s u:Nat)(bs:List Nat):Option ((Nat×Nat×Nat)×Nat):=if s<L then kpR m L n s u bs else if n<s / m*m then some ((n%m,n / m,s / m),u)else kpR m L (n-s / m*m) (s-s / m*m) u bs
noncomputable def kpF (m L n s:Nat)(bs:List Nat):Option ((Nat×Nat×Nat)×Nat):=kpG m L n s 0 bs
theorem kpG_nil {m L n s u:Nat}(h:s<L):kpG m L n s u []=none:=by
 unfold kpG
 rw[if_pos h]
 rfl
theorem kpG_step {m L n s u b:Nat}{bs:List Nat}(h:s<L):kpG m L n s u (b::bs)=kpG m L (2*n+b) (2*s) (u+1) bs:=by
 unfold kpG
 rw[if_pos h]
 rfl
theorem kp_rest {m s:Nat}(hm:0<m):s-s / m*m<m:=by
 have a:=Nat.div_add_mod s m
 have b:=Nat.mod_lt s hm
 rw[Nat.mul_comm (s / m) m]
 omega
theorem kpG_less {m L n s u:Nat}{bs:List Nat}(hm:0<m)(hL:m≤L)(h:¬s<L)(h2:¬n<s / m*m):kpG m L n s u bs=kpG m L (n-s / m*m) (s-s / m*m) u bs:=by
 unfold kpG
 rw[if_neg h,if_neg h2,if_pos (Nat.lt_of_lt_of_le (kp_rest hm) hL)]
theorem kpG_end {m L n s u:Nat}{bs:List Nat}(h:¬s<L)(h2:n<s / m*m):kpG m L n s u bs=some ((n%m,n / m,s / m),u):=by
 unfold kpG
 rw[if_neg h,if_pos h2]
noncomputable def three (y:Nat×Nat×Nat):List V:=[.int (y.1:Int),.int (y.2.1:Int),.int (y.2.2:Int)]
def spRawK (C CN:Addr):Sp:=fun vs H Q E=>∃(b dx r p:Addr)(bl:List Nat)(z n s L m:Nat),vs=[.ref b,.ref p]∧At C H b dx r bl z∧H p=some (.tup [.int (n:Int),.int (s:Int),.int (L:Int),.int (m:Int)])∧0<m∧m≤L∧m<1000000 ∧
 (∀y u p H',kpF m L n s (bl.drop z)=some (y,u)→Grow b H H'→At C H' b dx r bl (z+u)→H' p=some (.tup (three y))→Q (.ref p) H') ∧
 (∀z' H',kpF m L n s (bl.drop z)=none→z≤z'→Grow b H H'→At C H' b dx r bl z'→E (.ref CN) none H')
section
variable {P:Program}{w:World}{K:PySem.W.Frag}{mg:Str→Option Value}{base:Heap}{f C fI fT fU fL fG CN:Addr}{fd dI dT dU dL dG:FuncData}{mN:List Value}
theorem ok_Y8 (F_Y8:Fun K "take_with_room" "take_with_room" s_Y8 f fd)(T:Txt K mg C fI fT fU fL fG dI dT dU dL dG)(g_take:FnOk P w K mg base (CXR P w) 2 fT dT p_Y51 (spTakeB C CN)) :
  FnOk P w K mg base (CXR P w) 3 f fd p_Y8 (spRawK C CN):=by
 refine F_Y8.okX sc_Y8 (fun vs H Q E h=>?_) (fun cdv A outer s H vs Q E hr h=>?_)
 ·obtain⟨b,dx,r,p,bl,z,n,s,L,m,rfl,_⟩:=h
  rfl
 obtain⟨b,dx,r,p,bl,z,n0,s0,L,m,rfl,hA,hp,hm,hL,hm2,q,e⟩:=h
 refine⟨_,(pss_cons (ps_set (i:=2) sc_Y8.nd rfl (Or.inl rfl) (pe_ix ix_tup (pv 1) pe_int (fun _ _=>rfl)))
   (pss_cons (ps_set (i:=3) sc_Y8.nd rfl (Or.inl rfl) (pe_ix ix_tup (pv 1) pe_int (fun _ _=>rfl)))
   (pss_cons (ps_set (i:=4) sc_Y8.nd rfl (Or.inl rfl) (pe_ix ix_tup (pv 1) pe_int (fun _ _=>rfl)))
   (pss_cons (ps_set (i:=5) sc_Y8.nd rfl (Or.inl rfl) (pe_ix ix_tup (pv 1) pe_int (fun _ _=>rfl)))
   (pss_one (ps_while (PassesOwn.leaving (M:=model P w)) (pt_truth pe_bl (fun _=>rfl)) (pss_cons (ps_while (PassesOwn.leaving (M:=model P w)) (pt_cmpR op_lt (pv 3) (pv 4) (nomark _)) (pss_cons (ps_set (i:=2) sc_Y8.nd rfl (Or.inl rfl) (pe_op op_add (pe_op op_mul pe_int (pv 2)) (pe_meth0 (pv 0) T.cl T.m_take g_take (hr.mono (by first|decide|omega)) T.b_take .nil cx_pass)))
   (pss_one (ps_set (i:=3) sc_Y8.nd rfl (Or.inl rfl) (pe_op op_mul pe_int (pv 3))))))
   (pss_cons (ps_set (i:=6) sc_Y8.nd rfl (Or.inl rfl) (pe_op op_fdiv (pv 3) (pv 5)))
   (pss_cons (ps_if (pt_cmpR op_lt (pv 2) (pe_op op_mul (pv 6) (pv 5)) (nomark _)) (pss_one (ps_ret (pe_tup (pa_cons (pe_op op_mod (pv 2) (pv 5)) (pa_cons (pe_op op_fdiv (pv 2) (pv 5)) (pa_cons (pv 6) pa_nil)))))) pss_nil)
   (pss_cons (ps_set (i:=2) sc_Y8.nd rfl (Or.inl rfl) (pe_op op_sub (pv 2) (pe_op op_mul (pv 6) (pv 5))))
   (pss_one (ps_set (i:=3) sc_Y8.nd rfl (Or.inl rfl) (pe_op op_sub (pv 3) (pe_op op_mul (pv 6) (pv 5))))))))))))))),?_⟩
 refine⟨_,rfl,p,_,_,_,rfl,rfl,SqT.of hp,rfl,?_⟩
 refine⟨_,rfl,p,_,_,_,rfl,rfl,SqT.of hp,rfl,?_⟩
 refine⟨_,rfl,p,_,_,_,rfl,rfl,SqT.of hp,rfl,?_⟩
 refine⟨_,rfl,p,_,_,_,rfl,rfl,SqT.of hp,rfl,?_⟩
 refine⟨fun mu σ' H'=>∃(n sz u:Nat)(o6:Option V),mu=2*(bl.length-(z+u))+(if sz<L then 0 else 1)∧σ'=[some (.ref b),some (.ref p),some (.int (n:Int)),some (.int (sz:Int)),some (.int (L:Int)),some (.int (m:Int)),o6]∧Grow b H H'∧At C H' b dx r bl (z+u)∧kpF m L n0 s0 (bl.drop z)=kpG m L n sz u (bl.drop (z+u)),⟨_,n0,s0,0,_,rfl,rfl,Grow.refl _ _,hA,rfl⟩,?_⟩
 rintro mu σ1 H1 ⟨n,sz,u,o6,rfl,rfl,g1,a1,hev⟩
 refine⟨_,rfl,iteT ?_⟩
 refine⟨_,fun _ _ z=>z,?_⟩
 refine⟨fun m2 σ' H'=>∃(n2 sz2 u2:Nat),m2=bl.length-(z+u2)∧σ'=[some (.ref b),some (.ref p),some (.int (n2:Int)),some (.int (sz2:Int)),some (.int (L:Int)),some (.int (m:Int)),o6]∧Grow b H H'∧At C H' b dx r bl (z+u2)∧kpF m L n0 s0 (bl.drop z)=kpG m L n2 sz2 u2 (bl.drop (z+u2))∧u≤u2∧(u2=u→sz2=sz),⟨_,n,sz,u,rfl,rfl,g1,a1,hev,Nat.le_refl _,fun _=>rfl⟩,?_⟩
 rintro m2 σ2 H2 ⟨n2,sz2,u2,rfl,rfl,g2,a2,hev2,hu2,hk2⟩
 refine⟨_,rfl,_,rfl,_,_,rfl,rfl,_,rfl,ite2 (fun c=>?_) (fun c=>?_)⟩
 ·have c':(sz2:Int)<(L:Int):=of_decide_eq_true c
  have hlt:sz2<L:=by omega
  refine⟨_,fun _ _ z=>z,?_⟩
  refine⟨_,rfl,_,_,rfl,rfl,.inl ⟨by decide,by decide⟩,_,rfl,b,dx,_,rfl,a2.obj,flds_no _ _ (by decide +kernel) (by decide +kernel),b,dx,r,bl,z+u2,rfl,a2,fun x H3 hx g3 a3=>?_,fun hz=>?_⟩
  ·have hl3:=a3.le
   refine⟨_,_,rfl,rfl,?_⟩
   refine⟨_,rfl,_,_,rfl,rfl,.inl ⟨by decide,by decide⟩,?_⟩
   refine⟨bl.length-(z+(u2+1)),by omega,2*n2+x,2*sz2,u2+1,rfl,?_,g2.trans g3,a3,?_,by omega,fun h=>by omega⟩
   ·show _=[some (V.ref b),some (V.ref p),some (V.int ((2*n2+x:Nat):Int)),some (V.int ((2*sz2:Nat):Int)),some (V.int (L:Int)),some (V.int (m:Int)),o6]
    rw[Int.natCast_add,Int.natCast_mul,Int.natCast_mul]
    rfl
   ·rw[hev2,drop_at hx,kpG_step hlt]
    rfl
  ·refine e (z+u2) H2 ?_ (by omega) g2 a2
   rw[hev2,List.drop_eq_nil_of_le (by omega),kpG_nil hlt]
 ·have c':¬(sz2:Int)<(L:Int):=of_decide_eq_false (Bool.eq_false_iff.mpr c)
  have hge:¬sz2<L:=by omega
  refine⟨_,rfl,_,rfl,_,_,rfl,rfl,⟨by omega,by omega⟩,?_⟩
  have eo:(sz2:Int) / (m:Int)*(m:Int)=((sz2 / m*m:Nat):Int):=rfl
  refine⟨_,rfl,_,rfl,_,rfl,_,_,rfl,rfl,.inr ⟨by omega,by omega⟩,_,_,rfl,rfl,_,rfl,?_⟩
  rw[eo]
  refine ite2 (fun c2=>?_) (fun c2=>?_)
  ·have c3:(n2:Int)<((sz2 / m*m:Nat):Int):=of_decide_eq_true c2
   refine⟨_,rfl,_,rfl,_,_,rfl,rfl,(by show(0:Int)<(m:Int);omega),_,rfl,_,rfl,_,_,rfl,rfl,⟨by omega,by omega⟩,_,rfl,(by show 3≤sizeLine;decide),fun p2 f2=>?_⟩
   refine q (n2%m,n2 / m,sz2 / m) u2 p2 _ ?_ (g2.trans (.same (same_new f2 _))) (a2.same (same_new f2 _)) upd_same
   rw[hev2,kpG_end hge (by omega)]
  ·have c3:¬(n2:Int)<((sz2 / m*m:Nat):Int):=of_decide_eq_false (Bool.eq_false_iff.mpr c2)
   refine⟨_,rfl,_,rfl,_,rfl,_,_,rfl,rfl,.inr ⟨by omega,by omega⟩,_,_,rfl,rfl,?_⟩
   refine⟨_,rfl,_,rfl,_,rfl,_,_,rfl,rfl,.inr ⟨by omega,by omega⟩,_,_,rfl,rfl,?_⟩
   have l2:=a2.le
   have hle:sz2 / m*m≤sz2:=Nat.div_mul_le_self _ _
   have hrest:=kp_rest (s:=sz2) hm
   refine⟨2*(bl.length-(z+u2))+(if sz2-sz2 / m*m<L then 0 else 1),?_,n2-sz2 / m*m,sz2-sz2 / m*m,u2,some (.int ((sz2 / m:Nat):Int)),rfl,?_,g2,a2,by rw[hev2,kpG_less hm hL hge (by omega)]⟩
   ·rw[if_pos (show sz2-sz2 / m*m<L by omega)]
    by_cases hu:u2=u
    ·have:=hk2 hu
     subst this
     subst hu
     rw[if_neg hge]
     omega
    ·omega
   ·show _=[some (V.ref b),some (V.ref p),some (V.int ((n2-sz2 / m*m:Nat):Int)),some (V.int ((sz2-sz2 / m*m:Nat):Int)),some (V.int (L:Int)),some (V.int (m:Int)),some (V.int ((sz2 / m:Nat):Int))]
    rw[Int.ofNat_sub (by omega),Int.ofNat_sub hle]
    rfl
end
theorem pf_nil (f:Str)(v:V):putF f v []=[(f,v)]:=rfl
theorem pf_ne {f g:Str}(h:¬g=f)(v x:V)(r:List (Str×V)):putF f v ((g,x)::r)=(g,x)::putF f v r:=if_neg h
theorem pf_eq (f:Str)(v x:V)(r:List (Str×V)):putF f v ((f,x)::r)=(f,v)::r:=if_pos rfl
theorem n_bm:¬(("bits" : Str) = "most"):=by decide +kernel
theorem n_bn:¬(("bits" : Str) = "number"):=by decide +kernel
theorem n_bs:¬(("bits" : Str) = "size"):=by decide +kernel
theorem n_mn:¬(("most" : Str) = "number"):=by decide +kernel
theorem n_ms:¬(("most" : Str) = "size"):=by decide +kernel
theorem n_ns:¬(("number" : Str) = "size"):=by decide +kernel
noncomputable def kf (b:Addr)(w n s:Int):List (Str×V):=putF "size" (.int s) (putF "number" (.int n) (putF "most" (.int w) (putF "bits" (.ref b) [])))
theorem kf_eq (b:Addr)(w n s:Int):kf b w n s=([("bits",V.ref b),("most",V.int w),("number",V.int n),("size",V.int s)]:List (Str×V)):=by
 unfold kf
 rw[pf_nil,pf_ne n_bm,pf_nil,pf_ne n_bn,pf_ne n_mn,pf_nil,pf_ne n_bs,pf_ne n_ms,pf_ne n_ns,pf_nil]
theorem kf_bits (b:Addr)(w n s:Int):(kf b w n s).lookup ("bits" : Str)=some (.ref b):=by
 unfold kf
 rw[lookup_putF,if_neg n_bs,lookup_putF,if_neg n_bn,lookup_putF,if_neg n_bm,lookup_putF,if_pos rfl]
theorem kf_most (b:Addr)(w n s:Int):(kf b w n s).lookup ("most" : Str)=some (.int w):=by
 unfold kf
 rw[lookup_putF,if_neg n_ms,lookup_putF,if_neg n_mn,lookup_putF,if_pos rfl]
theorem kf_number (b:Addr)(w n s:Int):(kf b w n s).lookup ("number" : Str)=some (.int n):=by
 unfold kf
 rw[lookup_putF,if_neg n_ns,lookup_putF,if_pos rfl]
theorem kf_size (b:Addr)(w n s:Int):(kf b w n s).lookup ("size" : Str)=some (.int s):=by
 unfold kf
 rw[lookup_putF,if_pos rfl]
theorem kf_no (b:Addr)(w n s:Int){m:Str}(h1:¬m = "bits")(h2:¬m = "most")(h3:¬m = "number")(h4:¬m = "size"):(kf b w n s).lookup m=none:=by
 unfold kf
 rw[lookup_putF,if_neg h4,lookup_putF,if_neg h3,lookup_putF,if_neg h2,lookup_putF,if_neg h1]
 all_goals rfl
theorem kf_putN (b:Addr)(w n s k:Int):putF "number" (.int k) (kf b w n s)=kf b w k s:=by
 rw[kf_eq,kf_eq,pf_ne n_bn,pf_ne n_mn,pf_eq]
theorem kf_putS (b:Addr)(w n s k:Int):putF "size" (.int k) (kf b w n s)=kf b w n k:=by
 rw[kf_eq,kf_eq,pf_ne n_bs,pf_ne n_ms,pf_ne n_ns,pf_eq]
theorem kf_lt (b:Addr)(w n s:Int):(kf b w n s).length<1000:=by
 rw[kf_eq]
 show 4<1000
 decide
structure TxtK (K:PySem.W.Frag)(mg:Str→Option Value)(C fI fR fD:Addr)(dI dR dD:FuncData):Prop where
 cl:Cls K C
 nB:NoAttr K C "bits"
 nM:NoAttr K C "most"
 nN:NoAttr K C "number"
 nS:NoAttr K C "size"
 mgC:mg "Keeper"=some (.ref C)
 made:Mk K C fI
 m_room:Meth K C "room" fR
 m_draw:Meth K C "draw" fD
 b_init:Binds K dI p_Y5 []
 b_room:Binds K dR p_Y21 []
 b_draw:Binds K dD p_Y33 []
def spInitK (C:Addr):Sp:=fun vs H Q _=>∃(p dx b:Addr)(w:Int),vs=[.ref p,.ref b,.int w]∧H p=some (.ins C dx []) ∧
 ∀H',H' p=some (.ins C dx (kf b w 0 1))→(∀c o,H c=some o→c≠p→H' c=some o)→Q .non H'
def spRoomK (C:Addr):Sp:=fun vs H Q _=>∃(p dx b:Addr)(w n s:Int),vs=[.ref p]∧H p=some (.ins C dx (kf b w n s))∧∀q,H q=none→Q (.ref q) (upd H q (.tup [.int n,.int s]))
def spDrawK (C CK CN : Addr) : Sp:=fun vs H Q E => ∃ (kp dk b dx r : Addr) (bl : List Nat) (z wd n s m : Nat),vs = [.ref kp, .int (m : Int)]∧H kp = some (.ins CK dk (kf b (wd : Int) (n : Int) (s : Int)))∧At C H b dx r bl z∧0 < wd∧wd < 1000000∧0 < m∧m < 1000000 ∧
  (∀ (v n' s' u : Nat) H',kpF m (wd * m) n s (bl.drop z) = some ((v,n',s'),u)→(∀ c o,c≠b→c≠kp→H c = some o→H' c = some o)→At C H' b dx r bl (z + u)→H' kp = some (.ins CK dk (kf b (wd : Int) (n' : Int) (s' : Int)))→Q (.int (v : Int)) H') ∧
  (∀ H',kpF m (wd * m) n s (bl.drop z) = none→Grow b H H'→At C H' b dx r bl z→E (.ref CN) none H')
section
variable {P:Program}{w:World}{K:PySem.W.Frag}{mg:Str→Option Value}{base:Heap}{f C CK fI fR fD CN:Addr}{fd dI dR dD:FuncData}{mN:List Value}
theorem ok_initTK (F_Y5:Fun K "__init__" "Keeper.__init__" s_Y5 f fd)(TK:TxtK K mg CK fI fR fD dI dR dD):FnOk P w K mg base CX0 1 f fd p_Y5 (spInitK CK):=by
 refine F_Y5.ok sc_Y5 (fun vs H Q E h=>?_) (fun cdv A outer s H vs Q E hr h=>?_)
 ·obtain⟨p,dx,b,w,rfl,_⟩:=h
  rfl
 obtain⟨p,dx,b,w,rfl,hp,q⟩:=h
 refine⟨_,(pss_cons (ps_fld (pv 0) (pv 1) rfl)
   (pss_cons (ps_fld (pv 0) (pv 2) rfl)
   (pss_cons (ps_fld (pv 0) pe_int rfl)
   (pss_one (ps_fld (pv 0) pe_int rfl))))),?_⟩
 refine⟨_,rfl,_,rfl,p,CK,dx,[],rfl,hp,TK.cl,TK.nB,(by show 0<1000;decide),?_⟩
 refine⟨_,rfl,_,rfl,p,CK,dx,_,rfl,upd_same,TK.cl,TK.nM,(by show 1<1000;decide),?_⟩
 refine⟨_,rfl,p,CK,dx,_,rfl,upd_same,TK.cl,TK.nN,(by rw[pf_nil,pf_ne n_bm,pf_nil];show 2<1000;decide),?_⟩
 refine⟨_,rfl,p,CK,dx,_,rfl,upd_same,TK.cl,TK.nS,(by rw[pf_nil,pf_ne n_bm,pf_nil,pf_ne n_bn,pf_ne n_mn,pf_nil];show 3<1000;decide),?_⟩
 refine q _ upd_same fun c o e hc=>?_
 rw[upd_ne hc,upd_ne hc,upd_ne hc,upd_ne hc]
 exact e
theorem ok_room (F_Y21:Fun K "room" "Keeper.room" s_Y21 f fd)(TK:TxtK K mg CK fI fR fD dI dR dD):FnOk P w K mg base CX0 1 f fd p_Y21 (spRoomK CK):=by
 refine F_Y21.ok sc_Y21 (fun vs H Q E h=>?_) (fun cdv A outer s H vs Q E hr h=>?_)
 ·obtain⟨p,dx,b,w,n,s,rfl,_⟩:=h
  rfl
 obtain⟨p,dx,b,w,n,s,rfl,hp,q⟩:=h
 refine⟨_,(pss_one (ps_ret (pe_tup (pa_cons (pe_fld (pv 0) rfl) (pa_cons (pe_fld (pv 0) rfl) pa_nil))))),?_⟩
 exact⟨_,rfl,p,CK,dx,_,_,rfl,hp,TK.cl,TK.nN,kf_number _ _ _ _,_,rfl,p,CK,dx,_,_,rfl,hp,TK.cl,TK.nS,kf_size _ _ _ _,(by show 2≤sizeLine;decide),q⟩
theorem ok_draw (F_Y33 : Fun K "draw" "Keeper.draw" s_Y33 f fd) (TK : TxtK K mg CK fI fR fD dI dR dD) {fW fT : Addr} {dW dT : FuncData} (g_Y22 : FnX P w K mg base "drawn_whole" fW dW p_Y22 5 (spDW P w K mg base 4 C CN)) (g_Y8 : FnX P w K mg base "take_with_room" fT dT p_Y8 3 (spRawK C CN)) :
    FnOk P w K mg base (CXR P w) 6 f fd p_Y33 (spDrawK C CK CN):=by
  refine F_Y33.okX sc_Y33 (fun vs H Q E h => ?_) (fun cdv A outer s H vs Q E hr h => ?_)
  · obtain ⟨kp,dk,b,dx,r,bl,z,wd,n,s,m,rfl,_⟩:=h
    rfl
  obtain ⟨kp,dk,b,dx,r,bl,z,wd,n,s,m,rfl,hK,hA,hw,hw2,hm,hm2,q,e⟩:=h
  have hkb : kp≠b:=fun y=>by
    rw [y,hA.obj] at hK
    injection hK with hK
    injection hK with _ _ hK
    rw [flds_eq,kf_eq] at hK
    injection hK with _ hK
    injection hK with _ hK
    cases hK
  refine ⟨_,(pss_cons (ps_set (i:=2) sc_Y33.nd rfl (Or.inl rfl) (pe_tup (pa_cons (pe_fld (pv 0) rfl) (pa_cons (pe_fld (pv 0) rfl) (pa_cons (pe_op op_mul (pe_fld (pv 0) rfl) (pv 1)) (pa_cons (pv 1) pa_nil))))))
      (pss_cons (ps_set (i:=3) sc_Y33.nd rfl (Or.inl rfl) (pe_fnX g_Y22 hr (pa_cons (pe_fld (pv 0) rfl) (pa_cons (pe_glob (v := .ref _) rfl g_Y8.mg rfl) (pa_cons (pv 2) pa_nil)))))
      (pss_cons (ps_fld (pv 0) (pe_ix ix_tup (pv 3) pe_int (fun _ _=>rfl)) rfl)
      (pss_cons (ps_fld (pv 0) (pe_ix ix_tup (pv 3) pe_int (fun _ _=>rfl)) rfl)
      (pss_one (ps_ret (pe_ix ix_tup (pv 3) pe_int (fun _ _=>rfl)))))))), ?_⟩
  -- shape
  refine ⟨_,rfl,kp,CK,dk,_,_,rfl,hK,TK.cl,TK.nN,kf_number _ _ _ _,_,rfl,kp,CK,dk,_,_,rfl,hK,TK.cl,TK.nS,kf_size _ _ _ _,_,rfl,kp,CK,dk,_,_,rfl,hK,TK.cl,TK.nM,kf_most _ _ _ _,_,rfl,_,_,rfl,rfl, .inr ⟨by omega,by omega⟩,_,rfl,(by show 4≤sizeLine; decide),fun p fp => ?_⟩
  have s1:=same_new fp (.tup [V.int (n : Int),V.int (s : Int),V.int ((wd : Int) * (m : Int)),V.int (m : Int)])
  have hp : (upd H p (.tup [V.int (n : Int),V.int (s : Int),V.int ((wd : Int) * (m : Int)),V.int (m : Int)])) p = some (.tup [V.int (n : Int),V.int (s : Int),V.int ((wd * m : Nat) : Int),V.int (m : Int)]):=by
    rw [upd_same,Int.natCast_mul]
  generalize upd H p (.tup [V.int (n : Int),V.int (s : Int),V.int ((wd : Int) * (m : Int)),V.int (m : Int)]) = H1 at s1 hp
  have hK1:=s1 _ _ hK
  have a1:=hA.same s1
  -- drawn
  refine ⟨_,rfl,kp,CK,dk,_,_,rfl,hK1,TK.cl,TK.nB,kf_bits _ _ _ _,_,rfl, ?_⟩
  refine ⟨b,dx,r,fT,bl,z,_,dT,_,3,_,rfl,g_Y8.ok,by decide,g_Y8.kp,g_Y8.bd,a1,fun Ex hE => ?_⟩
  refine ⟨b,dx,r,p,bl,z,n,s,wd * m,m,rfl,a1,hp,hm,Nat.le_mul_of_pos_left m hw,hm2,fun y u p2 H2 h2 g2 a2 hp2 => ?_,fun z' H2 h2 l2 g2 a2=>hE z' H2 l2 a2 fun H3 g3 a3=>e H3 h2 (((Grow.same s1).trans g2).trans g3) a3⟩
  have hK2:=g2 _ _ hkb hK1
  have hp2n : p2≠kp:=fun y=>by rw [y,hK2] at hp2; cases hp2
  -- number,size
  refine ⟨_,rfl,p2,_,_,_,rfl,rfl,SqT.of hp2,rfl,_,rfl,kp,CK,dk,_,rfl,hK2,TK.cl,TK.nN,kf_lt _ _ _ _, ?_⟩
  rw [kf_putN]
  have hp3 : (upd H2 kp (.ins CK dk (kf b (wd : Int) (y.2.1 : Int) (s : Int)))) p2 = some (.tup (three y)):=by rw [upd_ne hp2n]; exact hp2
  refine ⟨_,rfl,p2,_,_,_,rfl,rfl,SqT.of hp3,rfl,_,rfl,kp,CK,dk,_,rfl,upd_same,TK.cl,TK.nS,kf_lt _ _ _ _, ?_⟩
  rw [kf_putS]
  refine ⟨_,rfl,p2,_,_,_,rfl,rfl,SqT.of (by rw [upd_ne hp2n]; exact hp3),rfl, ?_⟩
  have hrk : r≠kp:=fun y=>by
    have:=a2.row
    rw [y,hK2] at this
    cases this
  refine q y.1 y.2.1 y.2.2 u _ h2 (fun c o c1 c2 ec => ?_) ⟨?_, ?_,a2.le⟩ upd_same
  · rw [upd_ne c2,upd_ne c2]
    exact g2 _ _ c1 (s1 _ _ ec)
  · rw [upd_ne (Ne.symm hkb),upd_ne (Ne.symm hkb)]
    exact a2.obj
  · rw [upd_ne hrk,upd_ne hrk]
    exact a2.row
end
theorem n_bt:¬(("bits" : Str) = "things"):=by decide +kernel
theorem n_bc:¬(("bits" : Str) = "came"):=by decide +kernel
theorem n_mt:¬(("most" : Str) = "things"):=by decide +kernel
theorem n_mc:¬(("most" : Str) = "came"):=by decide +kernel
theorem n_tc:¬(("things" : Str) = "came"):=by decide +kernel
noncomputable def ef (b:Addr)(w:Int)(l:Addr)(c:Int):List (Str×V):=putF "came" (.int c) (putF "things" (.ref l) (putF "most" (.int w) (putF "bits" (.ref b) [])))
theorem ef_eq (b:Addr)(w:Int)(l:Addr)(c:Int):ef b w l c=([("bits",V.ref b),("most",V.int w),("things",V.ref l),("came",V.int c)]:List (Str×V)):=by
 unfold ef
 rw[pf_nil,pf_ne n_bm,pf_nil,pf_ne n_bt,pf_ne n_mt,pf_nil,pf_ne n_bc,pf_ne n_mc,pf_ne n_tc,pf_nil]
theorem ef_bits (b:Addr)(w:Int)(l:Addr)(c:Int):(ef b w l c).lookup ("bits" : Str)=some (.ref b):=by
 unfold ef
 rw[lookup_putF,if_neg n_bc,lookup_putF,if_neg n_bt,lookup_putF,if_neg n_bm,lookup_putF,if_pos rfl]
theorem ef_most (b:Addr)(w:Int)(l:Addr)(c:Int):(ef b w l c).lookup ("most" : Str)=some (.int w):=by
 unfold ef
 rw[lookup_putF,if_neg n_mc,lookup_putF,if_neg n_mt,lookup_putF,if_pos rfl]
theorem ef_things (b:Addr)(w:Int)(l:Addr)(c:Int):(ef b w l c).lookup ("things" : Str)=some (.ref l):=by
 unfold ef
 rw[lookup_putF,if_neg n_tc,lookup_putF,if_pos rfl]
theorem ef_came (b:Addr)(w:Int)(l:Addr)(c:Int):(ef b w l c).lookup ("came" : Str)=some (.int c):=by
 unfold ef
 rw[lookup_putF,if_pos rfl]
theorem ef_no (b:Addr)(w:Int)(l:Addr)(c:Int){m:Str}(h1:¬m = "bits")(h2:¬m = "most")(h3:¬m = "things")(h4:¬m = "came"):(ef b w l c).lookup m=none:=by
 unfold ef
 rw[lookup_putF,if_neg h4,lookup_putF,if_neg h3,lookup_putF,if_neg h2,lookup_putF,if_neg h1]
 all_goals rfl
theorem ef_putC (b:Addr)(w:Int)(l:Addr)(c k:Int):putF "came" (.int k) (ef b w l c)=ef b w l k:=by
 rw[ef_eq,ef_eq,pf_ne n_bc,pf_ne n_mc,pf_ne n_tc,pf_eq]
theorem ef_lt (b:Addr)(w:Int)(l:Addr)(c:Int):(ef b w l c).length<1000:=by
 rw[ef_eq]
 show 4<1000
 decide
structure TxtE (K:PySem.W.Frag)(mg:Str→Option Value)(C fI fT fK fM:Addr)(dI dT dK dM:FuncData):Prop where
 cl:Cls K C
 nB:NoAttr K C "bits"
 nM:NoAttr K C "most"
 nT:NoAttr K C "things"
 nC:NoAttr K C "came"
 mgC:mg "Kept"=some (.ref C)
 made:Mk K C fI
 m_tell:Meth K C "tell" fT
 m_kept:Meth K C "kept" fK
 m_many:Meth K C "many" fM
 b_init:Binds K dI p_Y9 []
 b_tell:Binds K dT p_Y53 []
 b_kept:Binds K dK p_Y49 []
 b_many:Binds K dM p_Y50 []
noncomputable def tellP (w c:Nat)(xs:List V)(x:V)(bs:List Nat):Option (V×List V×Nat) :=
 if c<w then some (.non,xs++[x],0)else
  match evF (c+1) bs with
  | none=>none
  | some (p,u)=>if w≤p then some (x,xs,u)else some (xs.getD p .non,xs.set p x,u)
structure KAt (CE:Addr)(H:Hp)(ke dk b l:Addr)(w c:Nat)(xs:List V):Prop where
 obj:H ke=some (.ins CE dk (ef b (w:Int) l (c:Int)))
 lst:H l=some (.lst xs)
 len:xs.length=min w c
def spInitE (C:Addr):Sp:=fun vs H Q _=>∃(p dx b:Addr)(w:Int),vs=[.ref p,.ref b,.int w]∧H p=some (.ins C dx []) ∧
 ∀l H',H l=none→H' p=some (.ins C dx (ef b w l 0))→H' l=some (.lst [])→(∀c o,H c=some o→c≠p→H' c=some o)→Q .non H'
def spKeptE (C:Addr):Sp:=fun vs H Q _=>∃(ke dk b l:Addr)(w c:Nat)(xs:List V),vs=[.ref ke]∧KAt C H ke dk b l w c xs∧∀q,H q=none→Q (.ref q) (upd H q (.tup xs))
def spManyE (C:Addr):Sp:=fun vs H Q _=>∃(ke dk b l:Addr)(w c:Nat)(xs:List V),vs=[.ref ke]∧KAt C H ke dk b l w c xs∧Q (.int (c:Int)) H
def spTellE (C CE CN:Addr):Sp:=fun vs H Q E=>∃(ke dk b dx r l:Addr)(bl:List Nat)(z w c:Nat)(xs:List V)(x:V),vs=[.ref ke,x]∧KAt CE H ke dk b l w c xs∧At C H b dx r bl z∧w<1000∧c<1000 ∧
 (∀v xs' u H',tellP w c xs x (bl.drop z)=some (v,xs',u)→(∀a o,a≠b→a≠ke→a≠l→H a=some o→H' a=some o)→At C H' b dx r bl (z+u)→KAt CE H' ke dk b l w (c+1) xs'→Q v H') ∧
 (∀H',tellP w c xs x (bl.drop z)=none→Grow b H H'→At C H' b dx r bl z→E (.ref CN) none H')
section
variable {P:Program}{w:World}{K:PySem.W.Frag}{mg:Str→Option Value}{base:Heap}{f C CE fI fT fK fM CN:Addr}{fd dI dT dK dM:FuncData}{mN:List Value}
theorem ok_initTE (F_Y9:Fun K "__init__" "Kept.__init__" s_Y9 f fd)(TE:TxtE K mg CE fI fT fK fM dI dT dK dM):FnOk P w K mg base CX0 1 f fd p_Y9 (spInitE CE):=by
 refine F_Y9.ok sc_Y9 (fun vs H Q E h=>?_) (fun cdv A outer s H vs Q E hr h=>?_)
 ·obtain⟨p,dx,b,w,rfl,_⟩:=h
  rfl
 obtain⟨p,dx,b,w,rfl,hp,q⟩:=h
 refine⟨_,(pss_cons (ps_fld (pv 0) (pv 1) rfl)
   (pss_cons (ps_fld (pv 0) (pv 2) rfl)
   (pss_cons (ps_fld (pv 0) (pe_lst pa_nil) rfl)
   (pss_one (ps_fld (pv 0) pe_int rfl))))),?_⟩
 refine⟨_,rfl,_,rfl,p,CE,dx,[],rfl,hp,TE.cl,TE.nB,(by show 0<1000;decide),?_⟩
 refine⟨_,rfl,_,rfl,p,CE,dx,_,rfl,upd_same,TE.cl,TE.nM,(by show 1<1000;decide),?_⟩
 refine⟨(by show 0≤sizeLine;decide),fun l fl=>?_⟩
 have hlp:p≠l:=fun y=>by rw[←y,upd_same]at fl;cases fl
 refine⟨_,rfl,p,CE,dx,_,rfl,(by rw[upd_ne hlp];exact upd_same),TE.cl,TE.nT,(by rw[pf_nil,pf_ne n_bm,pf_nil];show 2<1000;decide),?_⟩
 refine⟨_,rfl,p,CE,dx,_,rfl,upd_same,TE.cl,TE.nC,(by rw[pf_nil,pf_ne n_bm,pf_nil,pf_ne n_bt,pf_ne n_mt,pf_nil];show 3<1000;decide),?_⟩
 have fl0:H l=none:=by
  rw[upd_ne (Ne.symm hlp),upd_ne (Ne.symm hlp)]at fl
  exact fl
 refine q l _ fl0 upd_same ?_ fun c o e hc=>?_
 ·rw[upd_ne (Ne.symm hlp),upd_ne (Ne.symm hlp),upd_same]
 ·rw[upd_ne hc,upd_ne hc,upd_ne (ne_of_none e fl0),upd_ne hc,upd_ne hc]
  exact e
theorem ok_kept (F_Y49:Fun K "kept" "Kept.kept" s_Y49 f fd)(B:Bl mg)(TE:TxtE K mg CE fI fT fK fM dI dT dK dM):FnOk P w K mg base CX0 1 f fd p_Y49 (spKeptE CE):=by
 refine F_Y49.ok sc_Y49 (fun vs H Q E h=>?_) (fun cdv A outer s H vs Q E hr h=>?_)
 ·obtain⟨ke,dk,b,l,w,c,xs,rfl,_⟩:=h
  rfl
 obtain⟨ke,dk,b,l,w,c,xs,rfl,hK,q⟩:=h
 refine⟨_,(pss_one (ps_ret (pe_callTy call_tuple_of rfl B.tuple_ L3.bt_tuple (pa_cons (pe_fld (pv 0) rfl) pa_nil)))),?_⟩
 exact⟨_,rfl,ke,CE,dk,_,_,rfl,hK.obj,TE.cl,TE.nT,ef_things _ _ _ _,l,_,rfl,.inl ⟨SqL.of hK.lst,q⟩⟩
theorem ok_many (F_Y50:Fun K "many" "Kept.many" s_Y50 f fd)(TE:TxtE K mg CE fI fT fK fM dI dT dK dM):FnOk P w K mg base CX0 1 f fd p_Y50 (spManyE CE):=by
 refine F_Y50.ok sc_Y50 (fun vs H Q E h=>?_) (fun cdv A outer s H vs Q E hr h=>?_)
 ·obtain⟨ke,dk,b,l,w,c,xs,rfl,_⟩:=h
  rfl
 obtain⟨ke,dk,b,l,w,c,xs,rfl,hK,q⟩:=h
 refine⟨_,(pss_one (ps_ret (pe_fld (pv 0) rfl))),?_⟩
 exact⟨_,rfl,ke,CE,dk,_,_,rfl,hK.obj,TE.cl,TE.nC,ef_came _ _ _ _,q⟩
theorem ok_tell (F_Y53:Fun K "tell" "Kept.tell" s_Y53 f fd)(TE:TxtE K mg CE fI fT fK fM dI dT dK dM){fV:Addr}{dV:FuncData}(g_Y77:FnX P w K mg base "even" fV dV p_Y77 6 (spDone C CN ShN evV)) :
  FnOk P w K mg base (CXR P w) 7 f fd p_Y53 (spTellE C CE CN):=by
 refine F_Y53.okX sc_Y53 (fun vs H Q E h=>?_) (fun cdv A outer s H vs Q E hr h=>?_)
 ·obtain⟨ke,dk,b,dx,r,l,bl,z,w,c,xs,x,rfl,_⟩:=h
  rfl
 obtain⟨ke,dk,b,dx,r,l,bl,z,w,c,xs,x,rfl,hK,hA,hw,hc,q,e⟩:=h
 have hkb:ke≠b:=fun y=>by
  have h1:=hK.obj
  rw[y,hA.obj]at h1
  injection h1 with h1
  injection h1 with _ _ h1
  rw[flds_eq,ef_eq]at h1
  injection h1 with _ h1
  injection h1 with _ h1
  cases h1
 have hkl:ke≠l:=fun y=>by
  have h1:=hK.obj
  rw[y,hK.lst]at h1
  cases h1
 have hlb:l≠b:=fun y=>by
  have h1:=hK.lst
  rw[y,hA.obj]at h1
  cases h1
 have hrk:r≠ke:=fun y=>by
  have h1:=hA.row
  rw[y,hK.obj]at h1
  cases h1
 have hrl:r≠l:=fun y=>by
  have h1:=hA.row
  rw[y,hK.lst]at h1
  cases h1
 have hxl:=hK.len
 refine⟨_,(pss_cons (ps_if (pt_cmpR op_lt (pe_fld (pv 0) rfl) (pe_fld (pv 0) rfl) (nomark _)) (pss_cons (ps_fld (pv 0) (pe_op op_add (pe_fld (pv 0) rfl) pe_int) rfl)
   (pss_cons (ps_expr (pe_bm PySem.F.plainAttrs_list PySem.F.slot_list_append PySem.F.type_list_append mt_append (pe_fld (pv 0) rfl) (pa_cons (pv 1) pa_nil)))
   (pss_one (ps_ret pe_non)))) pss_nil)
   (pss_cons (ps_set (i:=2) sc_Y53.nd rfl (Or.inl rfl) (pe_fnX g_Y77 hr (pa_cons (pe_fld (pv 0) rfl) (pa_cons (pe_op op_add (pe_fld (pv 0) rfl) pe_int) pa_nil))))
   (pss_cons (ps_fld (pv 0) (pe_op op_add (pe_fld (pv 0) rfl) pe_int) rfl)
   (pss_cons (ps_if (pt_cmpR op_ge (pv 2) (pe_fld (pv 0) rfl) (nomark _)) (pss_one (ps_ret (pv 1))) pss_nil)
   (pss_cons (ps_set (i:=3) sc_Y53.nd rfl (Or.inl rfl) (pe_ix ix_list (pe_fld (pv 0) rfl) (pv 2) (fun _ _=>rfl)))
   (pss_cons (ps_asg (pv 1) (pg_sub (pe_fld (pv 0) rfl) (pv 2) set_list))
   (pss_one (ps_ret (pv 3))))))))),?_⟩
 refine⟨_,rfl,ke,CE,dk,_,_,rfl,hK.obj,TE.cl,TE.nC,ef_came _ _ _ _,_,rfl,ke,CE,dk,_,_,rfl,hK.obj,TE.cl,TE.nM,ef_most _ _ _ _,_,_,rfl,rfl,_,rfl,ite2 (fun d=>?_) (fun d=>?_)⟩
 ·have d':(c:Int)<(w:Int):=of_decide_eq_true d
  have hlt:c<w:=by omega
  refine⟨_,rfl,ke,CE,dk,_,_,rfl,hK.obj,TE.cl,TE.nC,ef_came _ _ _ _,_,_,rfl,rfl,_,rfl,ke,CE,dk,_,rfl,hK.obj,TE.cl,TE.nC,ef_lt _ _ _ _,?_⟩
  rw[ef_putC]
  have hl1:(upd H ke (.ins CE dk (ef b (w:Int) l ((c:Int)+1)))) l=some (.lst xs):=by rw[upd_ne (Ne.symm hkl)];exact hK.lst
  refine⟨_,rfl,ke,CE,dk,_,_,rfl,upd_same,TE.cl,TE.nT,ef_things _ _ _ _,.inl ⟨rfl,_,SqL.of hl1⟩,_,rfl,l,_,_,rfl,rfl,hl1,smallL (by omega),?_⟩
  refine q .non (xs++[x]) 0 _ (by unfold tellP;rw[if_pos hlt]) (fun a o n1 n2 n3 ea=>?_) ⟨?_,?_,hA.le⟩ ⟨?_,upd_same,?_⟩
  ·rw[upd_ne n3,upd_ne n2];exact ea
  ·rw[upd_ne (Ne.symm hlb),upd_ne (Ne.symm hkb)];exact hA.obj
  ·rw[upd_ne hrl,upd_ne hrk];exact hA.row
  ·rw[upd_ne hkl];exact upd_same
  ·rw[List.length_append,hxl]
   show min w c+1=_
   omega
 ·have d':¬(c:Int)<(w:Int):=of_decide_eq_false (Bool.eq_false_iff.mpr d)
  have hge:¬c<w:=by omega
  refine⟨_,rfl,ke,CE,dk,_,_,rfl,hK.obj,TE.cl,TE.nB,ef_bits _ _ _ _,_,rfl,ke,CE,dk,_,_,rfl,hK.obj,TE.cl,TE.nC,ef_came _ _ _ _,_,_,rfl,rfl,?_⟩
  refine⟨b,dx,r,bl,z,_,c+1,rfl,hA,⟨rfl,by omega⟩,fun v u H1 h1 g1 a1=>?_,fun H1 h1 g1 a1=>?_⟩
  ·obtain⟨p,hp,rfl⟩:∃p:Nat,evF (c+1) (bl.drop z)=some (p,u)∧v=.int (p:Int):=by
    unfold evV at h1
    cases e1:evF (c+1) (bl.drop z)with
    | none=>rw[e1]at h1;cases h1
    | some y =>
     rw[e1]at h1
     obtain⟨y1,y2⟩:=y
     cases h1
     exact⟨y1,rfl,rfl⟩
   have hK1:=g1 _ _ hkb hK.obj
   have hL1:=g1 _ _ hlb hK.lst
   refine⟨_,rfl,ke,CE,dk,_,_,rfl,hK1,TE.cl,TE.nC,ef_came _ _ _ _,_,_,rfl,rfl,_,rfl,ke,CE,dk,_,rfl,hK1,TE.cl,TE.nC,ef_lt _ _ _ _,?_⟩
   rw[ef_putC]
   have hl2:(upd H1 ke (.ins CE dk (ef b (w:Int) l ((c:Int)+1)))) l=some (.lst xs):=by rw[upd_ne (Ne.symm hkl)];exact hL1
   have hk2:(upd H1 ke (.ins CE dk (ef b (w:Int) l ((c:Int)+1)))) ke=some (.ins CE dk (ef b (w:Int) l ((c:Int)+1))):=upd_same
   have a2:At C (upd H1 ke (.ins CE dk (ef b (w:Int) l ((c:Int)+1)))) b dx r bl (z+u):=⟨by rw[upd_ne (Ne.symm hkb)];exact a1.obj,by rw[upd_ne hrk];exact a1.row,a1.le⟩
   have kp2:∀a o,a≠b→a≠ke→H a=some o→(upd H1 ke (.ins CE dk (ef b (w:Int) l ((c:Int)+1)))) a=some o:=fun a o n1 n2 ea=>by rw[upd_ne n2];exact g1 _ _ n1 ea
   generalize upd H1 ke (.ins CE dk (ef b (w:Int) l ((c:Int)+1)))=H2 at hl2 hk2 a2 kp2 ⊢
   refine⟨_,rfl,_,rfl,ke,CE,dk,_,_,rfl,hk2,TE.cl,TE.nM,ef_most _ _ _ _,_,_,rfl,rfl,_,rfl,ite2 (fun d2=>?_) (fun d2=>?_)⟩
   ·have d3:(p:Int)≥(w:Int):=of_decide_eq_true d2
    have hpw:w≤p:=by omega
    refine⟨_,rfl,q x xs u H2 (by unfold tellP;rw[if_neg hge,hp];dsimp only;rw[if_pos hpw]) (fun a o n1 n2 n3 ea=>kp2 a o n1 n2 ea) a2 ⟨hk2,hl2,by omega⟩⟩
   ·have d3:¬(p:Int)≥(w:Int):=of_decide_eq_false (Bool.eq_false_iff.mpr d2)
    have hpw:p<xs.length:=by omega
    have hx:=List.getElem?_eq_getElem hpw
    refine⟨_,rfl,ke,CE,dk,_,_,rfl,hk2,TE.cl,TE.nT,ef_things _ _ _ _,_,rfl,l,_,_,_,rfl,rfl,SqL.of hl2,atI_nat hx,?_⟩
    have hix:ixN xs.length (p:Int)=some p:=by
     unfold ixN
     simp
     omega
    refine⟨_,rfl,_,rfl,ke,CE,dk,_,_,rfl,hk2,TE.cl,TE.nT,ef_things _ _ _ _,_,rfl,l,_,_,p,rfl,rfl,hl2,hix,?_⟩
    refine⟨_,rfl,q (xs[p]) (xs.set p x) u _ ?_ (fun a o n1 n2 n3 ea=>?_) ⟨?_,?_,a2.le⟩ ⟨?_,upd_same,?_⟩⟩
    ·unfold tellP
     rw[if_neg hge,hp]
     dsimp only
     rw[if_neg (show ¬w≤p by omega),List.getD_eq_getElem?_getD,hx]
     rfl
    ·rw[upd_ne n3];exact kp2 a o n1 n2 ea
    ·rw[upd_ne (Ne.symm hlb)];exact a2.obj
    ·rw[upd_ne hrl];exact a2.row
    ·rw[upd_ne hkl];exact hk2
    ·rw[List.length_set];omega
  ·refine e H1 ?_ g1 a1
   unfold tellP
   rw[if_neg hge]
   unfold evV at h1
   cases e1:evF (c+1) (bl.drop z)with
   | none=>rfl
   | some y=>rw[e1]at h1;cases h1
end
theorem psW_if {X:Cx}{c:Expr}{b o:List Stmt}{tt:TT}{tb to:TS}{pos:Pos}(hc:PT X c tt)(hb:PSsW X b tb)(ho:PSsW X o to):PSW X (.If c b o pos) (tIfS tt tb to):=⟨ps_if hc hb.go ho.go⟩
theorem pssW_one {X:Cx}{st:Stmt}{t:TS}(h:PSW X st t):PSsW X [st] t:=⟨pss_one h.go⟩
theorem psW_expr {X:Cx}{e:Expr}{t:TE}{pos:Pos}(h:PEW X e t)(hs:swapsWith e none pos.line X.env=pure false:=by rfl):PSW X (.Expr e pos) (tDrop t):=⟨ps_expr h.go hs⟩
section
variable {P:Program}{w:World}{K:PySem.W.Frag}{mg:Str→Option Value}{base:Heap}{N:List Str}{qual:Str}{scope:Scope}{f':Addr}{cd:Value}{A:Around}{outer:List Env}{s₀:Shared}{H₀:Hp}{E:XK}
 {x:Str}{f:Addr}{fd:FuncData}{ps:List Str}{k k':Nat}{sp:Sp}{e:Expr}{es:List Expr}{t:TA}{p pos:Pos}
theorem peW_fnX (F:FnX P w K mg base x f fd ps k sp)(hr:Room k' (cxOf (CXR P w) P w K mg base N qual scope f' cd A outer s₀ H₀ E).A)(ha:PB (cxOf (CXR P w) P w K mg base N qual scope f' cd A outer s₀ H₀ E) (e::es) t)(hk:k≤k':=by first|decide|exact Nat.le_refl _)(hg:Gl (cxOf (CXR P w) P w K mg base N qual scope f' cd A outer s₀ H₀ E) x:=by rfl)(hdb:(x==("__debug__" : Str))=false:=by decide)
  (he:starEach (e::es) (PyProof.Rows.envOfC qual scope s₀.heap.objs.size f' cd)=(false,eval e (PyProof.Rows.envOfC qual scope s₀.heap.objs.size f' cd))::starEach es (PyProof.Rows.envOfC qual scope s₀.heap.objs.size f' cd):=by rfl)(hpl:(backTo pos (starEach es (PyProof.Rows.envOfC qual scope s₀.heap.objs.size f' cd))).any (·.1)=false:=by rfl) :
  PEW (cxOf (CXR P w) P w K mg base N qual scope f' cd A outer s₀ H₀ E) (.Call (.Name x p) (e::es) [] pos) (tCall sp [] E t):=⟨pe_fnX F hr ha.go hk hg hdb he hpl⟩
end
structure W39 (C CK CE:Addr)(H:Hp)(b dx r kp dk ke dke be dxe re l:Addr)(bl:List Nat)(z no:Nat):Prop where
 bits:At C H b dx r bl z
 two:bl.drop z=[1,1]
 bin:∀y∈bl,y≤1
 keep:H kp=some (.ins CK dk (kf b ((no+1:Nat):Int) 0 1))
 kept:KAt CE H ke dke be l 2 2 [.str "a",.str "b"]
 eb:At C H be dxe re [] 0
 n1:kp≠b
 n2:kp≠be
 n3:ke≠b
 n4:ke≠be
theorem W39.keeps {C CK CE:Addr}{H H':Hp}{b dx r kp dk ke dke be dxe re l:Addr}{bl:List Nat}{z no:Nat}(h:W39 C CK CE H b dx r kp dk ke dke be dxe re l bl z no)(k:∀c o,c≠b→c≠be→H c=some o→H' c=some o)(a:At C H' b dx r bl z)(e:At C H' be dxe re [] 0):W39 C CK CE H' b dx r kp dk ke dke be dxe re l bl z no:=by
 have nl:∀{c:Addr}{dx:Addr}{fs:List (Str×V)},H c=some (.ins C dx fs)→l≠c:=fun {c dx fs} e y=>by rw[←y,h.kept.lst]at e;cases e
 exact⟨a,h.two,h.bin,k _ _ h.n1 h.n2 h.keep,⟨k _ _ h.n3 h.n4 h.kept.obj,k _ _ (nl h.bits.obj) (nl h.eb.obj) h.kept.lst,h.kept.len⟩,e,h.n1,h.n2,h.n3,h.n4⟩
theorem W39.same {C CK CE:Addr}{H H':Hp}{b dx r kp dk ke dke be dxe re l:Addr}{bl:List Nat}{z no:Nat}(h:W39 C CK CE H b dx r kp dk ke dke be dxe re l bl z no)(s:Same H H'):W39 C CK CE H' b dx r kp dk ke dke be dxe re l bl z no:=h.keeps (fun c o _ _ e=>s c o e) (h.bits.same s) (h.eb.same s)
def Oth (b be:Addr)(H H':Hp):Prop:=∀c o,c≠b→c≠be→H c=some o→H' c=some o
theorem Oth.same {b be:Addr}{H H':Hp}(s:Same H H'):Oth b be H H':=fun c o _ _ e=>s c o e
theorem Oth.trans {b be:Addr}{H H1 H2:Hp}(a:Oth b be H H1)(c:Oth b be H1 H2):Oth b be H H2:=fun x o n1 n2 e=>c x o n1 n2 (a x o n1 n2 e)
theorem Oth.refl (b be:Addr)(H:Hp):Oth b be H H:=fun _ _ _ _ e=>e
theorem W39.drawn {C CK CE:Addr}{H H':Hp}{b dx r kp dk ke dke be dxe re l:Addr}{bl:List Nat}{z no:Nat}(h:W39 C CK CE H b dx r kp dk ke dke be dxe re l bl z no)(hn:be≠b)(g:Grow b H H')(a:At C H' b dx r bl z):W39 C CK CE H' b dx r kp dk ke dke be dxe re l bl z no∧Oth b be H H' :=
 ⟨h.keeps (fun c o n _ e=>g c o n e) a (h.eb.grow g hn (fun y=>by have:=h.eb.row;rw[y,h.bits.obj]at this;cases this)),fun c o n _ e=>g c o n e⟩
noncomputable def pl39:Pn:=.ask (.ask (.ask (.num 1) (.num 2)) .again) .again
noncomputable def Mac1:Mac:=⟨[(some 0,some 0)],[0]⟩
noncomputable def Mac2:Mac:=⟨[(some 0,none),(some 1,some 1)],[1]⟩
theorem mac1_ok:MacOk Mac1:=by
 refine⟨by decide,by decide,fun s b t h=>?_,fun e h=>?_,by decide⟩
 ·unfold Mac.stp Mac1 at h
  cases s with
  | zero=>split at h<;>(cases h;decide)
  | succ s=>split at h<;>cases h
 ·have h:e∈[0]:=h
  have:e=0:=by simpa using h
  rw[this];decide
theorem mac2_ok:MacOk Mac2:=by
 refine⟨by decide,by decide,fun s b t h=>?_,fun e h=>?_,by decide⟩
 ·unfold Mac.stp Mac2 at h
  match s with
  | 0=>split at h<;>(cases h;try decide)
  | 1=>split at h<;>(cases h;decide)
  | s+2=>split at h<;>cases h
 ·have h:e∈[1]:=h
  have:e=1:=by simpa using h
  rw[this];decide
theorem kp_none {no:Nat}(h:no<9):kpF 6 ((no+1)*6) 0 1 [1,1]=none:=by
 have:(List.range 9).all (fun no=>(kpF 6 ((no+1)*6) 0 1 [1,1]).isNone)=true:=by decide +kernel
 exact Option.isNone_iff_eq_none.mp (List.all_eq_true.mp this no (List.mem_range.mpr h))
def spBl (C CK CE CB:Addr):Sp:=fun vs H Q E=>∃(b dx r kp dk ke dke be dxe re l:Addr)(bl:List Nat)(z no k:Nat),vs=[.int (k:Int),.ref b,.ref kp,.ref ke]∧W39 C CK CE H b dx r kp dk ke dke be dxe re l bl z no∧be≠b∧no<9 ∧
 ((k<15∧∀H',W39 C CK CE H' b dx r kp dk ke dke be dxe re l bl z no→Oth b be H H'→E (.ref CB) none H')∨(k=15∧∀H',Grow b H H'→E (.ref CB) none H'))
section
variable {P:Program}{w:World}{K:PySem.W.Frag}{mg:Str→Option Value}{base:Heap}{f C CK CE CB CS CP:Addr}{fd:FuncData}
 {fI fT fU fL fG:Addr}{dI dT dU dL dG:FuncData}{kI kR kD:Addr}{jI jR jD:FuncData}{eI eT eK eM:Addr}{lI lT lK lM:FuncData}
 {a1 a2 a3 a4 a5 a6 a7 a8 a9 a10 a11 a12 a13:Addr}{d1 d2 d3 d4 d5 d6 d7 d8 d9 d10 d11 d12 d13:FuncData}
theorem ok_Y20 (F_Y20:Fun K "_law_bitless" "_law_bitless" s_Y20 f fd)(B:Bl mg)(T:Txt K mg C fI fT fU fL fG dI dT dU dL dG)(TK:TxtK K mg CK kI kR kD jI jR jD)(TE:TxtE K mg CE eI eT eK eM lI lT lK lM)
  (g_take:FnOk P w K mg base (CXR P w) 2 fT dT p_Y51 (spTakeB C CB))(g_draw:FnOk P w K mg base (CXR P w) 6 kD jD p_Y33 (spDrawK C CK CB))(g_tell:FnOk P w K mg base (CXR P w) 7 eT lT p_Y53 (spTellE C CE CB))
  (g_Y77:FnX P w K mg base "even" a1 d1 p_Y77 6 (spDone C CB ShN evV))(g_Y23:FnX P w K mg base "simple_even" a2 d2 p_Y23 6 (spDone C CB ShS siV))(g_Y81:FnX P w K mg base "pick" a3 d3 p_Y81 6 (spDone C CB ShW pkV))(g_Y76:FnX P w K mg base "coin" a4 d4 p_Y76 7 (spCoinN C CB))
  (g_Y64:FnX P w K mg base "by_plan" a5 d5 p_Y64 15 (spByP C CB CS wkV))(g_Y57:FnX P w K mg base "by_table" a6 d6 p_Y57 7 (spTabN C CB))(g_Y58:FnX P w K mg base "shuffled" a7 d7 p_Y58 10 (spDoneN C CB ShSh))(g_Y72:FnX P w K mg base "order" a8 d8 p_Y72 7 (spOrdN C CB))
  (g_Y70:FnX P w K mg base "choice_orders" a9 d9 p_Y70 7 (spChN C CB CP))(g_Y75:FnX P w K mg base "tree" a10 d10 p_Y75 7 (spTreeN C CB))(g_Y74:FnX P w K mg base "grow" a11 d11 p_Y74 10 (spDoneN C CB ShGr))(g_Y34:FnX P w K mg base "order_under" a12 d12 p_Y34 10 (spDoneN C CB ShOu))(g_Y78:FnX P w K mg base "word" a13 d13 p_Y78 7 (spWordN C CB CS)) :
  FnOk P w K mg base (CXR P w) 16 f fd p_Y20 (spBl C CK CE CB):=by
 refine F_Y20.okX sc_Y20 (fun vs H Q E h=>?_) (fun cdv A outer s H vs Q E hr h=>?_)
 ·obtain⟨b,dx,r,kp,dk,ke,dke,be,dxe,re,l,bl,z,no,k,rfl,_⟩:=h
  rfl
 obtain⟨b,dx,r,kp,dk,ke,dke,be,dxe,re,l,bl,z,no,k,rfl,hW,hbe,hno,h⟩:=h
 refine⟨_,(pss_one (PSW.go (psW_if (pt_cmpR op_eq (pv 0) pe_int (nomark _)) (PSsW.mk (pss_one (ps_expr (pe_fnX g_Y77 hr (pa_cons (pv 1) (pa_cons pe_int pa_nil)))))) (pssW_one (psW_if (pt_cmpR op_eq (pv 0) pe_int (nomark _)) (PSsW.mk (pss_one (ps_expr (pe_fnX g_Y23 hr (pa_cons (pv 1) (pa_cons pe_int pa_nil)))))) (pssW_one (psW_if (pt_cmpR op_eq (pv 0) pe_int (nomark _)) (PSsW.mk (pss_one (ps_expr (pe_fnX g_Y81 hr (PB.go (pb_cons (pv 1) (pb_cons (pe_tup (pa_cons pe_int (pa_cons pe_int (pa_cons pe_int (pa_cons pe_int pa_nil))))) pb_nil se_Tuple) se_Name)))))) (pssW_one (psW_if (pt_cmpR op_eq (pv 0) pe_int (nomark _)) (PSsW.mk (pss_one (ps_expr (pe_fnX g_Y76 hr (pa_cons (pv 1) (pa_cons pe_int (pa_cons pe_int pa_nil))))))) (pssW_one (psW_if (pt_cmpR op_eq (pv 0) pe_int (nomark _)) (pssW_one (psW_expr (peW_fnX g_Y64 hr (pb_cons (pv 1) (pbW (peW (pbW (PEW.mk pe_str) (pbW (peW (pbW (PEW.mk pe_str) (pbW (peW (pbW (PEW.mk pe_str) (pbW (peW (pbW (PEW.mk pe_str) (pbW (PEW.mk pe_int) pb_nil se_Constant) se_Constant)) (pbW (peW (pbW (PEW.mk pe_str) (pbW (PEW.mk pe_int) pb_nil se_Constant) se_Constant)) pb_nil se_Tuple) se_Tuple) se_Constant)) (pbW (peW (pbW (PEW.mk pe_str) pb_nil se_Constant)) pb_nil se_Tuple) se_Tuple) se_Constant)) (pbW (peW (pbW (PEW.mk pe_str) pb_nil se_Constant)) pb_nil se_Tuple) se_Tuple) se_Constant)) pb_nil se_Tuple) se_Name)))) (pssW_one (psW_if (pt_cmpR op_eq (pv 0) pe_int (nomark _)) (pssW_one (psW_expr (peW_fnX g_Y57 hr (pb_cons (pv 1) (pbW (peW (pbW (peW (pbW (PEW.mk pe_int) (pbW (PEW.mk pe_int) pb_nil se_Constant) se_Constant)) (pbW (peW (pbW (PEW.mk pe_int) (pbW (PEW.mk pe_int) pb_nil se_Constant) se_Constant)) pb_nil se_Tuple) se_Tuple)) (pb_cons pe_int pb_nil se_Constant) se_Tuple) se_Name)))) (pssW_one (psW_if (pt_cmpR op_eq (pv 0) pe_int (nomark _)) (PSsW.mk (pss_one (ps_expr (pe_fnX g_Y58 hr (PB.go (pb_cons (pv 1) (pb_cons (pe_tup (pa_cons pe_int (pa_cons pe_int (pa_cons pe_int (pa_cons pe_int pa_nil))))) pb_nil se_Tuple) se_Name)))))) (pssW_one (psW_if (pt_cmpR op_eq (pv 0) pe_int (nomark _)) (PSsW.mk (pss_one (ps_expr (pe_fnX g_Y72 hr (pa_cons (pv 1) (pa_cons pe_int pa_nil)))))) (pssW_one (psW_if (pt_cmpR op_eq (pv 0) pe_int (nomark _)) (PSsW.mk (pss_one (ps_expr (pe_fnX g_Y70 hr (pa_cons (pv 1) (pa_cons pe_int (pa_cons pe_int pa_nil))))))) (pssW_one (psW_if (pt_cmpR op_eq (pv 0) pe_int (nomark _)) (PSsW.mk (pss_one (ps_expr (pe_fnX g_Y75 hr (pa_cons (pv 1) (pa_cons pe_int pa_nil)))))) (pssW_one (psW_if (pt_cmpR op_eq (pv 0) pe_int (nomark _)) (PSsW.mk (pss_one (ps_expr (pe_fnX g_Y74 hr (pa_cons (pv 1) (pa_cons pe_int pa_nil)))))) (pssW_one (psW_if (pt_cmpR op_eq (pv 0) pe_int (nomark _)) (pssW_one (psW_expr (peW_fnX g_Y34 hr (pb_cons (pv 1) (pbW (peW (pbW (PEW.mk pe_non) (pbW (PEW.mk pe_non) (pbW (PEW.mk pe_int) (pbW (PEW.mk pe_int) (pbW (PEW.mk pe_non) pb_nil se_Constant) se_Constant) se_Constant) se_Constant) se_Constant)) pb_nil se_Tuple) se_Name)))) (pssW_one (psW_if (pt_cmpR op_eq (pv 0) pe_int (nomark _)) (pssW_one (psW_expr (peW_fnX g_Y78 hr (pb_cons (pv 1) (pbW (peW (pbW (peW (pbW (peW (pbW (PEW.mk pe_int) (pbW (PEW.mk pe_int) pb_nil se_Constant) se_Constant)) pb_nil se_Tuple)) (pbW (peW (pbW (PEW.mk pe_int) pb_nil se_Constant)) pb_nil se_Tuple) se_Tuple)) (pb_cons pe_int pb_nil se_Constant) se_Tuple) se_Name)))) (pssW_one (psW_if (pt_cmpR op_eq (pv 0) pe_int (nomark _)) (PSsW.mk (pss_one (ps_expr (pe_meth (pv 2) TK.cl TK.m_draw g_draw (hr.mono (by first|decide|omega)) TK.b_draw .nil cx_pass (pa_cons pe_int pa_nil))))) (pssW_one (psW_if (pt_cmpR op_eq (pv 0) pe_int (nomark _)) (PSsW.mk (pss_one (ps_expr (pe_meth (pv 3) TE.cl TE.m_tell g_tell (hr.mono (by first|decide|omega)) TE.b_tell .nil cx_pass (pa_cons pe_str pa_nil))))) (PSsW.mk (pss_one (ps_for (PassesOwn.leaving (M:=model P w)) rfl (pi_range1 rfl B.range_ (pa_cons pe_int pa_nil)) (pg_name (i:=4) sc_Y20.nd rfl (Or.inl rfl)) (pss_one (ps_expr (pe_meth0 (pv 1) T.cl T.m_take g_take (hr.mono (by first|decide|omega)) T.b_take .nil cx_pass))))))))))))))))))))))))))))))))))))),?_⟩
 have hA:=hW.bits
 have h11:=hW.two
 rcases h with ⟨hk,e⟩|⟨rfl,e⟩
 ·have fin:∀H',Grow b H H'→At C H' b dx r bl z→E (.ref CB) none H':=fun H' g a=>e H' (hW.drawn hbe g a).1 (hW.drawn hbe g a).2
  rcases k with _|_|_|_|_|_|_|_|_|_|_|_|_|_|_|k
  ·refine⟨_,rfl,rfl,_,rfl,iteT ?_⟩
   exact⟨_,rfl,ev_no (m:=5) hA h11 (by decide) (by decide) fin⟩
  ·refine⟨_,rfl,rfl,_,rfl,iteF ?_⟩
   refine⟨_,rfl,rfl,_,rfl,iteT ?_⟩
   have hs:siV 5 [1,1]=none:=by decide
   exact⟨_,rfl,b,dx,r,bl,z,_,5,rfl,hA,⟨rfl,by decide,by decide⟩,fun v u H' h=>(by rw[h11,hs]at h;cases h),fun H' _ g a=>fin H' g a⟩
  ·refine⟨_,rfl,rfl,_,rfl,iteF ?_⟩
   refine⟨_,rfl,rfl,_,rfl,iteF ?_⟩
   refine⟨_,rfl,rfl,_,rfl,iteT ?_⟩
   refine⟨_,rfl,(by show 4≤sizeLine;decide),fun p fp=>?_⟩
   have y:=same_new fp (.tup [V.int 1,V.int 3,V.int 5,V.int 7])
   exact pk_no (ws:=[1,3,5,7]) (hA.same y) h11 upd_same (by decide) (by decide) (by decide) (by decide) fun H' g a=>fin H' ((Grow.same y).trans g) a
  ·refine⟨_,rfl,rfl,_,rfl,iteF ?_⟩
   refine⟨_,rfl,rfl,_,rfl,iteF ?_⟩
   refine⟨_,rfl,rfl,_,rfl,iteF ?_⟩
   refine⟨_,rfl,rfl,_,rfl,iteT ?_⟩
   exact⟨_,rfl,b,dx,r,bl,z,rfl,hA,h11,fin⟩
  ·refine⟨_,rfl,rfl,_,rfl,iteF ?_⟩
   refine⟨_,rfl,rfl,_,rfl,iteF ?_⟩
   refine⟨_,rfl,rfl,_,rfl,iteF ?_⟩
   refine⟨_,rfl,rfl,_,rfl,iteF ?_⟩
   refine⟨_,rfl,rfl,_,rfl,iteT ?_⟩
   refine⟨_,rfl,?_⟩
   refine⟨(by show 2≤sizeLine;decide),fun p1 f1=>?_⟩
   have y1:=same_new f1 (.tup [V.str "is",V.int 1])
   have w1:(upd H p1 (.tup [V.str "is",V.int 1])) p1=some (.tup [V.str "is",V.int 1]):=upd_same
   generalize upd H p1 (.tup [V.str "is",V.int 1])=H1 at y1 w1 ⊢
   refine⟨(by show 2≤sizeLine;decide),fun p2 f2=>?_⟩
   have y2:=same_new f2 (.tup [V.str "is",V.int 2])
   have w2:(upd H1 p2 (.tup [V.str "is",V.int 2])) p2=some (.tup [V.str "is",V.int 2]):=upd_same
   generalize upd H1 p2 (.tup [V.str "is",V.int 2])=H2 at y2 w2 ⊢
   refine⟨(by show 3≤sizeLine;decide),fun p3 f3=>?_⟩
   have y3:=same_new f3 (.tup [V.str "ask",V.ref p1,V.ref p2])
   have w3:(upd H2 p3 (.tup [V.str "ask",V.ref p1,V.ref p2])) p3=some (.tup [V.str "ask",V.ref p1,V.ref p2]):=upd_same
   generalize upd H2 p3 (.tup [V.str "ask",V.ref p1,V.ref p2])=H3 at y3 w3 ⊢
   refine⟨(by show 1≤sizeLine;decide),fun p4 f4=>?_⟩
   have y4:=same_new f4 (.tup [V.str "again"])
   have w4:(upd H3 p4 (.tup [V.str "again"])) p4=some (.tup [V.str "again"]):=upd_same
   generalize upd H3 p4 (.tup [V.str "again"])=H4 at y4 w4 ⊢
   refine⟨(by show 3≤sizeLine;decide),fun p5 f5=>?_⟩
   have y5:=same_new f5 (.tup [V.str "ask",V.ref p3,V.ref p4])
   have w5:(upd H4 p5 (.tup [V.str "ask",V.ref p3,V.ref p4])) p5=some (.tup [V.str "ask",V.ref p3,V.ref p4]):=upd_same
   generalize upd H4 p5 (.tup [V.str "ask",V.ref p3,V.ref p4])=H5 at y5 w5 ⊢
   refine⟨(by show 1≤sizeLine;decide),fun p6 f6=>?_⟩
   have y6:=same_new f6 (.tup [V.str "again"])
   have w6:(upd H5 p6 (.tup [V.str "again"])) p6=some (.tup [V.str "again"]):=upd_same
   generalize upd H5 p6 (.tup [V.str "again"])=H6 at y6 w6 ⊢
   refine⟨(by show 3≤sizeLine;decide),fun p7 f7=>?_⟩
   have y7:=same_new f7 (.tup [V.str "ask",V.ref p5,V.ref p6])
   have w7:(upd H6 p7 (.tup [V.str "ask",V.ref p5,V.ref p6])) p7=some (.tup [V.str "ask",V.ref p5,V.ref p6]):=upd_same
   generalize upd H6 p7 (.tup [V.str "ask",V.ref p5,V.ref p6])=H7 at y7 w7 ⊢
   have s7:=(((((y1.trans y2).trans y3).trans y4).trans y5).trans y6).trans y7
   have z1:=((((((y2.trans y3).trans y4).trans y5).trans y6).trans y7)) _ _ w1
   have z2:=(((((y3.trans y4).trans y5).trans y6).trans y7)) _ _ w2
   have z3:=((((y4.trans y5).trans y6).trans y7)) _ _ w3
   have z4:=(((y5.trans y6).trans y7)) _ _ w4
   have z5:=(y6.trans y7) _ _ w5
   have z6:=y7 _ _ w6
   have hP:PnAt H7 pl39 (.ref p7):=⟨p7,_,_,rfl,w7,⟨p5,_,_,rfl,z5,⟨p3,_,_,rfl,z3,⟨p1,rfl,z1⟩,⟨p2,rfl,z2⟩⟩,⟨p4,rfl,z4⟩⟩,⟨p6,rfl,z6⟩⟩
   have hn:wkV pl39 [1,1]=none:=by decide
   exact⟨b,dx,r,bl,z,.ref p7,pl39,rfl,hA.same s7,hW.bin,hP,by decide,fun v u H' _ h=>(by rw[h11,hn]at h;cases h),fun H' _ _ g a=>fin H' ((Grow.same s7).trans g) a,fun H' h=>absurd h (by decide)⟩
  ·refine⟨_,rfl,rfl,_,rfl,iteF ?_⟩
   refine⟨_,rfl,rfl,_,rfl,iteF ?_⟩
   refine⟨_,rfl,rfl,_,rfl,iteF ?_⟩
   refine⟨_,rfl,rfl,_,rfl,iteF ?_⟩
   refine⟨_,rfl,rfl,_,rfl,iteF ?_⟩
   refine⟨_,rfl,rfl,_,rfl,iteT ?_⟩
   refine⟨_,rfl,?_⟩
   refine⟨(by show 2≤sizeLine;decide),fun p1 f1=>?_⟩
   have y1:=same_new f1 (.tup [V.int 1,V.int 0])
   have w1:(upd H p1 (.tup [V.int 1,V.int 0])) p1=some (.tup [V.int 1,V.int 0]):=upd_same
   generalize upd H p1 (.tup [V.int 1,V.int 0])=H1 at y1 w1 ⊢
   refine⟨(by show 2≤sizeLine;decide),fun p2 f2=>?_⟩
   have y2:=same_new f2 (.tup [V.int 2,V.int 1])
   have w2:(upd H1 p2 (.tup [V.int 2,V.int 1])) p2=some (.tup [V.int 2,V.int 1]):=upd_same
   generalize upd H1 p2 (.tup [V.int 2,V.int 1])=H2 at y2 w2 ⊢
   refine⟨(by show 2≤sizeLine;decide),fun p3 f3=>?_⟩
   have y3:=same_new f3 (.tup [V.ref p1,V.ref p2])
   have w3:(upd H2 p3 (.tup [V.ref p1,V.ref p2])) p3=some (.tup [V.ref p1,V.ref p2]):=upd_same
   generalize upd H2 p3 (.tup [V.ref p1,V.ref p2])=H3 at y3 w3 ⊢
   have s3:=(y1.trans y2).trans y3
   exact⟨b,dx,r,p3,p1,p2,bl,z,rfl,w3,hA.same s3,h11,fun H' g a=>fin H' ((Grow.same s3).trans g) a⟩
  ·refine⟨_,rfl,rfl,_,rfl,iteF ?_⟩
   refine⟨_,rfl,rfl,_,rfl,iteF ?_⟩
   refine⟨_,rfl,rfl,_,rfl,iteF ?_⟩
   refine⟨_,rfl,rfl,_,rfl,iteF ?_⟩
   refine⟨_,rfl,rfl,_,rfl,iteF ?_⟩
   refine⟨_,rfl,rfl,_,rfl,iteF ?_⟩
   refine⟨_,rfl,rfl,_,rfl,iteT ?_⟩
   refine⟨_,rfl,?_⟩
   refine⟨(by show 4≤sizeLine;decide),fun p1 f1=>?_⟩
   have y1:=same_new f1 (.tup [V.int 1,V.int 2,V.int 3,V.int 4])
   have w1:(upd H p1 (.tup [V.int 1,V.int 2,V.int 3,V.int 4])) p1=some (.tup [V.int 1,V.int 2,V.int 3,V.int 4]):=upd_same
   generalize upd H p1 (.tup [V.int 1,V.int 2,V.int 3,V.int 4])=H1 at y1 w1 ⊢
   exact⟨b,dx,r,bl,z,_,rfl,hA.same y1,h11,⟨p1,_,rfl,w1,rfl⟩,fun H' g a=>fin H' ((Grow.same y1).trans g) a⟩
  ·refine⟨_,rfl,rfl,_,rfl,iteF ?_⟩
   refine⟨_,rfl,rfl,_,rfl,iteF ?_⟩
   refine⟨_,rfl,rfl,_,rfl,iteF ?_⟩
   refine⟨_,rfl,rfl,_,rfl,iteF ?_⟩
   refine⟨_,rfl,rfl,_,rfl,iteF ?_⟩
   refine⟨_,rfl,rfl,_,rfl,iteF ?_⟩
   refine⟨_,rfl,rfl,_,rfl,iteF ?_⟩
   refine⟨_,rfl,rfl,_,rfl,iteT ?_⟩
   exact⟨_,rfl,b,dx,r,bl,z,rfl,hA,h11,fin⟩
  ·refine⟨_,rfl,rfl,_,rfl,iteF ?_⟩
   refine⟨_,rfl,rfl,_,rfl,iteF ?_⟩
   refine⟨_,rfl,rfl,_,rfl,iteF ?_⟩
   refine⟨_,rfl,rfl,_,rfl,iteF ?_⟩
   refine⟨_,rfl,rfl,_,rfl,iteF ?_⟩
   refine⟨_,rfl,rfl,_,rfl,iteF ?_⟩
   refine⟨_,rfl,rfl,_,rfl,iteF ?_⟩
   refine⟨_,rfl,rfl,_,rfl,iteF ?_⟩
   refine⟨_,rfl,rfl,_,rfl,iteT ?_⟩
   exact⟨_,rfl,b,dx,r,bl,z,5,2,rfl,hA,by decide,.inr ⟨h11,rfl,rfl,fin⟩⟩
  ·refine⟨_,rfl,rfl,_,rfl,iteF ?_⟩
   refine⟨_,rfl,rfl,_,rfl,iteF ?_⟩
   refine⟨_,rfl,rfl,_,rfl,iteF ?_⟩
   refine⟨_,rfl,rfl,_,rfl,iteF ?_⟩
   refine⟨_,rfl,rfl,_,rfl,iteF ?_⟩
   refine⟨_,rfl,rfl,_,rfl,iteF ?_⟩
   refine⟨_,rfl,rfl,_,rfl,iteF ?_⟩
   refine⟨_,rfl,rfl,_,rfl,iteF ?_⟩
   refine⟨_,rfl,rfl,_,rfl,iteF ?_⟩
   refine⟨_,rfl,rfl,_,rfl,iteT ?_⟩
   exact⟨_,rfl,b,dx,r,bl,z,rfl,hA,h11,fin⟩
  ·refine⟨_,rfl,rfl,_,rfl,iteF ?_⟩
   refine⟨_,rfl,rfl,_,rfl,iteF ?_⟩
   refine⟨_,rfl,rfl,_,rfl,iteF ?_⟩
   refine⟨_,rfl,rfl,_,rfl,iteF ?_⟩
   refine⟨_,rfl,rfl,_,rfl,iteF ?_⟩
   refine⟨_,rfl,rfl,_,rfl,iteF ?_⟩
   refine⟨_,rfl,rfl,_,rfl,iteF ?_⟩
   refine⟨_,rfl,rfl,_,rfl,iteF ?_⟩
   refine⟨_,rfl,rfl,_,rfl,iteF ?_⟩
   refine⟨_,rfl,rfl,_,rfl,iteF ?_⟩
   refine⟨_,rfl,rfl,_,rfl,iteT ?_⟩
   exact⟨_,rfl,b,dx,r,bl,z,_,rfl,hA,h11,rfl,fin⟩
  ·refine⟨_,rfl,rfl,_,rfl,iteF ?_⟩
   refine⟨_,rfl,rfl,_,rfl,iteF ?_⟩
   refine⟨_,rfl,rfl,_,rfl,iteF ?_⟩
   refine⟨_,rfl,rfl,_,rfl,iteF ?_⟩
   refine⟨_,rfl,rfl,_,rfl,iteF ?_⟩
   refine⟨_,rfl,rfl,_,rfl,iteF ?_⟩
   refine⟨_,rfl,rfl,_,rfl,iteF ?_⟩
   refine⟨_,rfl,rfl,_,rfl,iteF ?_⟩
   refine⟨_,rfl,rfl,_,rfl,iteF ?_⟩
   refine⟨_,rfl,rfl,_,rfl,iteF ?_⟩
   refine⟨_,rfl,rfl,_,rfl,iteF ?_⟩
   refine⟨_,rfl,rfl,_,rfl,iteT ?_⟩
   refine⟨_,rfl,?_⟩
   refine⟨(by show 5≤sizeLine;decide),fun p1 f1=>?_⟩
   have y1:=same_new f1 (.tup [V.non,V.non,V.int 0,V.int 1,V.non])
   have w1:(upd H p1 (.tup [V.non,V.non,V.int 0,V.int 1,V.non])) p1=some (.tup [V.non,V.non,V.int 0,V.int 1,V.non]):=upd_same
   generalize upd H p1 (.tup [V.non,V.non,V.int 0,V.int 1,V.non])=H1 at y1 w1 ⊢
   exact⟨b,dx,r,bl,z,_,rfl,hA.same y1,h11,⟨p1,rfl,w1⟩,fun H' g a=>fin H' ((Grow.same y1).trans g) a⟩
  ·refine⟨_,rfl,rfl,_,rfl,iteF ?_⟩
   refine⟨_,rfl,rfl,_,rfl,iteF ?_⟩
   refine⟨_,rfl,rfl,_,rfl,iteF ?_⟩
   refine⟨_,rfl,rfl,_,rfl,iteF ?_⟩
   refine⟨_,rfl,rfl,_,rfl,iteF ?_⟩
   refine⟨_,rfl,rfl,_,rfl,iteF ?_⟩
   refine⟨_,rfl,rfl,_,rfl,iteF ?_⟩
   refine⟨_,rfl,rfl,_,rfl,iteF ?_⟩
   refine⟨_,rfl,rfl,_,rfl,iteF ?_⟩
   refine⟨_,rfl,rfl,_,rfl,iteF ?_⟩
   refine⟨_,rfl,rfl,_,rfl,iteF ?_⟩
   refine⟨_,rfl,rfl,_,rfl,iteF ?_⟩
   refine⟨_,rfl,rfl,_,rfl,iteT ?_⟩
   refine⟨_,rfl,?_⟩
   refine⟨(by show 2≤sizeLine;decide),fun p1 f1=>?_⟩
   have y1:=same_new f1 (.tup [V.int 0,V.int 0])
   have w1:(upd H p1 (.tup [V.int 0,V.int 0])) p1=some (.tup [V.int 0,V.int 0]):=upd_same
   generalize upd H p1 (.tup [V.int 0,V.int 0])=H1 at y1 w1 ⊢
   refine⟨(by show 1≤sizeLine;decide),fun p2 f2=>?_⟩
   have y2:=same_new f2 (.tup [V.ref p1])
   have w2:(upd H1 p2 (.tup [V.ref p1])) p2=some (.tup [V.ref p1]):=upd_same
   generalize upd H1 p2 (.tup [V.ref p1])=H2 at y2 w2 ⊢
   refine⟨(by show 1≤sizeLine;decide),fun p3 f3=>?_⟩
   have y3:=same_new f3 (.tup [V.int 0])
   have w3:(upd H2 p3 (.tup [V.int 0])) p3=some (.tup [V.int 0]):=upd_same
   generalize upd H2 p3 (.tup [V.int 0])=H3 at y3 w3 ⊢
   refine⟨(by show 2≤sizeLine;decide),fun p4 f4=>?_⟩
   have y4:=same_new f4 (.tup [V.ref p2,V.ref p3])
   have w4:(upd H3 p4 (.tup [V.ref p2,V.ref p3])) p4=some (.tup [V.ref p2,V.ref p3]):=upd_same
   generalize upd H3 p4 (.tup [V.ref p2,V.ref p3])=H4 at y4 w4 ⊢
   have s4:=((y1.trans y2).trans y3).trans y4
   have z1:=((y2.trans y3).trans y4) _ _ w1
   have z2:=(y3.trans y4) _ _ w2
   have z3:=y4 _ _ w3
   have hM:MacAt H4 p4 Mac1:=⟨p2,p3,[p1],w4,z2,rfl,fun j q e=>by
    cases j with
    | zero=>cases e;exact z1
    | succ j=>simp at e,z3⟩
   exact⟨b,dx,r,p4,bl,z,3,Mac1,rfl,hA.same s4,hM,mac1_ok,by decide,.inr ⟨by decide,h11,fun H' g a=>fin H' ((Grow.same s4).trans g) a⟩⟩
  ·refine⟨_,rfl,rfl,_,rfl,iteF ?_⟩
   refine⟨_,rfl,rfl,_,rfl,iteF ?_⟩
   refine⟨_,rfl,rfl,_,rfl,iteF ?_⟩
   refine⟨_,rfl,rfl,_,rfl,iteF ?_⟩
   refine⟨_,rfl,rfl,_,rfl,iteF ?_⟩
   refine⟨_,rfl,rfl,_,rfl,iteF ?_⟩
   refine⟨_,rfl,rfl,_,rfl,iteF ?_⟩
   refine⟨_,rfl,rfl,_,rfl,iteF ?_⟩
   refine⟨_,rfl,rfl,_,rfl,iteF ?_⟩
   refine⟨_,rfl,rfl,_,rfl,iteF ?_⟩
   refine⟨_,rfl,rfl,_,rfl,iteF ?_⟩
   refine⟨_,rfl,rfl,_,rfl,iteF ?_⟩
   refine⟨_,rfl,rfl,_,rfl,iteF ?_⟩
   refine⟨_,rfl,rfl,_,rfl,iteT ?_⟩
   have hn:kpF 6 ((no+1)*6) 0 1 [1,1]=none:=kp_none hno
   exact⟨_,rfl,kp,dk,_,rfl,hW.keep,kf_no _ _ _ _ (by decide +kernel) (by decide +kernel) (by decide +kernel) (by decide +kernel),kp,dk,b,dx,r,bl,z,no+1,0,1,6,rfl,hW.keep,hA,by omega,by omega,by decide,by decide,fun v n' s' u H' h=>(by rw[h11,hn]at h;cases h),fun H' _ g a=>fin H' g a⟩
  ·refine⟨_,rfl,rfl,_,rfl,iteF ?_⟩
   refine⟨_,rfl,rfl,_,rfl,iteF ?_⟩
   refine⟨_,rfl,rfl,_,rfl,iteF ?_⟩
   refine⟨_,rfl,rfl,_,rfl,iteF ?_⟩
   refine⟨_,rfl,rfl,_,rfl,iteF ?_⟩
   refine⟨_,rfl,rfl,_,rfl,iteF ?_⟩
   refine⟨_,rfl,rfl,_,rfl,iteF ?_⟩
   refine⟨_,rfl,rfl,_,rfl,iteF ?_⟩
   refine⟨_,rfl,rfl,_,rfl,iteF ?_⟩
   refine⟨_,rfl,rfl,_,rfl,iteF ?_⟩
   refine⟨_,rfl,rfl,_,rfl,iteF ?_⟩
   refine⟨_,rfl,rfl,_,rfl,iteF ?_⟩
   refine⟨_,rfl,rfl,_,rfl,iteF ?_⟩
   refine⟨_,rfl,rfl,_,rfl,iteF ?_⟩
   refine⟨_,rfl,rfl,_,rfl,iteT ?_⟩
   have hn:tellP 2 2 [.str "a",.str "b"] (.str "c") ([]:List Nat)=none:=rfl
   exact⟨_,rfl,ke,dke,_,rfl,hW.kept.obj,ef_no _ _ _ _ (by decide +kernel) (by decide +kernel) (by decide +kernel) (by decide +kernel),ke,dke,be,dxe,re,l,[],0,2,2,_,_,rfl,hW.kept,hW.eb,by decide,by decide,fun v xs' u H' h=>(by have h:tellP 2 2 _ _ ([]:List Nat)=some _:=h;rw[hn]at h;cases h),fun H' _ g a=>e H' (hW.keeps (fun c o _ n2 e=>g c o n2 e) (hA.grow g (Ne.symm hbe) (fun y=>by have:=hA.row;rw[y,hW.eb.obj]at this;cases this)) a) (fun c o _ n2 e=>g c o n2 e)⟩
  ·exact absurd hk (by omega)
 ·refine⟨_,rfl,rfl,_,rfl,iteF ?_⟩
  refine⟨_,rfl,rfl,_,rfl,iteF ?_⟩
  refine⟨_,rfl,rfl,_,rfl,iteF ?_⟩
  refine⟨_,rfl,rfl,_,rfl,iteF ?_⟩
  refine⟨_,rfl,rfl,_,rfl,iteF ?_⟩
  refine⟨_,rfl,rfl,_,rfl,iteF ?_⟩
  refine⟨_,rfl,rfl,_,rfl,iteF ?_⟩
  refine⟨_,rfl,rfl,_,rfl,iteF ?_⟩
  refine⟨_,rfl,rfl,_,rfl,iteF ?_⟩
  refine⟨_,rfl,rfl,_,rfl,iteF ?_⟩
  refine⟨_,rfl,rfl,_,rfl,iteF ?_⟩
  refine⟨_,rfl,rfl,_,rfl,iteF ?_⟩
  refine⟨_,rfl,rfl,_,rfl,iteF ?_⟩
  refine⟨_,rfl,rfl,_,rfl,iteF ?_⟩
  refine⟨_,rfl,rfl,_,rfl,iteF ?_⟩
  obtain⟨h1,h0⟩:=drop_two h11
  refine⟨3,rfl,by decide,by decide,for_range (lo:=0) (n:=3) (fun i σ' H'=>∃o4:Option V,σ'=[some (.int 15),some (.ref b),some (.ref kp),some (.ref ke),o4]∧Grow b H H'∧At C H' b dx r bl (z+i)∧i≤2) ⟨_,rfl,Grow.refl _ _,hA,by decide⟩ ?_ ?_⟩
  ·rintro i σ' H' hi ⟨o4,rfl,g,a,hi2⟩
   refine⟨_,rfl,b,dx,_,rfl,a.obj,flds_no _ _ (by decide +kernel) (by decide +kernel),b,dx,r,bl,z+i,rfl,a,fun x H2 hx g2 a2=>⟨_,rfl,g.trans g2,a2,?_⟩,fun hz=>e H' g⟩
   have hl:=(List.getElem?_eq_some_iff.mp hx).1
   have:=congrArg List.length h11
   rw[List.length_drop]at this
   have:bl.length-z=2:=this
   omega
  ·rintro σ' H' ⟨o4,rfl,g,a,hi2⟩
   exact absurd hi2 (by omega)
end
noncomputable def kcl (CS CP CT CX:Addr)(k:Nat):Addr:=if k<20 then CS else if k=29 then CT else if k=31 then CX else CP
def spSec (C CS CP CT CX:Addr)(lo hi:Nat):Sp:=fun vs H Q E=>∃(b dx r:Addr)(bl:List Nat)(z no k:Nat),vs=[.int (k:Int),.ref b,.int (no:Int)]∧At C H b dx r bl z∧(∀y∈bl,y≤1)∧no<9∧lo≤k∧k≤hi∧∀H',Same H H'→E (.ref (kcl CS CP CT CX k)) none H'
theorem cn2_none {no:Nat}(h:no<9):cN Mac2 no 0=0:=by
 have:(List.range 9).all (fun no=>decide (cN Mac2 no 0=0))=true:=by decide +kernel
 exact of_decide_eq_true (List.all_eq_true.mp this no (List.mem_range.mpr h))
theorem tk2_none {no:Nat}(h:no<9):tk Mac2 ([0,1].take (no%3))=false∧Txt.slice (Str.ofString "ab") none (some ((no:Int)%3))=wst ([0,1].take (no%3)):=by
 have:(List.range 9).all (fun no=>decide (tk Mac2 ([0,1].take (no%3))=false∧Txt.slice (Str.ofString "ab") none (some ((no:Int)%3))=wst ([0,1].take (no%3))))=true:=by decide +kernel
 exact of_decide_eq_true (List.all_eq_true.mp this no (List.mem_range.mpr h))
theorem wyI_up (n:Nat):wyI (n:Int) ((n:Int)+1)=0:=by
 unfold wyI
 rw[if_pos (.inr (by omega))]
section
variable {P:Program}{w:World}{K:PySem.W.Frag}{mg:Str→Option Value}{base:Heap}{f C CB CS CP CT CX CD:Addr}{fd:FuncData}
 {fI fT fU fL fG:Addr}{dI dT dU dL dG:FuncData}{gI gC gN gU gB:Addr}{jI jC jN jU jB:FuncData}
 {a1 a2 a3 a4 a5 a6 a7 a8 a9:Addr}{d1 d2 d3 d4 d5 d6 d7 d8 d9:FuncData}
theorem ok_Y24 (F_Y24:Fun K "_law_second" "_law_second" s_Y24 f fd)(B:Bl mg)(g_Y64:FnX P w K mg base "by_plan" a1 d1 p_Y64 15 (spByP C CB CS wkV))(g_Y52:FnX P w K mg base "shares_of" a2 d2 p_Y52 15 (spNoSh CS))(g_Y61:FnX P w K mg base "mean_of" a3 d3 p_Y61 15 (spNoSh CS))(g_Y78:FnX P w K mg base "word" a4 d4 p_Y78 7 (spWordN C CB CS))
  (g_Y70:FnX P w K mg base "choice_orders" a5 d5 p_Y70 7 (spChN C CB CP))(g_Y42:FnX P w K mg base "choice_at" a6 d6 p_Y42 2 (spChAtN CP))(g_Y55:FnX P w K mg base "order_at" a7 d7 p_Y55 3 (spOAtN CP))(g_Y36:FnX P w K mg base "figures_at" a8 d8 p_Y36 2 (spFigN CP))(g_Y59:FnX P w K mg base "parts_at" a9 d9 p_Y59 2 (spPaN CP)) :
  FnOk P w K mg base (CXR P w) 16 f fd p_Y24 (spSec C CS CP CT CX 16 24):=by
 refine F_Y24.okX sc_Y24 (fun vs H Q E h=>?_) (fun cdv A outer s H vs Q E hr h=>?_)
 ·obtain⟨b,dx,r,bl,z,no,k,rfl,_⟩:=h
  rfl
 obtain⟨b,dx,r,bl,z,no,k,rfl,hA,hbin,hno,hk1,hk2,e⟩:=h
 refine⟨_,(PSsW.go (pssW_cons (psW (i:=3) sc_Y24.nd rfl (Or.inl rfl) (peW (pbW (PEW.mk pe_str) (pbW (peW (pbW (PEW.mk pe_str) pb_nil se_Constant)) (pbW (peW (pbW (PEW.mk pe_str) pb_nil se_Constant)) pb_nil se_Tuple) se_Tuple) se_Constant)))
   (pss_cons (ps_set (i:=4) sc_Y24.nd rfl (Or.inl rfl) (PEW.go (peW (pbW (peW (pbW (peW (pbW (PEW.mk pe_int) (pbW (PEW.mk pe_non) pb_nil se_Constant) se_Constant)) (pbW (peW (pbW (PEW.mk pe_int) (pbW (PEW.mk pe_int) pb_nil se_Constant) se_Constant)) pb_nil se_Tuple) se_Tuple)) (pbW (peW (pbW (PEW.mk pe_int) pb_nil se_Constant)) pb_nil se_Tuple) se_Tuple))))
   (pss_one (PSW.go (psW_if (pt_cmpR op_eq (pv 0) pe_int (nomark _)) (PSsW.mk (pss_one (ps_expr (pe_fnX g_Y64 hr (pa_cons (pv 1) (pa_cons (pv 3) pa_nil)))))) (pssW_one (psW_if (pt_cmpR op_eq (pv 0) pe_int (nomark _)) (PSsW.mk (pss_one (ps_expr (pe_fnX g_Y52 hr (pa_cons (pe_tup (pa_cons pe_str pa_nil)) pa_nil))))) (pssW_one (psW_if (pt_cmpR op_eq (pv 0) pe_int (nomark _)) (PSsW.mk (pss_one (ps_expr (pe_fnX g_Y61 hr (pa_cons (pv 3) pa_nil))))) (pssW_one (psW_if (pt_cmpR op_eq (pv 0) pe_int (nomark _)) (PSsW.mk (pss_one (ps_expr (pe_fnX g_Y78 hr (pa_cons (pv 1) (pa_cons (pv 4) (pa_cons (pv 2) pa_nil))))))) (pssW_one (psW_if (pt_cmpR op_eq (pv 0) pe_int (nomark _)) (PSsW.mk (pss_one (ps_expr (pe_fnX g_Y70 hr (pa_cons (pv 1) (pa_cons (pv 2) (pa_cons (pe_op op_add (pv 2) pe_int) pa_nil))))))) (pssW_one (psW_if (pt_cmpR op_eq (pv 0) pe_int (nomark _)) (PSsW.mk (pss_one (ps_expr (pe_fnX g_Y42 hr (pa_cons pe_int (pa_cons pe_int (pa_cons (pe_op op_add pe_int (pv 2)) pa_nil))))))) (pssW_one (psW_if (pt_cmpR op_eq (pv 0) pe_int (nomark _)) (PSsW.mk (pss_one (ps_expr (pe_fnX g_Y55 hr (pa_cons pe_int (pa_cons (pe_op op_sub (pe_un un_neg pe_int) (pv 2)) pa_nil)))))) (pssW_one (psW_if (pt_cmpR op_eq (pv 0) pe_int (nomark _)) (PSsW.mk (pss_one (ps_expr (pe_fnX g_Y36 hr (pa_cons (pe_tup (pa_cons pe_int (pa_cons (pe_op op_add (pv 2) pe_int) pa_nil))) (pa_cons (pe_op op_add (pe_op op_mul pe_int (pv 2)) pe_int) pa_nil)))))) (PSsW.mk (pss_one (ps_expr (pe_fnX g_Y59 hr (pa_cons (pe_op op_add (pv 2) pe_int) (pa_cons pe_int (pa_cons pe_int pa_nil))))))))))))))))))))))))))),?_⟩
 refine⟨(by show 1≤sizeLine;decide),fun p1 f1=>?_⟩
 have y1:=same_new f1 (.tup [V.str "again"])
 have w1:(upd H p1 (.tup [V.str "again"])) p1=some (.tup [V.str "again"]):=upd_same
 generalize upd H p1 (.tup [V.str "again"])=H1 at y1 w1 ⊢
 refine⟨(by show 1≤sizeLine;decide),fun p2 f2=>?_⟩
 have y2:=same_new f2 (.tup [V.str "again"])
 have w2:(upd H1 p2 (.tup [V.str "again"])) p2=some (.tup [V.str "again"]):=upd_same
 generalize upd H1 p2 (.tup [V.str "again"])=H2 at y2 w2 ⊢
 refine⟨(by show 3≤sizeLine;decide),fun p3 f3=>?_⟩
 have y3:=same_new f3 (.tup [V.str "ask",V.ref p1,V.ref p2])
 have w3:(upd H2 p3 (.tup [V.str "ask",V.ref p1,V.ref p2])) p3=some (.tup [V.str "ask",V.ref p1,V.ref p2]):=upd_same
 generalize upd H2 p3 (.tup [V.str "ask",V.ref p1,V.ref p2])=H3 at y3 w3 ⊢
 refine⟨(by show 2≤sizeLine;decide),fun p4 f4=>?_⟩
 have y4:=same_new f4 (.tup [V.int 0,V.non])
 have w4:(upd H3 p4 (.tup [V.int 0,V.non])) p4=some (.tup [V.int 0,V.non]):=upd_same
 generalize upd H3 p4 (.tup [V.int 0,V.non])=H4 at y4 w4 ⊢
 refine⟨(by show 2≤sizeLine;decide),fun p5 f5=>?_⟩
 have y5:=same_new f5 (.tup [V.int 1,V.int 1])
 have w5:(upd H4 p5 (.tup [V.int 1,V.int 1])) p5=some (.tup [V.int 1,V.int 1]):=upd_same
 generalize upd H4 p5 (.tup [V.int 1,V.int 1])=H5 at y5 w5 ⊢
 refine⟨(by show 2≤sizeLine;decide),fun p6 f6=>?_⟩
 have y6:=same_new f6 (.tup [V.ref p4,V.ref p5])
 have w6:(upd H5 p6 (.tup [V.ref p4,V.ref p5])) p6=some (.tup [V.ref p4,V.ref p5]):=upd_same
 generalize upd H5 p6 (.tup [V.ref p4,V.ref p5])=H6 at y6 w6 ⊢
 refine⟨(by show 1≤sizeLine;decide),fun p7 f7=>?_⟩
 have y7:=same_new f7 (.tup [V.int 1])
 have w7:(upd H6 p7 (.tup [V.int 1])) p7=some (.tup [V.int 1]):=upd_same
 generalize upd H6 p7 (.tup [V.int 1])=H7 at y7 w7 ⊢
 refine⟨(by show 2≤sizeLine;decide),fun p8 f8=>?_⟩
 have y8:=same_new f8 (.tup [V.ref p6,V.ref p7])
 have w8:(upd H7 p8 (.tup [V.ref p6,V.ref p7])) p8=some (.tup [V.ref p6,V.ref p7]):=upd_same
 generalize upd H7 p8 (.tup [V.ref p6,V.ref p7])=H8 at y8 w8 ⊢
 have t38:=(((y4.trans y5).trans y6).trans y7).trans y8
 have s8:=((y1.trans y2).trans y3).trans t38
 have hP:PnAt H8 (.ask .again .again) (.ref p3):=⟨p3,_,_,rfl,t38 _ _ w3,⟨p1,rfl,((y2.trans y3).trans t38) _ _ w1⟩,⟨p2,rfl,(y3.trans t38) _ _ w2⟩⟩
 have hM:MacAt H8 p8 Mac2:=⟨p6,p7,[p4,p5],w8,(y7.trans y8) _ _ w6,rfl,fun j q e=>by
  rcases j with _|_|j
  ·cases e;exact(((y5.trans y6).trans y7).trans y8) _ _ w4
  ·cases e;exact((y6.trans y7).trans y8) _ _ w5
  ·simp at e,y8 _ _ w7⟩
 have hA8:=hA.same s8
 clear t38 w1 w2 w3 w4 w5 w6 w7 w8 y1 y2 y3 y4 y5 y6 y7 y8 f1 f2 f3 f4 f5 f6 f7 f8
 obtain⟨j,rfl⟩:∃j,k=16+j:=⟨k-16,by omega⟩
 rcases j with _|_|_|_|_|_|_|_|_|j
 ·refine⟨_,rfl,rfl,_,rfl,iteT ?_⟩
  exact⟨_,rfl,_,rfl,b,dx,r,bl,z,_,_,rfl,hA8,hbin,hP,by decide,fun v u H' h=>absurd h (by decide),fun H' h=>absurd h (by decide),fun H' _ s'=>e H' (s8.trans s')⟩
 ·refine⟨_,rfl,rfl,_,rfl,iteF ?_⟩
  refine⟨_,rfl,rfl,_,rfl,iteT ?_⟩
  refine⟨(by show 1≤sizeLine;decide),fun p f=>?_⟩
  have y:=same_new f (.tup [V.str "again"])
  exact⟨.ref p,.again,rfl,⟨p,rfl,upd_same⟩,by decide,rfl,fun H' s'=>e H' ((s8.trans y).trans s')⟩
 ·refine⟨_,rfl,rfl,_,rfl,iteF ?_⟩
  refine⟨_,rfl,rfl,_,rfl,iteF ?_⟩
  refine⟨_,rfl,rfl,_,rfl,iteT ?_⟩
  exact⟨_,rfl,_,_,rfl,hP,by decide,rfl,fun H' s'=>e H' (s8.trans s')⟩
 ·refine⟨_,rfl,rfl,_,rfl,iteF ?_⟩
  refine⟨_,rfl,rfl,_,rfl,iteF ?_⟩
  refine⟨_,rfl,rfl,_,rfl,iteF ?_⟩
  refine⟨_,rfl,rfl,_,rfl,iteT ?_⟩
  exact⟨_,rfl,_,rfl,_,rfl,b,dx,r,p8,bl,z,no,Mac2,rfl,hA8,hM,mac2_ok,by omega,.inl ⟨cn2_none hno,fun H' s'=>e H' (s8.trans s')⟩⟩
 ·refine⟨_,rfl,rfl,_,rfl,iteF ?_⟩
  refine⟨_,rfl,rfl,_,rfl,iteF ?_⟩
  refine⟨_,rfl,rfl,_,rfl,iteF ?_⟩
  refine⟨_,rfl,rfl,_,rfl,iteF ?_⟩
  refine⟨_,rfl,rfl,_,rfl,iteT ?_⟩
  exact⟨_,rfl,_,rfl,_,rfl,_,_,rfl,rfl,b,dx,r,bl,z,(no:Int),(no:Int)+1,rfl,hA8,by omega,.inl ⟨wyI_up no,e H8 s8⟩⟩
 ·refine⟨_,rfl,rfl,_,rfl,iteF ?_⟩
  refine⟨_,rfl,rfl,_,rfl,iteF ?_⟩
  refine⟨_,rfl,rfl,_,rfl,iteF ?_⟩
  refine⟨_,rfl,rfl,_,rfl,iteF ?_⟩
  refine⟨_,rfl,rfl,_,rfl,iteF ?_⟩
  refine⟨_,rfl,rfl,_,rfl,iteT ?_⟩
  have hw:wyI 4 2=6:=by decide
  exact⟨_,rfl,_,_,rfl,rfl,4,2,6+(no:Int),rfl,by decide,.inr (by rw[hw];omega),e H8 s8⟩
 ·refine⟨_,rfl,rfl,_,rfl,iteF ?_⟩
  refine⟨_,rfl,rfl,_,rfl,iteF ?_⟩
  refine⟨_,rfl,rfl,_,rfl,iteF ?_⟩
  refine⟨_,rfl,rfl,_,rfl,iteF ?_⟩
  refine⟨_,rfl,rfl,_,rfl,iteF ?_⟩
  refine⟨_,rfl,rfl,_,rfl,iteF ?_⟩
  refine⟨_,rfl,rfl,_,rfl,iteT ?_⟩
  exact⟨_,rfl,_,rfl,_,_,rfl,rfl,-1-(no:Int),rfl,by omega,fun H' s'=>e H' (s8.trans s')⟩
 ·refine⟨_,rfl,rfl,_,rfl,iteF ?_⟩
  refine⟨_,rfl,rfl,_,rfl,iteF ?_⟩
  refine⟨_,rfl,rfl,_,rfl,iteF ?_⟩
  refine⟨_,rfl,rfl,_,rfl,iteF ?_⟩
  refine⟨_,rfl,rfl,_,rfl,iteF ?_⟩
  refine⟨_,rfl,rfl,_,rfl,iteF ?_⟩
  refine⟨_,rfl,rfl,_,rfl,iteF ?_⟩
  refine⟨_,rfl,rfl,_,rfl,iteT ?_⟩
  refine⟨_,rfl,_,_,rfl,rfl,(by show 2≤sizeLine;decide),fun p f=>?_⟩
  have y:=same_new f (.tup [V.int 2,V.int ((no:Int)+1)])
  have hp:(upd H8 p (.tup [V.int 2,V.int ((no:Int)+1)])) p=some (.tup (vnats [2,no+1])):=by rw[upd_same];rfl
  refine⟨_,rfl,_,_,rfl,rfl,.inl ⟨by decide,by decide⟩,_,_,rfl,rfl,p,[2,no+1],2*(no:Int)+2,rfl,hp,fun x hx=>?_,.inr ?_,e _ (s8.trans y)⟩
  ·rcases List.mem_cons.mp hx with rfl|hx
   ·decide
   ·have:x=no+1:=by simpa using hx
    omega
  ·have:prodL [2,no+1]=2*((no+1)*1):=rfl
   rw[this]
   omega
 ·refine⟨_,rfl,rfl,_,rfl,iteF ?_⟩
  refine⟨_,rfl,rfl,_,rfl,iteF ?_⟩
  refine⟨_,rfl,rfl,_,rfl,iteF ?_⟩
  refine⟨_,rfl,rfl,_,rfl,iteF ?_⟩
  refine⟨_,rfl,rfl,_,rfl,iteF ?_⟩
  refine⟨_,rfl,rfl,_,rfl,iteF ?_⟩
  refine⟨_,rfl,rfl,_,rfl,iteF ?_⟩
  refine⟨_,rfl,rfl,_,rfl,iteF ?_⟩
  exact⟨_,rfl,_,_,rfl,rfl,(no:Int)+1,rfl,by omega,e H8 s8⟩
 ·exact absurd hk2 (by omega)
theorem ok_Y38 (F_Y38:Fun K "_law_third" "_law_third" s_Y38 f fd)(B:Bl mg)(T:Txt K mg C fI fT fU fL fG dI dT dU dL dG)(TD:TxtD K mg CD gI gC gN gU gB jI jC jN jU jB)(g_used:FnOk P w K mg base CX0 1 fU dU p_Y41 (spUsed C))(g_go_back:FnOk P w K mg base (CXR P w) 1 fG dG p_Y19 (spBack C CP))
  (g_initTD:FnOk P w K mg base CX0 3 gI jI p_Y6 (spInitD C CD))(g_back:FnOk P w K mg base (CXR P w) 2 gB jB p_Y27 (spBackD C CD CT))(gD_Y70:FnOk P w K mg base (CXR P w) 11 gC jC p_Y13 (spChD C CD CP))
  (g_Y67:FnX P w K mg base "tree_at" a1 d1 p_Y67 3 (spTAtN CP))(g_Y62:FnX P w K mg base "word_at" a2 d2 p_Y62 4 (spWAtN CP))(g_Y11:FnX P w K mg base "place_of_word" a3 d3 p_Y11 3 (spPWN CP))(g_Y80:FnX P w K mg base "read" a4 d4 p_Y80 4 (spRd CX)) :
  FnOk P w K mg base (CXR P w) 16 f fd p_Y38 (spSec C CS CP CT CX 25 31):=by
 refine F_Y38.okX sc_Y38 (fun vs H Q E h=>?_) (fun cdv A outer s H vs Q E hr h=>?_)
 ·obtain⟨b,dx,r,bl,z,no,k,rfl,_⟩:=h
  rfl
 obtain⟨b,dx,r,bl,z,no,k,rfl,hA,hbin,hno,hk1,hk2,e⟩:=h
 refine⟨_,(PSsW.go (pssW_cons (psW (i:=3) sc_Y38.nd rfl (Or.inl rfl) (peW (pbW (peW (pbW (peW (pbW (PEW.mk pe_int) (pbW (PEW.mk pe_non) pb_nil se_Constant) se_Constant)) (pbW (peW (pbW (PEW.mk pe_int) (pbW (PEW.mk pe_int) pb_nil se_Constant) se_Constant)) pb_nil se_Tuple) se_Tuple)) (pbW (peW (pbW (PEW.mk pe_int) pb_nil se_Constant)) pb_nil se_Tuple) se_Tuple)))
   (pss_one (PSW.go (psW_if (pt_cmpR op_eq (pv 0) pe_int (nomark _)) (PSsW.mk (pss_one (ps_expr (pe_fnX g_Y67 hr (pa_cons pe_int (pa_cons (pe_op op_add pe_int (pv 2)) pa_nil)))))) (pssW_one (psW_if (pt_cmpR op_eq (pv 0) pe_int (nomark _)) (pssW_one (psW_expr (peW_fnX g_Y62 hr (pbW (peW (pbW (peW (pbW (peW (pbW (PEW.mk pe_int) (pbW (PEW.mk pe_int) pb_nil se_Constant) se_Constant)) pb_nil se_Tuple)) (pbW (peW (pbW (PEW.mk pe_int) pb_nil se_Constant)) pb_nil se_Tuple) se_Tuple)) (pb_cons pe_int (pb_cons (pe_op op_add pe_int (pv 2)) pb_nil se_BinOp) se_Constant) se_Tuple)))) (pssW_one (psW_if (pt_cmpR op_eq (pv 0) pe_int (nomark _)) (PSsW.mk (pss_one (ps_expr (pe_fnX g_Y11 hr (pa_cons (pv 3) (pa_cons (pe_slice sl_str pe_str po_none (po_some (pe_op op_mod (pv 2) pe_int))) pa_nil)))))) (pssW_one (psW_if (pt_cmpR op_eq (pv 0) pe_int (nomark _)) (PSsW.mk (pss_one (ps_expr (pe_meth (pv 1) T.cl T.m_go_back g_go_back (hr.mono (by first|decide|omega)) T.b_go_back .nil cx_pass (pa_cons (pe_op op_add (pe_op op_add (pe_meth0 (pv 1) T.cl T.m_used g_used (hr.mono (by first|decide|omega)) T.b_used .nil pass0) pe_int) (pv 2)) pa_nil))))) (pssW_one (psW_if (pt_cmpR op_eq (pv 0) pe_int (nomark _)) (PSsW.mk (pss_one (ps_expr (pe_meth0 (pe_make TD.made g_initTD (hr.mono (by first|decide|omega)) rfl TD.mgC TD.b_init .nil pass0 (pa_cons (pv 2) (pa_cons (pv 2) pa_nil))) TD.cl TD.m_back g_back (hr.mono (by first|decide|omega)) TD.b_back .nil cx_pass)))) (pssW_one (psW_if (pt_cmpR op_eq (pv 0) pe_int (nomark _)) (PSsW.mk (pss_one (ps_expr (pe_meth (pe_make TD.made g_initTD (hr.mono (by first|decide|omega)) rfl TD.mgC TD.b_init .nil pass0 (pa_cons (pv 2) (pa_cons pe_int pa_nil))) TD.cl TD.m_Y70 gD_Y70 (hr.mono (by first|decide|omega)) TD.b_Y70 .nil cx_pass (pa_cons (pv 2) (pa_cons (pe_op op_add (pv 2) pe_int) pa_nil)))))) (PSsW.mk (pss_one (ps_expr (pe_fnX g_Y80 hr (pa_cons (pe_callTy call_str_int rfl B.str_ L3.bt_str (pa_cons (pv 2) pa_nil)) pa_nil)))))))))))))))))))),?_⟩
 refine⟨(by show 2≤sizeLine;decide),fun p1 f1=>?_⟩
 have y1:=same_new f1 (.tup [V.int 0,V.non])
 have w1:(upd H p1 (.tup [V.int 0,V.non])) p1=some (.tup [V.int 0,V.non]):=upd_same
 generalize upd H p1 (.tup [V.int 0,V.non])=H1 at y1 w1 ⊢
 refine⟨(by show 2≤sizeLine;decide),fun p2 f2=>?_⟩
 have y2:=same_new f2 (.tup [V.int 1,V.int 1])
 have w2:(upd H1 p2 (.tup [V.int 1,V.int 1])) p2=some (.tup [V.int 1,V.int 1]):=upd_same
 generalize upd H1 p2 (.tup [V.int 1,V.int 1])=H2 at y2 w2 ⊢
 refine⟨(by show 2≤sizeLine;decide),fun p3 f3=>?_⟩
 have y3:=same_new f3 (.tup [V.ref p1,V.ref p2])
 have w3:(upd H2 p3 (.tup [V.ref p1,V.ref p2])) p3=some (.tup [V.ref p1,V.ref p2]):=upd_same
 generalize upd H2 p3 (.tup [V.ref p1,V.ref p2])=H3 at y3 w3 ⊢
 refine⟨(by show 1≤sizeLine;decide),fun p4 f4=>?_⟩
 have y4:=same_new f4 (.tup [V.int 1])
 have w4:(upd H3 p4 (.tup [V.int 1])) p4=some (.tup [V.int 1]):=upd_same
 generalize upd H3 p4 (.tup [V.int 1])=H4 at y4 w4 ⊢
 refine⟨(by show 2≤sizeLine;decide),fun p5 f5=>?_⟩
 have y5:=same_new f5 (.tup [V.ref p3,V.ref p4])
 have w5:(upd H4 p5 (.tup [V.ref p3,V.ref p4])) p5=some (.tup [V.ref p3,V.ref p4]):=upd_same
 generalize upd H4 p5 (.tup [V.ref p3,V.ref p4])=H5 at y5 w5 ⊢
 have s5:=(((y1.trans y2).trans y3).trans y4).trans y5
 have hM:MacAt H5 p5 Mac2:=⟨p3,p4,[p1,p2],w5,(y4.trans y5) _ _ w3,rfl,fun j q e=>by
  rcases j with _|_|j
  ·cases e;exact(((y2.trans y3).trans y4).trans y5) _ _ w1
  ·cases e;exact((y3.trans y4).trans y5) _ _ w2
  ·simp at e,y5 _ _ w4⟩
 have hA5:=hA.same s5
 clear w1 w2 w3 w4 w5 y1 y2 y3 y4 y5 f1 f2 f3 f4 f5
 obtain⟨j,rfl⟩:∃j,k=25+j:=⟨k-25,by omega⟩
 rcases j with _|_|_|_|_|_|_|j
 ·refine⟨_,rfl,rfl,_,rfl,iteT ?_⟩
  have hc:cat 2=2:=by decide
  exact⟨_,rfl,_,_,rfl,rfl,2,2+(no:Int),rfl,by decide,.inr (by rw[hc];omega),fun H' s'=>e H' (s5.trans s')⟩
 ·refine⟨_,rfl,rfl,_,rfl,iteF ?_⟩
  refine⟨_,rfl,rfl,_,rfl,iteT ?_⟩
  refine⟨(by show 2≤sizeLine;decide),fun q1 f1=>?_⟩
  have y1:=same_new f1 (.tup [V.int 0,V.int 0])
  have w1:(upd H5 q1 (.tup [V.int 0,V.int 0])) q1=some (.tup [V.int 0,V.int 0]):=upd_same
  generalize upd H5 q1 (.tup [V.int 0,V.int 0])=G1 at y1 w1 ⊢
  refine⟨(by show 1≤sizeLine;decide),fun q2 f2=>?_⟩
  have y2:=same_new f2 (.tup [V.ref q1])
  have w2:(upd G1 q2 (.tup [V.ref q1])) q2=some (.tup [V.ref q1]):=upd_same
  generalize upd G1 q2 (.tup [V.ref q1])=G2 at y2 w2 ⊢
  refine⟨(by show 1≤sizeLine;decide),fun q3 f3=>?_⟩
  have y3:=same_new f3 (.tup [V.int 0])
  have w3:(upd G2 q3 (.tup [V.int 0])) q3=some (.tup [V.int 0]):=upd_same
  generalize upd G2 q3 (.tup [V.int 0])=G3 at y3 w3 ⊢
  refine⟨(by show 2≤sizeLine;decide),fun q4 f4=>?_⟩
  have y4:=same_new f4 (.tup [V.ref q2,V.ref q3])
  have w4:(upd G3 q4 (.tup [V.ref q2,V.ref q3])) q4=some (.tup [V.ref q2,V.ref q3]):=upd_same
  generalize upd G3 q4 (.tup [V.ref q2,V.ref q3])=G4 at y4 w4 ⊢
  have g4:=((y1.trans y2).trans y3).trans y4
  have hM1:MacAt G4 q4 Mac1:=⟨q2,q3,[q1],w4,(y3.trans y4) _ _ w2,rfl,fun j q e=>by
   cases j with
   | zero=>cases e;exact((y2.trans y3).trans y4) _ _ w1
   | succ j=>simp at e,y4 _ _ w3⟩
  have hc:cN Mac1 2 0=4:=by decide
  exact⟨_,rfl,_,_,rfl,rfl,q4,2,4+(no:Int),Mac1,rfl,hM1,mac1_ok,by decide,.inr (by rw[hc];omega),fun H' s'=>e H' ((s5.trans g4).trans s')⟩
 ·refine⟨_,rfl,rfl,_,rfl,iteF ?_⟩
  refine⟨_,rfl,rfl,_,rfl,iteF ?_⟩
  refine⟨_,rfl,rfl,_,rfl,iteT ?_⟩
  obtain⟨t1,t2⟩:=tk2_none hno
  refine⟨_,rfl,?_⟩
  refine⟨_,rfl,_,_,rfl,rfl,(by show(0:Int)<3;decide),_,rfl,_,rfl,(by decide),p5,[0,1].take (no%3),Mac2,?_,hM,mac2_ok,fun x hx=>?_,t1,e H5 s5⟩
  ·rw[←t2];rfl
  ·have:=List.mem_of_mem_take hx
   rcases List.mem_cons.mp this with rfl|h
   ·decide
   ·have:x=1:=by simpa using h
    omega
 ·refine⟨_,rfl,rfl,_,rfl,iteF ?_⟩
  refine⟨_,rfl,rfl,_,rfl,iteF ?_⟩
  refine⟨_,rfl,rfl,_,rfl,iteF ?_⟩
  refine⟨_,rfl,rfl,_,rfl,iteT ?_⟩
  exact⟨_,rfl,b,dx,_,rfl,hA5.obj,flds_no _ _ (by decide +kernel) (by decide +kernel),_,rfl,b,dx,_,rfl,hA5.obj,flds_no _ _ (by decide +kernel) (by decide +kernel),b,dx,r,z,rfl,hA5.obj,_,_,rfl,rfl,_,rfl,_,_,rfl,rfl,b,dx,r,z,(z:Int)+1+(no:Int),rfl,hA5.obj,fun h=>absurd h (by omega),fun _=>e H5 s5⟩
 ·refine⟨_,rfl,rfl,_,rfl,iteF ?_⟩
  refine⟨_,rfl,rfl,_,rfl,iteF ?_⟩
  refine⟨_,rfl,rfl,_,rfl,iteF ?_⟩
  refine⟨_,rfl,rfl,_,rfl,iteF ?_⟩
  refine⟨_,rfl,rfl,_,rfl,iteT ?_⟩
  refine⟨_,rfl,_,rfl,?_⟩
  intro d dd nd ndd nex
  have s6:Same H5 (upd (upd H5 dd (.own d)) d (.ins CD dd [])):=fun c o y=>by
   rw[upd_ne (ne_of_none y nd),upd_ne (ne_of_none y ndd)]
   exact y
  refine⟨d,dd,(no:Int),no,rfl,upd_same,by omega,fun b' dx' r' st' bl' H7 k7 hD=>⟨rfl,?_⟩⟩
  have s7:Same H5 H7:=fun c o y=>k7 c o (ne_of_none y nd) (s6 c o y)
  exact⟨d,dd,_,rfl,hD.obj,df_no _ _ (by decide +kernel) (by decide +kernel),d,dd,b',dx',r',st',bl',rfl,hD,e H7 (s5.trans s7)⟩
 ·refine⟨_,rfl,rfl,_,rfl,iteF ?_⟩
  refine⟨_,rfl,rfl,_,rfl,iteF ?_⟩
  refine⟨_,rfl,rfl,_,rfl,iteF ?_⟩
  refine⟨_,rfl,rfl,_,rfl,iteF ?_⟩
  refine⟨_,rfl,rfl,_,rfl,iteF ?_⟩
  refine⟨_,rfl,rfl,_,rfl,iteT ?_⟩
  refine⟨_,rfl,?_⟩
  intro d dd nd ndd nex
  have s6:Same H5 (upd (upd H5 dd (.own d)) d (.ins CD dd [])):=fun c o y=>by
   rw[upd_ne (ne_of_none y nd),upd_ne (ne_of_none y ndd)]
   exact y
  refine⟨d,dd,(no:Int),0,rfl,upd_same,by omega,fun b' dx' r' st' bl' H7 k7 hD=>⟨rfl,?_⟩⟩
  have s7:Same H5 H7:=fun c o y=>k7 c o (ne_of_none y nd) (s6 c o y)
  exact⟨d,dd,_,rfl,hD.obj,df_no _ _ (by decide +kernel) (by decide +kernel),_,rfl,_,rfl,_,_,rfl,rfl,d,dd,b',dx',r',st',bl',(no:Int),(no:Int)+1,rfl,hD,by omega,wyI_up no,e H7 (s5.trans s7)⟩
 ·refine⟨_,rfl,rfl,_,rfl,iteF ?_⟩
  refine⟨_,rfl,rfl,_,rfl,iteF ?_⟩
  refine⟨_,rfl,rfl,_,rfl,iteF ?_⟩
  refine⟨_,rfl,rfl,_,rfl,iteF ?_⟩
  refine⟨_,rfl,rfl,_,rfl,iteF ?_⟩
  refine⟨_,rfl,rfl,_,rfl,iteF ?_⟩
  obtain⟨_,_,_,t4⟩:=dg_cut no (by omega)
  exact⟨_,rfl,_,rfl,(dg_all no (by omega)).1,no,by rw[t4];rfl,by omega,fun H' s'=>e H' (s5.trans s')⟩
 ·exact absurd hk2 (by omega)
end
noncomputable def nmK (k:Nat):Str:=if k<16 then Str.ofString "NoBits" else if k<20 then Str.ofString "NoShares" else if k=29 then Str.ofString "NoStep" else if k=31 then Str.ofString "NoText" else Str.ofString "NoPlace"
def spAsk (C CK CE:Addr):Sp:=fun vs H Q _=>∃(b dx r kp dk ke dke be dxe re l:Addr)(bl:List Nat)(z no k:Nat),vs=[.int (k:Int),.ref b,.ref kp,.ref ke,.int (no:Int)]∧W39 C CK CE H b dx r kp dk ke dke be dxe re l bl z no∧be≠b∧no<9∧k<32 ∧
 ((k≠15∧∀a H',W39 C CK CE H' b dx r kp dk ke dke be dxe re l bl z no→Oth b be H H'→H' a=some (.lst [.str (nmK k)])→Q (.ref a) H')∨(k=15∧∀a H',Grow b H H'→H' a=some (.lst [.str (nmK k)])→Q (.ref a) H'))
section
variable {P:Program}{w:World}{K:PySem.W.Frag}{mg:Str→Option Value}{base:Heap}{f C CK CE CB CS CP CT CX CDr:Addr}{fd:FuncData}{mB mS mP mT mX mD:List Value}
 {a1 a2 a3 fN:Addr}{d1 d2 d3 dN:FuncData}
theorem ok_Y60 (F_Y60:Fun K "_law_ask" "_law_ask" s_Y60 f fd)(X_E1:Exc K mg "NoBits" CB mB)(X_E2:Exc K mg "NoShares" CS mS)(X_E3:Exc K mg "NoPlace" CP mP)(X_E4:Exc K mg "NoStep" CT mT)(X_E5:Exc K mg "NoText" CX mX)(X_E0:Exc K mg "DrawError" CDr mD)
  (hB:mB.contains (.ref CDr)=true)(hS:mS.contains (.ref CDr)=true)(hP:mP.contains (.ref CDr)=true)(hT:mT.contains (.ref CDr)=true)(hX:mX.contains (.ref CDr)=true)
  (gH_Y37:FnOkH P w K mg base 2 fN dN p_Y37 (spNames CB CS CP CT CX))(mg_Y37:mg "_law_names"=some (.ref fN))(kp_Y37:PySem.W.keepIn K (.ref fN)=true)(bd__law_names:Binds K dN p_Y37 [])
  (g_Y20:FnX P w K mg base "_law_bitless" a1 d1 p_Y20 16 (spBl C CK CE CB))(g_Y24:FnX P w K mg base "_law_second" a2 d2 p_Y24 16 (spSec C CS CP CT CX 16 24))(g_Y38:FnX P w K mg base "_law_third" a3 d3 p_Y38 16 (spSec C CS CP CT CX 25 31)) :
  FnOk P w K mg base CX0 17 f fd p_Y60 (spAsk C CK CE):=by
 refine F_Y60.ok sc_Y60 (fun vs H Q E h=>?_) (fun cdv A outer s H vs Q E hr h=>?_)
 ·obtain⟨b,dx,r,kp,dk,ke,dke,be,dxe,re,l,bl,z,no,k,rfl,_⟩:=h
  rfl
 obtain⟨b,dx,r,kp,dk,ke,dke,be,dxe,re,l,bl,z,no,k,rfl,hW,hbe,hno,hk,h⟩:=h
 refine⟨_,(pss_cons (ps_set (i:=5) sc_Y60.nd rfl (Or.inl rfl) (pe_lst pa_nil))
   (pss_cons (ps_tryA 6 (fun ps Kx Ex hp=>(pss_one (ps_joinN (ps_if (pt_cmpR op_lt (pv 0) pe_int (nomark _)) (pss_one (ps_expr (pe_fnT hp g_Y20 hr (pa_cons (pv 0) (pa_cons (pv 1) (pa_cons (pv 2) (pa_cons (pv 3) pa_nil))))))) (pss_one (ps_joinN (ps_if (pt_cmpR op_lt (pv 0) pe_int (nomark _)) (pss_one (ps_expr (pe_fnT hp g_Y24 hr (pa_cons (pv 0) (pa_cons (pv 1) (pa_cons (pv 4) pa_nil)))))) (pss_one (ps_expr (pe_fnT hp g_Y38 hr (pa_cons (pv 0) (pa_cons (pv 1) (pa_cons (pv 4) pa_nil))))))))))))) X_E0 rfl (by decide) sc_Y60.nd rfl rfl (fun y=>(pss_one (ps_set (i:=5) sc_Y60.nd rfl (Or.inl rfl) (pe_fnH gH_Y37 mg_Y37 kp_Y37 bd__law_names ((hr.mono (by decide)).h _) (pa_cons (pv 6) pa_nil))))) rfl rfl rfl)
   (pss_one (ps_ret (pv 5))))),?_⟩
 refine⟨(by show 0≤sizeLine;decide),fun l0 f0=>?_⟩
 have y0:=same_new f0 (.lst ([]:List V))
 generalize upd H l0 (.lst ([]:List V))=H0 at y0 ⊢
 have hW0:=hW.same y0
 intro ps Kx
 -- what the handler does
 have hand:∀(n:Str)(Cx:Addr)(m:List Value)(x:Str),Exc K mg x Cx m→m.contains (.ref CDr)=true→Kd CB CS CP CT CX Cx n→∀(H1:Hp),(∀a H',Same H1 H'→H' a=some (.lst [.str n])→Q (.ref a) H') →
   takeA K mg CDr 6 (tAsg (tCall (spNames CB CS CP CT CX) [] E0 (tCons (tVar 6) tNil)) (gName 5)) { nx:=tRet (tVar 5) { nx:=fun _ H'=>Q .non H',rt:=Q },rt:=Q } [some (.int (k:Int)),some (.ref b),some (.ref kp),some (.ref ke),some (.int (no:Int)),some (.ref l0),none] (.ref Cx) none H1:=by
  intro n Cx m x hx hm hkd H1 q
  refine⟨x,Cx,m,rfl,hx,hm,fun e he=>?_⟩
  refine⟨_,rfl,e,Cx,n,rfl,upd_same,hkd,fun a H' s' ha=>?_⟩
  exact⟨_,rfl,q a H' ((same_new he _).trans s') ha⟩
 have hA0:=hW0.bits
 refine⟨fun _ _=>False,fun _ _ h=>h.elim,?_⟩
 by_cases c16:k<16
 ·refine⟨_,rfl,_,_,rfl,rfl,_,rfl,ite2 (fun _=>?_) (fun c=>absurd (decide_eq_true (show(k:Int)<16 by omega)) c)⟩
  refine⟨_,rfl,_,rfl,_,rfl,_,rfl,b,dx,r,kp,dk,ke,dke,be,dxe,re,l,bl,z,no,k,rfl,hW0,hbe,hno,?_⟩
  have hnm:nmK k=Str.ofString "NoBits":=if_pos c16
  rw[hnm]at h
  by_cases c15:k=15
  ·refine .inr ⟨c15,fun H1 g1=>?_⟩
   rcases h with ⟨n15,_⟩|⟨_,q⟩
   ·exact absurd c15 n15
   ·exact hand _ CB mB _ X_E1 hB (.inl ⟨rfl,rfl⟩) H1 fun a H' s' ha=>q a H' (((Grow.same y0).trans g1).trans (Grow.same s')) ha
  ·refine .inl ⟨by omega,fun H1 w1 o1=>?_⟩
   rcases h with ⟨_,q⟩|⟨e15,_⟩
   ·exact hand _ CB mB _ X_E1 hB (.inl ⟨rfl,rfl⟩) H1 fun a H' s' ha=>q a H' (w1.same s') (((Oth.same y0).trans o1).trans (Oth.same s')) ha
   ·exact absurd e15 c15
 ·refine⟨_,rfl,_,_,rfl,rfl,_,rfl,ite2 (fun c=>absurd (of_decide_eq_true c) (by show ¬(k:Int)<16;omega)) (fun _=>?_)⟩
  refine⟨fun _ _=>False,fun _ _ h=>h.elim,?_⟩
  obtain⟨_,q⟩|⟨e15,_⟩:=h
  rotate_left
  ·exact absurd e15 (by omega)
  have fin:∀H1,Same H0 H1→takeA K mg CDr 6 (tAsg (tCall (spNames CB CS CP CT CX) [] E0 (tCons (tVar 6) tNil)) (gName 5)) { nx:=tRet (tVar 5) { nx:=fun _ H'=>Q .non H',rt:=Q },rt:=Q } [some (.int (k:Int)),some (.ref b),some (.ref kp),some (.ref ke),some (.int (no:Int)),some (.ref l0),none] (.ref (kcl CS CP CT CX k)) none H1:=by
   intro H1 s1
   have go:∀a H',Same H1 H'→H' a=some (.lst [.str (nmK k)])→Q (.ref a) H':=fun a H' s' ha=>q a H' ((hW0.same s1).same s') (Oth.same ((y0.trans s1).trans s')) ha
   unfold kcl
   unfold nmK at go
   rw[if_neg c16]at go
   by_cases c20:k<20
   ·rw[if_pos c20]at go ⊢
    exact hand _ CS mS _ X_E2 hS (.inr (.inl ⟨rfl,rfl⟩)) H1 go
   rw[if_neg c20]at go ⊢
   by_cases c29:k=29
   ·rw[if_pos c29]at go ⊢
    exact hand _ CT mT _ X_E4 hT (.inr (.inr (.inr (.inl ⟨rfl,rfl⟩)))) H1 go
   rw[if_neg c29]at go ⊢
   by_cases c31:k=31
   ·rw[if_pos c31]at go ⊢
    exact hand _ CX mX _ X_E5 hX (.inr (.inr (.inr (.inr ⟨rfl,rfl⟩)))) H1 go
   rw[if_neg c31]at go ⊢
   exact hand _ CP mP _ X_E3 hP (.inr (.inr (.inl ⟨rfl,rfl⟩))) H1 go
  by_cases c25:k<25
  ·refine⟨_,rfl,_,_,rfl,rfl,_,rfl,ite2 (fun _=>?_) (fun c=>absurd (decide_eq_true (show(k:Int)<25 by omega)) c)⟩
   exact⟨_,rfl,_,rfl,_,rfl,b,dx,r,bl,z,no,k,rfl,hA0,hW.bin,hno,by omega,by omega,fin⟩
  ·refine⟨_,rfl,_,_,rfl,rfl,_,rfl,ite2 (fun c=>absurd (of_decide_eq_true c) (by show ¬(k:Int)<25;omega)) (fun _=>?_)⟩
   exact⟨_,rfl,_,rfl,_,rfl,b,dx,r,bl,z,no,k,rfl,hA0,hW.bin,hno,by omega,by omega,fin⟩
end
theorem prd_of {R:V→V→Prop}:∀{xs ys:List V},xs.length=ys.length→(∀(j:Nat)(x y:V),xs[j]?=some x→ys[j]?=some y→R x y)→Paired R xs ys
 | [],[],_,_=>.nil
 | x::xs,y::ys,hl,h=>.cons (h 0 x y rfl rfl) (prd_of (Nat.succ.inj hl) fun j a b e1 e2=>h (j+1) a b (by simpa using e1) (by simpa using e2))
 | [],_::_,hl,_=>by cases hl
 | _::_,[],hl,_=>by cases hl
theorem told_keeps {K:PySem.W.Frag}{C CE:Addr}{H H':Hp}{ke dke be dxe p l b dx rr a t:Addr}{w c k z:Nat}{xs:List V}{bl el:List Nat}{ze:Nat}{ns:List Int}(hK:KAt CE H ke dke be l w c xs)(hE:At C H be dxe p el ze)(hbe:be≠b)(nkb:ke≠b)(nlt:t≠l)(hS:Scr K H a ns)(tw:Twn H t k)(hA:At C H b dx rr bl z)
  (kB:∀a o,a≠be→a≠ke→a≠l→H a=some o→H' a=some o):Scr K H' a ns∧Twn H' t k∧At C H' b dx rr bl z:=by
 refine⟨?_,kB _ _ (fun y=>twn_ins tw hE.obj y.symm) (fun y=>twn_ins tw hK.obj y.symm) nlt tw,⟨kB _ _ (Ne.symm hbe) (Ne.symm nkb) (fun y=>by have:=hA.obj;rw[y,hK.lst]at this;cases this) hA.obj,kB _ _ (fun y=>by have:=hA.row;rw[y,hE.obj]at this;cases this) (fun y=>by have:=hA.row;rw[y,hK.obj]at this;cases this) (fun y=>by have:=hA.row;rw[y,hK.lst]at this;cases this) hA.row,hA.le⟩⟩
 rcases hS with ⟨o,h⟩|h
 ·exact .inl ⟨o,kB _ _ (fun y=>by rw[y,hE.obj]at h;cases h) (fun y=>by rw[y,hK.obj]at h;cases h) (fun y=>by rw[y,hK.lst]at h;cases h) h⟩
 ·exact .inr h
def spLaw (K:PySem.W.Frag):Sp:=fun vs H Q _=>∃(a:Addr)(ns:List Int),vs=[.ref a]∧Scr K H a ns∧ns.length≤63∧∀H',Q (.bl true) H'
section
variable {P:Program}{w:World}{K:PySem.W.Frag}{mg:Str→Option Value}{base:Heap}{f C CK CE CB:Addr}{fd:FuncData}
 {fI fT fU fL fG:Addr}{dI dT dU dL dG:FuncData}{kI kR kD:Addr}{jI jR jD:FuncData}{eI eT eK eM:Addr}{lI lT lK lM:FuncData}
theorem ok_law (F_law:Fun K "law" "law" s_law f fd)(B:Bl mg)(T:Txt K mg C fI fT fU fL fG dI dT dU dL dG)(TK:TxtK K mg CK kI kR kD jI jR jD)(TE:TxtE K mg CE eI eT eK eM lI lT lK lM)
  (g_Y46:Fn P w K mg base "_law_draw" p_Y46 1 (spDraw K))(g_init:FnOk P w K mg base CX0 1 fI dI p_Y10 (spInit C))(g_used:FnOk P w K mg base CX0 1 fU dU p_Y41 (spUsed C))(g_take:FnOk P w K mg base (CXR P w) 2 fT dT p_Y51 (spTakeB C CB))
  (g_initTK:FnOk P w K mg base CX0 1 kI jI p_Y5 (spInitK CK))(g_room:FnOk P w K mg base CX0 1 kR jR p_Y21 (spRoomK CK))(g_initTE:FnOk P w K mg base CX0 1 eI lI p_Y9 (spInitE CE))(g_tell:FnOk P w K mg base (CXR P w) 7 eT lT p_Y53 (spTellE C CE CB))(g_kept:FnOk P w K mg base CX0 1 eK lK p_Y49 (spKeptE CE))(g_many:FnOk P w K mg base CX0 1 eM lM p_Y50 (spManyE CE))
  (g_Y60:Fn P w K mg base "_law_ask" p_Y60 17 (spAsk C CK CE)):FnOk P w K mg base CX0 24 f fd p_law (spLaw K):=by
 refine F_law.ok sc_law (fun vs H Q E h=>?_) (fun cdv A outer s H vs Q E hr h=>?_)
 ·obtain⟨a,ns,rfl,_⟩:=h
  rfl
 obtain⟨a,ns,rfl,hS,h63,q⟩:=h
 refine⟨_,(pss_cons (ps_set (i:=1) sc_law.nd rfl (Or.inr rfl) (pe_lst pa_nil))
   (pss_cons (ps_for PassesOwn.never rfl (pi_range1 rfl B.range_ (pa_cons pe_int pa_nil)) (pg_name (i:=2) sc_law.nd rfl (Or.inl rfl)) (pss_cons (ps_set (i:=3) sc_law.nd rfl (Or.inl rfl) (pe_fn g_Y46 hr (pa_cons (pv 0) (pa_cons (pv 1) (pa_cons pe_int pa_nil)))))
   (pss_cons (ps_set (i:=4) sc_law.nd rfl (Or.inr rfl) (pe_make T.made g_init (hr.mono (by first|decide|omega)) rfl T.mgC T.b_init .nil pass0 (pa_cons (pe_op op_cat0 (pe_callTy call_tuple_of rfl B.tuple_ L3.bt_tuple (pa_cons (pe_comp [6] ["_law_script","_law_town","_law_k","_law_ahead","_law_bits","_law_kept","_law_j","_law_no","_law_keeper","_law_due","_law_told"] 0 rfl (pi_range1 rfl B.range_ (pa_cons (pv 3) pa_nil)) (fun _ _ _ _ _=>(pg_name (i:=6) nd_13 rfl (Or.inl rfl) (Or.inr rfl))) (fun _ _ _ _ _=>pif_nil) (fun _ _ _ _ _=>(pe_fn g_Y46 hr (pa_cons (pv 0) (pa_cons (pv 1) (pa_cons pe_int pa_nil)))))) pa_nil)) (pe_tup (pa_cons pe_int (pa_cons pe_int pa_nil)))) pa_nil)))
   (pss_cons (ps_set (i:=5) sc_law.nd rfl (Or.inr rfl) (pe_make TE.made g_initTE (hr.mono (by first|decide|omega)) rfl TE.mgC TE.b_init .nil pass0 (pa_cons (pe_make T.made g_init (hr.mono (by first|decide|omega)) rfl T.mgC T.b_init .nil pass0 (pa_cons (pe_tup pa_nil) pa_nil)) (pa_cons pe_int pa_nil))))
   (pss_cons (ps_expr (pe_meth (pv 5) TE.cl TE.m_tell g_tell (hr.mono (by first|decide|omega)) TE.b_tell .nil passR0 (pa_cons pe_str pa_nil)))
   (pss_cons (ps_expr (pe_meth (pv 5) TE.cl TE.m_tell g_tell (hr.mono (by first|decide|omega)) TE.b_tell .nil passR0 (pa_cons pe_str pa_nil)))
   (pss_cons (ps_for PassesOwn.never rfl (pi_range1 rfl B.range_ (pa_cons (pv 3) pa_nil)) (pg_name (i:=6) sc_law.nd rfl (Or.inl rfl)) (pss_one (ps_expr (pe_meth0 (pv 4) T.cl T.m_take g_take (hr.mono (by first|decide|omega)) T.b_take .nil passR0))))
   (pss_cons (ps_set (i:=7) sc_law.nd rfl (Or.inr rfl) (pe_fn g_Y46 hr (pa_cons (pv 0) (pa_cons (pv 1) (pa_cons pe_int pa_nil)))))
   (pss_cons (ps_set (i:=8) sc_law.nd rfl (Or.inr rfl) (pe_make TK.made g_initTK (hr.mono (by first|decide|omega)) rfl TK.mgC TK.b_init .nil pass0 (pa_cons (pv 4) (pa_cons (pe_op op_add (pv 7) pe_int) pa_nil))))
   (pss_cons (ps_set (i:=9) sc_law.nd rfl (Or.inl rfl) (pe_op op_rep (pe_lst (pa_cons (pe_lst (pa_cons pe_str pa_nil)) pa_nil)) pe_int))
   (pss_cons (ps_comp 10 [6] ["_law_script","_law_town","_law_k","_law_ahead","_law_bits","_law_kept","_law_j","_law_no","_law_keeper","_law_due","_law_told"] 0 rfl sc_law.nd rfl rfl (pi_range1 rfl B.range_ (pa_cons pe_int pa_nil)) (fun _ _ _ _ _=>(pg_name (i:=6) nd_14 rfl (Or.inl rfl) (Or.inr rfl))) (fun _ _ _ _ _=>pif_nil) (fun _ _ _ _ _=>(pe_fn g_Y60 hr (pa_cons (pv 6) (pa_cons (pv 4) (pa_cons (pv 8) (pa_cons (pv 5) (pa_cons (pv 7) pa_nil))))))))
   (pss_cons (ps_if (PW.pt (pw_or (pt_cmpR (op_neS hr.units) (pv 10) (pv 9) (nomark _)) (pw_or (pt_cmpR op_ne (pe_meth0 (pv 4) T.cl T.m_used g_used (hr.mono (by first|decide|omega)) T.b_used .nil pass0) (pv 3) (nomark _)) (pw_or1 (pt_cmpR (op_neS hr.units) (pe_meth0 (pv 8) TK.cl TK.m_room g_room (hr.mono (by first|decide|omega)) TK.b_room .nil pass0) (pe_tup (pa_cons pe_int (pa_cons pe_int pa_nil))) (nomark _)))))) (pss_one (ps_ret pe_bl)) pss_nil)
   (pss_cons (ps_if (pt_cmpR (op_neS hr.units) (pe_tup (pa_cons (pe_meth0 (pv 5) TE.cl TE.m_kept g_kept (hr.mono (by first|decide|omega)) TE.b_kept .nil pass0) (pa_cons (pe_meth0 (pv 5) TE.cl TE.m_many g_many (hr.mono (by first|decide|omega)) TE.b_many .nil pass0) pa_nil))) (pe_tup (pa_cons (pe_tup (pa_cons pe_str (pa_cons pe_str pa_nil))) (pa_cons pe_int pa_nil))) (nomark _)) (pss_one (ps_ret pe_bl)) pss_nil)
   (pss_cons (ps_set (i:=9) sc_law.nd rfl (Or.inl rfl) (pe_op op_cat (pe_op op_cat (pe_op op_rep (pe_lst (pa_cons (pe_lst (pa_cons pe_str pa_nil)) pa_nil)) pe_int) (pe_op op_rep (pe_lst (pa_cons (pe_lst (pa_cons pe_str pa_nil)) pa_nil)) pe_int)) (pe_lst (PB.go (pb_cons (pe_lst (pa_cons pe_str pa_nil)) (pb_cons (pe_lst (pa_cons pe_str pa_nil)) (pb_cons (pe_lst (pa_cons pe_str pa_nil)) pb_nil se_List) se_List) se_List)))))
   (pss_cons (ps_comp 10 [6] ["_law_script","_law_town","_law_k","_law_ahead","_law_bits","_law_kept","_law_j","_law_no","_law_keeper","_law_due","_law_told"] 0 rfl sc_law.nd rfl rfl (pi_range2 rfl B.range_ (pa_cons pe_int (pa_cons pe_int pa_nil))) (fun _ _ _ _ _=>(pg_name (i:=6) nd_15 rfl (Or.inl rfl) (Or.inr rfl))) (fun _ _ _ _ _=>pif_nil) (fun _ _ _ _ _=>(pe_fn g_Y60 hr (pa_cons (pv 6) (pa_cons (pv 4) (pa_cons (pv 8) (pa_cons (pv 5) (pa_cons (pv 7) pa_nil))))))))
   (pss_one (ps_if (PW.pt (pw_or (pt_cmpR (op_neS hr.units) (pv 10) (pv 9) (nomark _)) (pw_or (pt_cmpR op_ne (pe_meth0 (pv 4) T.cl T.m_used g_used (hr.mono (by first|decide|omega)) T.b_used .nil pass0) (pv 3) (nomark _)) (pw_or1 (pt_cmpR (op_neS hr.units) (pe_fn g_Y60 hr (pa_cons pe_int (pa_cons (pv 4) (pa_cons (pv 8) (pa_cons (pv 5) (pa_cons (pv 7) pa_nil)))))) (pe_lst (pa_cons pe_str pa_nil)) (nomark _)))))) (pss_one (ps_ret pe_bl)) pss_nil)))))))))))))))))
   (pss_one (ps_ret pe_bl)))),?_⟩
 refine⟨(by show 0≤sizeLine;decide),fun t ft=>?_⟩
 have sT:=same_new ft (.lst ([]:List V))
 have hT:Twn (upd H t (.lst [])) t 0:=upd_same
 replace hS:=sT.scr hS
 generalize upd H t (.lst [])=H0 at hS hT
 clear sT ft
 refine⟨3,rfl,by decide,by decide,for_range (lo:=0) (n:=3) (fun i σ' H'=>∃(k:Nat)(o2 o3 o4 o5 o6 o7 o8 o9 o10:Option V),σ'=[some (.ref a),some (.ref t),o2,o3,o4,o5,o6,o7,o8,o9,o10]∧Scr K H' a ns∧Twn H' t k∧k≤8*i)
  ⟨0,_,_,_,_,_,_,_,_,_,rfl,hS,hT,by omega⟩ ?_ ?_⟩
 rotate_left
 ·rintro σ' H' _
  exact q H'
 clear hS hT
 rintro i σ' H1 hi ⟨k,o2,o3,o4,o5,o6,o7,o8,o9,o10,rfl,hS,hT,hk⟩
 -- how many ahead
 refine⟨_,rfl,_,rfl,a,t,ns,k,4,rfl,hS,h63,hT,by omega,by decide,fun H2 g2 t2=>?_⟩
 have e0:=drw_nn ns (k+1) (show(0:Int)<4 by decide)
 have e1:=drw_lt ns (k+1) (show(0:Int)<4 by decide)
 generalize drw ns (k+1) 4=dv at e0 e1
 obtain⟨m,rfl⟩:=nat_of e0
 have hS2:=g2.scr hT hS
 clear hS hT g2 e0
 -- the row
 refine⟨_,rfl,(m:Int),rfl,by omega,by omega,comp_range (lo:=0) (n:=m) (fun j acc σ' H'=>∃(bs:List Nat)(o6:Option V),acc=vbits bs∧bs.length=j∧(∀y∈bs,y≤1)∧σ'=[some (.ref a),some (.ref t),some (.int (0+(i:Int))),some (.int (m:Int)),o4,o5,o6,o7,o8,o9,o10]∧Scr K H' a ns∧Twn H' t (k+1+j))
  ⟨[],_,rfl,rfl,(fun y hy=>by cases hy),rfl,hS2,t2⟩ (fun j acc σ' H' hj ⟨bs,_,e,hl,_⟩=>by rw[e,vbits_len,hl];omega) ?_ ?_⟩
 ·clear hS2 t2
  rintro j acc σ' H' hj ⟨bs,o6,rfl,hl,hb,rfl,hS2,t2⟩
  unfold gName
  dsimp only
  rw[if_pos rfl]
  refine⟨_,rfl,_,rfl,a,t,ns,k+1+j,2,rfl,hS2,h63,t2,by omega,by decide,fun H3 g3 t3=>?_⟩
  have d0:=drw_nn ns (k+1+j+1) (show(0:Int)<2 by decide)
  have d1:=drw_lt ns (k+1+j+1) (show(0:Int)<2 by decide)
  generalize drw ns (k+1+j+1) 2=dw at d0 d1
  obtain⟨x,rfl⟩:=nat_of d0
  refine⟨bs++[x],_,by rw[vbits,vbits,List.map_append];rfl,by rw[List.length_append,hl];rfl,fun y hy=>?_,rfl,g3.scr t2 hS2,t3⟩
  rcases List.mem_append.mp hy with hy|hy
  ·exact hb y hy
  ·have:y=x:=by simpa using hy
   omega
 clear hS2 t2
 rintro acc σ' H3 D ⟨bs,o6',rfl,hbl,hbin,rfl,hS3,t3⟩ fD
 have yD:=same_new fD (.lst (vbits bs))
 refine⟨D,_,rfl,.inl ⟨SqL.of upd_same,fun L fL=>?_⟩⟩
 have yL:=same_new fL (.tup (vbits bs))
 have wL:(upd (upd H3 D (.lst (vbits bs))) L (.tup (vbits bs))) L=some (.tup (vbits bs)):=upd_same
 have s4:=yD.trans yL
 generalize upd (upd H3 D (.lst (vbits bs))) L (.tup (vbits bs))=H4 at s4 wL ⊢
 refine⟨(by show 2≤sizeLine;decide),fun p fp=>?_⟩
 have yp:=same_new fp (.tup [V.int 1,V.int 1])
 have wp:(upd H4 p (.tup [V.int 1,V.int 1])) p=some (.tup [V.int 1,V.int 1]):=upd_same
 generalize upd H4 p (.tup [V.int 1,V.int 1])=H5 at yp wp ⊢
 refine cat34 (yp _ _ wL) wp (by rw[vbits_len];show bs.length+2≤_;omega) fun rr H6 s6 hrr=>?_
 have hrr':H6 rr=some (.tup (vbits (bs++[1,1]))):=by rw[hrr,vbits,vbits,List.map_append];rfl
 have s36:=(s4.trans yp).trans s6
 have hS6:=s36.scr hS3
 have t6:=s36.twn t3
 clear hS3 t3 yD yL wL s4 yp wp s6 hrr s36 fD fL fp
 intro b dx nb ndx nex
 have y7:Same H6 (upd (upd H6 dx (.own b)) b (.ins C dx [])):=fun c o y=>by
  rw[upd_ne (ne_of_none y nb),upd_ne (ne_of_none y ndx)]
  exact y
 refine⟨b,dx,rr,_,rfl,upd_same,y7 _ _ hrr',fun H7 e7 kp7=>⟨rfl,?_⟩⟩
 have s7:Same H6 H7:=fun c o y=>kp7 c o (y7 c o y) (ne_of_none y nb)
 have hA7:At C H7 b dx rr (bs++[1,1]) 0:=⟨e7,s7 _ _ hrr',Nat.zero_le _⟩
 have hS7:=s7.scr hS6
 have t7:=s7.twn t6
 clear hS6 t6 hrr' y7 e7 kp7 s7 nb ndx nex
 -- what is kept
 refine⟨(by show 0≤sizeLine;decide),fun p fp=>?_⟩
 have yp:=same_new fp (.tup ([]:List V))
 have wp:(upd H7 p (.tup [])) p=some (.tup ([]:List V)):=upd_same
 generalize upd H7 p (.tup [])=H8 at yp wp ⊢
 intro be dxe nb ndx nex
 have y9:Same H8 (upd (upd H8 dxe (.own be)) be (.ins C dxe [])):=fun c o y=>by
  rw[upd_ne (ne_of_none y nb),upd_ne (ne_of_none y ndx)]
  exact y
 refine⟨be,dxe,p,_,rfl,upd_same,y9 _ _ wp,fun H9 e9 kp9=>⟨rfl,?_⟩⟩
 have s9:Same H8 H9:=fun c o y=>kp9 c o (y9 c o y) (ne_of_none y nb)
 have hE9:At C H9 be dxe p [] 0:=⟨e9,s9 _ _ wp,Nat.zero_le _⟩
 have hbe:be≠b:=fun y=>by have:=yp _ _ hA7.obj;rw[←y,nb]at this;cases this
 have s79:=yp.trans s9
 have hA9:=hA7.same s79
 have hS9:=s79.scr hS7
 have t9:=s79.twn t7
 clear hS7 t7 hA7 yp wp y9 e9 kp9 s9 s79 nb ndx nex fp
 intro ke dke nb ndx nex
 have y10:Same H9 (upd (upd H9 dke (.own ke)) ke (.ins CE dke [])):=fun c o y=>by
  rw[upd_ne (ne_of_none y nb),upd_ne (ne_of_none y ndx)]
  exact y
 have nkb:ke≠b:=fun y=>by have:=hA9.obj;rw[←y,nb]at this;cases this
 have nke:ke≠be:=fun y=>by have:=hE9.obj;rw[←y,nb]at this;cases this
 refine⟨ke,dke,be,2,rfl,upd_same,fun l HA fl eA lA kpA=>⟨rfl,?_⟩⟩
 have nlt:t≠l:=ne_of_none (y10 _ _ t9) fl
 have sA:Same H9 HA:=fun c o y=>kpA c o (y10 c o y) (ne_of_none y nb)
 have hK:KAt CE HA ke dke be l 2 0 []:=⟨eA,lA,rfl⟩
 have hAA:=hA9.same sA
 have hEA:=hE9.same sA
 have hSA:=sA.scr hS9
 have tA:=sA.twn t9
 clear hA9 hE9 hS9 t9 sA y10 nb ndx nex eA lA kpA fl
 -- two things are told
 refine⟨_,rfl,ke,dke,_,rfl,hK.obj,ef_no _ _ _ _ (by decide +kernel) (by decide +kernel) (by decide +kernel) (by decide +kernel),ke,dke,be,dxe,p,l,[],0,2,0,[],_,rfl,hK,hEA,by decide,by decide,fun v xs' u HB h kB eB hKB=>?_,fun HB h=>absurd h (by intro y;cases y)⟩
 cases h
 obtain⟨hSB,tB,hAB⟩:=told_keeps hK hEA hbe nkb nlt hSA tA hAA kB
 clear hSA tA hAA kB hEA hK
 refine⟨_,rfl,ke,dke,_,rfl,hKB.obj,ef_no _ _ _ _ (by decide +kernel) (by decide +kernel) (by decide +kernel) (by decide +kernel),ke,dke,be,dxe,p,l,[],0,2,1,_,_,rfl,hKB,eB,by decide,by decide,fun v xs' u HC h kC eC hKC=>?_,fun HC h=>absurd h (by intro y;cases y)⟩
 cases h
 obtain⟨hSC,tC,hAC⟩:=told_keeps hKB eB hbe nkb nlt hSB tB hAB kC
 clear hSB tB hAB kC eB hKB
 have hKC':KAt CE HC ke dke be l 2 2 [.str "a",.str "b"]:=hKC
 have eC':At C HC be dxe p [] 0:=eC
 clear hKC eC
 -- the first bits are taken
 have hlen:(bs++[1,1]).length=m+2:=by rw[List.length_append,hbl];rfl
 refine⟨_,rfl,(m:Int),rfl,by omega,by omega,for_range (lo:=0) (n:=m) (fun j σ' H'=>∃o6:Option V,σ'=[some (.ref a),some (.ref t),some (.int (0+(i:Int))),some (.int (m:Int)),some (.ref b),some (.ref ke),o6,o7,o8,o9,o10]∧Grow b HC H'∧At C H' b dx rr (bs++[1,1]) j) ⟨_,rfl,Grow.refl _ _,hAC⟩ ?_ ?_⟩
 ·rintro j σ' H' hj ⟨o6,rfl,g,a'⟩
  exact⟨_,rfl,b,dx,_,rfl,a'.obj,flds_no _ _ (by decide +kernel) (by decide +kernel),b,dx,rr,_,j,rfl,a',fun x H2 hx g2 a2=>⟨_,rfl,g.trans g2,a2⟩,fun hz=>absurd hz (by omega)⟩
 rintro σ' HD ⟨o6,rfl,gD,aD⟩
 have hSD:Scr K HD a ns:=grow_scrB gD hAC hSC
 have tD:Twn HD t (k+1+m):=grow_twnB gD hAC tC
 have nb2:∀{c o},c≠b→HC c=some o→HD c=some o:=fun n e=>gD _ _ n e
 have hKD:KAt CE HD ke dke be l 2 2 [.str "a",.str "b"]:=⟨nb2 nkb hKC'.obj,nb2 (fun y=>by have:=hKC'.lst;rw[y,hAC.obj]at this;cases this) hKC'.lst,hKC'.len⟩
 have eD:At C HD be dxe p [] 0:=eC'.grow gD hbe (fun y=>by have:=eC'.row;rw[y,hAC.obj]at this;cases this)
 clear hSC tC hAC hKC' eC' gD nb2
 -- a number
 refine⟨_,rfl,_,rfl,a,t,ns,k+1+m,9,rfl,hSD,h63,tD,by omega,by decide,fun HE gE tE=>?_⟩
 have d0:=drw_nn ns (k+1+m+1) (show(0:Int)<9 by decide)
 have d1:=drw_lt ns (k+1+m+1) (show(0:Int)<9 by decide)
 generalize drw ns (k+1+m+1) 9=dw at d0 d1
 obtain⟨no,rfl⟩:=nat_of d0
 have hSE:=gE.scr tD hSD
 have aE:=aD.town tD gE
 have eE:=eD.town tD gE
 have hKE:KAt CE HE ke dke be l 2 2 [.str "a",.str "b"]:=⟨gE _ _ (twn_ins tD hKD.obj) hKD.obj,gE _ _ (Ne.symm nlt) hKD.lst,hKD.len⟩
 clear hSD tD gE aD eD hKD d0
 -- a keeper
 refine⟨_,rfl,_,rfl,_,_,rfl,rfl,?_⟩
 intro kp dk nb ndx nex
 have yF:Same HE (upd (upd HE dk (.own kp)) kp (.ins CK dk [])):=fun c o y=>by
  rw[upd_ne (ne_of_none y nb),upd_ne (ne_of_none y ndx)]
  exact y
 have n1:kp≠b:=fun y=>by have:=aE.obj;rw[←y,nb]at this;cases this
 have n2:kp≠be:=fun y=>by have:=eE.obj;rw[←y,nb]at this;cases this
 refine⟨kp,dk,b,(no:Int)+1,rfl,upd_same,fun HF eF kF=>⟨rfl,?_⟩⟩
 have sF:Same HE HF:=fun c o y=>kF c o (yF c o y) (ne_of_none y nb)
 have hW:W39 C CK CE HF b dx rr kp dk ke dke be dxe p l (bs++[1,1]) m no:=⟨aE.same sF,by rw[List.drop_left' hbl],fun y hy=>by
  rcases List.mem_append.mp hy with hy|hy
  ·exact hbin y hy
  ·have:y=1:=by simpa using hy
   omega,by rw[eF];rfl,⟨sF _ _ hKE.obj,sF _ _ hKE.lst,hKE.len⟩,eE.same sF,n1,n2,nkb,nke⟩
 have hSF:=sF.scr hSE
 have tF:=sF.twn tE
 clear hSE tE aE eE hKE yF eF kF sF nb ndx nex hbin
 -- the first due
 refine⟨(by show 1≤sizeLine;decide),fun i1 f1=>?_⟩
 have y1:=same_new f1 (.lst [V.str (Str.ofString "NoBits")])
 have w1:(upd HF i1 (.lst [V.str (Str.ofString "NoBits")])) i1=some (.lst [V.str (Str.ofString "NoBits")]):=upd_same
 generalize upd HF i1 (.lst [V.str (Str.ofString "NoBits")])=G1 at y1 w1 ⊢
 refine⟨(by show 1≤sizeLine;decide),fun i2 f2=>?_⟩
 have y2:=same_new f2 (.lst [V.ref i1])
 have w2:(upd G1 i2 (.lst [V.ref i1])) i2=some (.lst [V.ref i1]):=upd_same
 generalize upd G1 i2 (.lst [V.ref i1])=G2 at y2 w2 ⊢
 refine⟨i2,15,_,rfl,rfl,w2,by decide,by decide,(by show 15≤sizeLine;decide),fun d fd=>?_⟩
 have y3:=same_new fd (.lst (List.replicate 15 [V.ref i1]).flatten)
 have w3:(upd G2 d (.lst (List.replicate 15 [V.ref i1]).flatten)) d=some (.lst (List.replicate 15 (V.ref i1))):=by rw[upd_same];rfl
 show tSeq _ _ _ _ (upd G2 d (.lst (List.replicate 15 [V.ref i1]).flatten))
 generalize upd G2 d (.lst (List.replicate 15 [V.ref i1]).flatten)=G3 at y3 w3 ⊢
 have s3:=(y1.trans y2).trans y3
 have wi:=(y2.trans y3) _ _ w1
 have hW3:=hW.same s3
 have hS3:=s3.scr hSF
 have t3:=s3.twn tF
 clear hW hSF tF y1 y2 y3 w1 w2 s3 f1 f2 fd
 have nbl:∀{H':Hp}{c:Addr}{xs:List V},W39 C CK CE H' b dx rr kp dk ke dke be dxe p l (bs++[1,1]) m no→H' c=some (.lst xs)→c≠b∧c≠be:=fun {H' c xs} w e=>⟨(fun y=>by rw[y,w.bits.obj]at e;cases e),(fun y=>by rw[y,w.eb.obj]at e;cases e)⟩
 have oth_scr:∀{H1 H2:Hp},W39 C CK CE H1 b dx rr kp dk ke dke be dxe p l (bs++[1,1]) m no→Oth b be H1 H2→Scr K H1 a ns→Scr K H2 a ns:=fun {H1 H2} w o h=>by
  rcases h with ⟨ob,h⟩|h
  ·exact .inl ⟨ob,o _ _ (fun y=>by rw[y,w.bits.obj]at h;cases h) (fun y=>by rw[y,w.eb.obj]at h;cases h) h⟩
  ·exact .inr h
 -- the first told
 refine⟨15,rfl,by decide,by decide,comp_range (lo:=0) (n:=15) (fun j acc σ' H'=>∃(as:List Addr)(o6:Option V),acc=as.map V.ref∧as.length=j∧σ'=[some (.ref a),some (.ref t),some (.int (0+(i:Int))),some (.int (m:Int)),some (.ref b),some (.ref ke),o6,some (.int (no:Int)),some (.ref kp),some (.ref d),o10]∧W39 C CK CE H' b dx rr kp dk ke dke be dxe p l (bs++[1,1]) m no∧Oth b be G3 H'∧∀x∈as,H' x=some (.lst [V.str (Str.ofString "NoBits")]))
  ⟨[],_,rfl,rfl,rfl,hW3,Oth.refl _ _ _,fun x hx=>by cases hx⟩ (fun j acc σ' H' hj ⟨as,_,e,hl,_⟩=>by rw[e,List.length_map,hl];omega) ?_ ?_⟩
 ·rintro j acc σ' H' hj ⟨as,o6,rfl,hl,rfl,w',o',hx'⟩
  unfold gName
  dsimp only
  rw[if_pos rfl]
  refine⟨_,rfl,_,rfl,_,rfl,_,rfl,_,rfl,b,dx,rr,kp,dk,ke,dke,be,dxe,p,l,_,m,no,j,by rw[Int.zero_add];rfl,w',hbe,by omega,by omega,.inl ⟨by omega,fun x H'' w'' o'' hx=>?_⟩⟩
  refine⟨as++[x],_,by rw[List.map_append];rfl,by rw[List.length_append,hl];rfl,rfl,w'',o'.trans o'',fun y hy=>?_⟩
  rcases List.mem_append.mp hy with hy|hy
  ·exact o'' _ _ (nbl w' (hx' y hy)).1 (nbl w' (hx' y hy)).2 (hx' y hy)
  ·have:y=x:=by simpa using hy
   rw[this,hx]
   have:nmK j=Str.ofString "NoBits":=if_pos (by omega)
   rw[this]
 rintro acc σ' G4 T1 ⟨as,o6,rfl,hl,rfl,hW4,o4,hx4⟩ fT1
 have yT:=same_new fT1 (.lst (as.map V.ref))
 have wT:(upd G4 T1 (.lst (as.map V.ref))) T1=some (.lst (as.map V.ref)):=upd_same
 generalize upd G4 T1 (.lst (as.map V.ref))=G5 at yT wT ⊢
 have hW5:=hW4.same yT
 have wd5:=yT _ _ (o4 _ _ (nbl hW3 w3).1 (nbl hW3 w3).2 w3)
 have wi5:=yT _ _ (o4 _ _ (nbl hW3 wi).1 (nbl hW3 wi).2 wi)
 have hS5:=yT.scr (oth_scr hW3 o4 hS3)
 have t5:Twn G5 t (k+1+m+1):=yT _ _ (o4 _ _ (nbl hW3 t3).1 (nbl hW3 t3).2 t3)
 have hx5:∀x∈as,G5 x=some (.lst [V.str (Str.ofString "NoBits")]):=fun x hx=>yT _ _ (hx4 x hx)
 clear hW3 hS3 t3 wi w3 hW4 o4 hx4 yT fT1
 -- compared
 refine⟨_,rfl,_,rfl,2,T1,d,_,_,by decide,rfl,rfl,.inr ⟨wT,wd5⟩,prd_of (by rw[List.length_map,List.length_replicate,hl]) (fun j x y e1 e2=>?_),_,rfl,iteF ?_⟩
 ·rw[List.getElem?_map]at e1
  obtain⟨x',hx',rfl⟩:∃x',as[j]?=some x'∧x=.ref x':=by
   cases e:as[j]? with
   | none=>rw[e]at e1;cases e1
   | some x'=>rw[e]at e1;exact⟨x',rfl,(Option.some.inj e1).symm⟩
  have:y=.ref i1:=List.eq_of_mem_replicate (List.mem_of_getElem? e2)
  rw[this]
  exact .inr ⟨x',i1,_,_,rfl,rfl,.inr ⟨hx5 x' (List.mem_of_getElem? hx'),wi5⟩,.cons (.inl ⟨rfl,.inr ⟨_,rfl⟩⟩) .nil⟩
 refine⟨_,rfl,b,dx,_,rfl,hW5.bits.obj,flds_no _ _ (by decide +kernel) (by decide +kernel),b,dx,rr,m,rfl,hW5.bits.obj,_,rfl,rfl,_,rfl,ite2 (fun c=>absurd c (by rw[decide_eq_true rfl];decide)) (fun _=>?_)⟩
 refine⟨_,rfl,kp,dk,_,rfl,hW5.keep,kf_no _ _ _ _ (by decide +kernel) (by decide +kernel) (by decide +kernel) (by decide +kernel),kp,dk,b,_,0,1,rfl,hW5.keep,fun q1 fq1=>?_⟩
 have yq:=same_new fq1 (.tup [V.int 0,V.int 1])
 have wq:(upd G5 q1 (.tup [V.int 0,V.int 1])) q1=some (.tup [V.int 0,V.int 1]):=upd_same
 generalize upd G5 q1 (.tup [V.int 0,V.int 1])=G6 at yq wq ⊢
 refine⟨(by show 2≤sizeLine;decide),fun q2 fq2=>?_⟩
 have yq2:=same_new fq2 (.tup [V.int 0,V.int 1])
 have wq2:(upd G6 q2 (.tup [V.int 0,V.int 1])) q2=some (.tup [V.int 0,V.int 1]):=upd_same
 generalize upd G6 q2 (.tup [V.int 0,V.int 1])=G7 at yq2 wq2 ⊢
 refine⟨1,q1,q2,_,_,by decide,rfl,rfl,.inl ⟨yq2 _ _ wq,wq2⟩,.cons (.inl ⟨rfl,.inl ⟨_,rfl⟩⟩) (.cons (.inl ⟨rfl,.inl ⟨_,rfl⟩⟩) .nil),_,rfl,iteF ?_⟩
 have s57:=yq.trans yq2
 have hW7:=hW5.same s57
 have hS7:=s57.scr hS5
 have t7:=s57.twn t5
 clear hW5 hS5 t5 hx5 wd5 wi5 wT yq wq yq2 wq2 s57 fq1 fq2
 -- what is kept
 refine⟨_,rfl,ke,dke,_,rfl,hW7.kept.obj,ef_no _ _ _ _ (by decide +kernel) (by decide +kernel) (by decide +kernel) (by decide +kernel),ke,dke,be,l,2,2,_,rfl,hW7.kept,fun qa fqa=>?_⟩
 have yqa:=same_new fqa (.tup [V.str "a",V.str "b"])
 have wqa:(upd G7 qa (.tup [V.str "a",V.str "b"])) qa=some (.tup [V.str "a",V.str "b"]):=upd_same
 generalize upd G7 qa (.tup [V.str "a",V.str "b"])=G8 at yqa wqa ⊢
 have hW8:=hW7.same yqa
 refine⟨_,rfl,ke,dke,_,rfl,hW8.kept.obj,ef_no _ _ _ _ (by decide +kernel) (by decide +kernel) (by decide +kernel) (by decide +kernel),ke,dke,be,l,2,2,_,rfl,hW8.kept,?_⟩
 refine⟨(by show 2≤sizeLine;decide),fun qb fqb=>?_⟩
 have yqb:=same_new fqb (.tup [V.ref qa,V.int 2])
 have wqb:(upd G8 qb (.tup [V.ref qa,V.int 2])) qb=some (.tup [V.ref qa,V.int 2]):=upd_same
 generalize upd G8 qb (.tup [V.ref qa,V.int 2])=G9 at yqb wqb ⊢
 refine⟨(by show 2≤sizeLine;decide),fun qc fqc=>?_⟩
 have yqc:=same_new fqc (.tup [V.str "a",V.str "b"])
 have wqc:(upd G9 qc (.tup [V.str "a",V.str "b"])) qc=some (.tup [V.str "a",V.str "b"]):=upd_same
 generalize upd G9 qc (.tup [V.str "a",V.str "b"])=GA at yqc wqc ⊢
 refine⟨(by show 2≤sizeLine;decide),fun qd fqd=>?_⟩
 have yqd:=same_new fqd (.tup [V.ref qc,V.int 2])
 have wqd:(upd GA qd (.tup [V.ref qc,V.int 2])) qd=some (.tup [V.ref qc,V.int 2]):=upd_same
 generalize upd GA qd (.tup [V.ref qc,V.int 2])=GB at yqd wqd ⊢
 refine⟨3,qb,qd,_,_,by decide,rfl,rfl,.inl ⟨(yqc.trans yqd) _ _ wqb,wqd⟩,.cons (.inr ⟨qa,qc,_,_,rfl,rfl,.inl ⟨((yqb.trans yqc).trans yqd) _ _ wqa,yqd _ _ wqc⟩,.cons (.inl ⟨rfl,.inr ⟨_,rfl⟩⟩) (.cons (.inl ⟨rfl,.inr ⟨_,rfl⟩⟩) .nil)⟩) (.cons (.inl ⟨rfl,.inl ⟨_,rfl⟩⟩) .nil),_,rfl,iteF ?_⟩
 have s7B:=((yqa.trans yqb).trans yqc).trans yqd
 have hWB:=hW7.same s7B
 have hSB:=s7B.scr hS7
 have tB:=s7B.twn t7
 clear hW7 hS7 t7 hW8 yqa yqb yqc yqd wqa wqb wqc wqd s7B fqa fqb fqc fqd
 -- the second due
 refine⟨(by show 1≤sizeLine;decide),fun s1 fs1=>?_⟩
 have ys1:=same_new fs1 (.lst [V.str (Str.ofString "NoShares")])
 have ws1:(upd GB s1 (.lst [V.str (Str.ofString "NoShares")])) s1=some (.lst [V.str (Str.ofString "NoShares")]):=upd_same
 generalize upd GB s1 (.lst [V.str (Str.ofString "NoShares")])=J1 at ys1 ws1 ⊢
 refine⟨(by show 1≤sizeLine;decide),fun s2 fs2=>?_⟩
 have ys2:=same_new fs2 (.lst [V.ref s1])
 have ws2:(upd J1 s2 (.lst [V.ref s1])) s2=some (.lst [V.ref s1]):=upd_same
 generalize upd J1 s2 (.lst [V.ref s1])=J2 at ys2 ws2 ⊢
 refine⟨s2,4,_,rfl,rfl,ws2,by decide,by decide,(by show 4≤sizeLine;decide),fun s3 fs3=>?_⟩
 have z1:=same_new fs3 (.lst (List.replicate 4 [V.ref s1]).flatten)
 have v1:(upd J2 s3 (.lst (List.replicate 4 [V.ref s1]).flatten)) s3=some (.lst (List.replicate 4 (V.ref s1))):=by rw[upd_same];rfl
 revert z1 v1
 show ∀_ _,tOp _ _ _ _ (upd J2 s3 (.lst (List.replicate 4 [V.ref s1]).flatten)) _
 generalize upd J2 s3 (.lst (List.replicate 4 [V.ref s1]).flatten)=J3
 intro z1 v1
 refine⟨(by show 1≤sizeLine;decide),fun p1 fp1=>?_⟩
 have yp1:=same_new fp1 (.lst [V.str (Str.ofString "NoPlace")])
 have wp1:(upd J3 p1 (.lst [V.str (Str.ofString "NoPlace")])) p1=some (.lst [V.str (Str.ofString "NoPlace")]):=upd_same
 generalize upd J3 p1 (.lst [V.str (Str.ofString "NoPlace")])=J4 at yp1 wp1 ⊢
 refine⟨(by show 1≤sizeLine;decide),fun p2 fp2=>?_⟩
 have yp2:=same_new fp2 (.lst [V.ref p1])
 have wp2:(upd J4 p2 (.lst [V.ref p1])) p2=some (.lst [V.ref p1]):=upd_same
 generalize upd J4 p2 (.lst [V.ref p1])=J5 at yp2 wp2 ⊢
 refine⟨p2,9,_,rfl,rfl,wp2,by decide,by decide,(by show 9≤sizeLine;decide),fun p3 fp3=>?_⟩
 have z2:=same_new fp3 (.lst (List.replicate 9 [V.ref p1]).flatten)
 have v2:(upd J5 p3 (.lst (List.replicate 9 [V.ref p1]).flatten)) p3=some (.lst (List.replicate 9 (V.ref p1))):=by rw[upd_same];rfl
 revert z2 v2
 show ∀_ _,rCat (V.ref s3) (V.ref p3) (upd J5 p3 (.lst (List.replicate 9 [V.ref p1]).flatten)) _
 generalize upd J5 p3 (.lst (List.replicate 9 [V.ref p1]).flatten)=J6
 intro z2 v2
 refine cat_b (((yp1.trans yp2).trans z2) _ _ v1) v2 (by rw[List.length_replicate,List.length_replicate];decide) fun c1 J7 z3 v3=>?_
 refine⟨(by show 1≤sizeLine;decide),fun t1 ft1=>?_⟩
 have yt1:=same_new ft1 (.lst [V.str (Str.ofString "NoStep")])
 have wt1:(upd J7 t1 (.lst [V.str (Str.ofString "NoStep")])) t1=some (.lst [V.str (Str.ofString "NoStep")]):=upd_same
 generalize upd J7 t1 (.lst [V.str (Str.ofString "NoStep")])=J8 at yt1 wt1 ⊢
 refine⟨(by show 1≤sizeLine;decide),fun t2 ft2=>?_⟩
 have yt2:=same_new ft2 (.lst [V.str (Str.ofString "NoPlace")])
 have wt2:(upd J8 t2 (.lst [V.str (Str.ofString "NoPlace")])) t2=some (.lst [V.str (Str.ofString "NoPlace")]):=upd_same
 generalize upd J8 t2 (.lst [V.str (Str.ofString "NoPlace")])=J9 at yt2 wt2 ⊢
 refine⟨(by show 1≤sizeLine;decide),fun t3 ft3=>?_⟩
 have yt3:=same_new ft3 (.lst [V.str (Str.ofString "NoText")])
 have wt3:(upd J9 t3 (.lst [V.str (Str.ofString "NoText")])) t3=some (.lst [V.str (Str.ofString "NoText")]):=upd_same
 generalize upd J9 t3 (.lst [V.str (Str.ofString "NoText")])=JA at yt3 wt3 ⊢
 refine⟨(by show 3≤sizeLine;decide),fun t4 ft4=>?_⟩
 have yt4:=same_new ft4 (.lst [V.ref t1,V.ref t2,V.ref t3])
 have wt4:(upd JA t4 (.lst [V.ref t1,V.ref t2,V.ref t3])) t4=some (.lst [V.ref t1,V.ref t2,V.ref t3]):=upd_same
 generalize upd JA t4 (.lst [V.ref t1,V.ref t2,V.ref t3])=JB at yt4 wt4 ⊢
 refine cat_b ((((yt1.trans yt2).trans yt3).trans yt4) _ _ v3) wt4 (by rw[List.length_append,List.length_replicate,List.length_replicate];show 16≤1000;decide) fun d2 JC z4 v4=>?_
 have q4:=((yt2.trans yt3).trans yt4).trans z4
 have q3:=yt1.trans q4
 have q2:=((yp2.trans z2).trans z3).trans q3
 have q1:=((ys2.trans z1).trans yp1).trans q2
 have sC:=ys1.trans q1
 have hWC:=hWB.same sC
 have hSC:=sC.scr hSB
 have tC:=sC.twn tB
 have due2:∀(j:Nat)(y:V),(List.replicate 4 (V.ref s1)++List.replicate 9 (V.ref p1)++[V.ref t1,V.ref t2,V.ref t3])[j]?=some y→∃y',y=.ref y'∧JC y'=some (.lst [V.str (nmK (16+j))]):=by
  have h1:=q1 _ _ ws1
  have h2:=q2 _ _ wp1
  have h3:=q4 _ _ wt1
  have h4:=((yt3.trans yt4).trans z4) _ _ wt2
  have h5:=(yt4.trans z4) _ _ wt3
  intro j y hy
  rcases j with _|_|_|_|_|_|_|_|_|_|_|_|_|_|_|_|j
  all_goals first|(cases hy;exact⟨_,rfl,h1⟩)|(cases hy;exact⟨_,rfl,h2⟩)|(cases hy;exact⟨_,rfl,h3⟩)|(cases hy;exact⟨_,rfl,h4⟩)|(cases hy;exact⟨_,rfl,h5⟩)|cases hy
 clear hWB hSB tB ys1 ys2 z1 v1 yp1 yp2 z2 v2 z3 v3 yt1 yt2 yt3 yt4 ws1 ws2 wp1 wp2 wt1 wt2 wt3 wt4 z4 q1 q2 q3 q4 sC fs1 fs2 fp1 fp2 ft1 ft2 ft3 ft4
 -- the second told
 refine⟨16,32,rfl,⟨by decide,by decide,by decide,by decide⟩,comp_range (lo:=16) (n:=16) (fun j acc σ' H'=>∃(as:List Addr)(o6:Option V),acc=as.map V.ref∧as.length=j∧σ'=[some (.ref a),some (.ref t),some (.int (0+(i:Int))),some (.int (m:Int)),some (.ref b),some (.ref ke),o6,some (.int (no:Int)),some (.ref kp),some (.ref d2),some (.ref T1)]∧W39 C CK CE H' b dx rr kp dk ke dke be dxe p l (bs++[1,1]) m no∧Oth b be JC H'∧∀(j:Nat)(x:Addr),as[j]?=some x→H' x=some (.lst [V.str (nmK (16+j))]))
  ⟨[],_,rfl,rfl,rfl,hWC,Oth.refl _ _ _,fun j x hx=>by simp at hx⟩ (fun j acc σ' H' hj ⟨as,_,e,hl,_⟩=>by rw[e,List.length_map,hl];omega) ?_ ?_⟩
 ·rintro j acc σ' H' hj ⟨as',o6,rfl,hl',rfl,w',o',hx'⟩
  unfold gName
  dsimp only
  rw[if_pos rfl]
  refine⟨_,rfl,_,rfl,_,rfl,_,rfl,_,rfl,b,dx,rr,kp,dk,ke,dke,be,dxe,p,l,_,m,no,16+j,by rw[Int.natCast_add];rfl,w',hbe,by omega,by omega,.inl ⟨by omega,fun x H'' w'' o'' hx=>?_⟩⟩
  refine⟨as'++[x],_,by rw[List.map_append];rfl,by rw[List.length_append,hl'];rfl,rfl,w'',o'.trans o'',fun j2 y hy=>?_⟩
  by_cases c:j2<as'.length
  ·rw[List.getElem?_append_left c]at hy
   have h:=hx' j2 y hy
   exact o'' _ _ (nbl w' h).1 (nbl w' h).2 h
  ·have e2:j2=j:=by
    have:=(List.getElem?_eq_some_iff.mp hy).1
    rw[List.length_append]at this
    have:j2<as'.length+1:=this
    omega
   subst e2
   rw[List.getElem?_append_right (by omega),hl',Nat.sub_self]at hy
   cases hy
   exact hx
 rintro acc σ' JD T2 ⟨as2,o6',rfl,hl2,rfl,hWD,oD,hxD⟩ fT2
 have yT:=same_new fT2 (.lst (as2.map V.ref))
 have wT:(upd JD T2 (.lst (as2.map V.ref))) T2=some (.lst (as2.map V.ref)):=upd_same
 generalize upd JD T2 (.lst (as2.map V.ref))=JE at yT wT ⊢
 have hWE:=hWD.same yT
 have keepD:∀{c:Addr}{xs:List V},JC c=some (.lst xs)→JE c=some (.lst xs):=fun h=>yT _ _ (oD _ _ (nbl hWC h).1 (nbl hWC h).2 h)
 have hSE:=yT.scr (oth_scr hWC oD hSC)
 have tE:Twn JE t (k+1+m+1):=keepD tC
 refine⟨_,rfl,_,rfl,2,T2,d2,_,_,by decide,rfl,rfl,.inr ⟨wT,keepD v4⟩,prd_of (by rw[List.length_map,hl2];rfl) (fun j x y e1 e2=>?_),_,rfl,iteF ?_⟩
 ·rw[List.getElem?_map]at e1
  obtain⟨x',hx',rfl⟩:∃x',as2[j]?=some x'∧x=.ref x':=by
   cases e:as2[j]? with
   | none=>rw[e]at e1;cases e1
   | some x'=>rw[e]at e1;exact⟨x',rfl,(Option.some.inj e1).symm⟩
  obtain⟨y',rfl,hy'⟩:=due2 j y e2
  exact .inr ⟨x',y',_,_,rfl,rfl,.inr ⟨yT _ _ (hxD j x' hx'),keepD hy'⟩,.cons (.inl ⟨rfl,.inr ⟨_,rfl⟩⟩) .nil⟩
 refine⟨_,rfl,b,dx,_,rfl,hWE.bits.obj,flds_no _ _ (by decide +kernel) (by decide +kernel),b,dx,rr,m,rfl,hWE.bits.obj,_,rfl,rfl,_,rfl,ite2 (fun c=>absurd c (by rw[decide_eq_true rfl];decide)) (fun _=>?_)⟩
 -- the last
 refine⟨_,rfl,_,rfl,_,rfl,_,rfl,b,dx,rr,kp,dk,ke,dke,be,dxe,p,l,_,m,no,15,rfl,hWE,hbe,by omega,by decide,.inr ⟨rfl,fun x JF gF hx=>?_⟩⟩
 have hSF:=grow_scrB gF hWE.bits hSE
 have tF:=grow_twnB gF hWE.bits tE
 refine⟨(by show 1≤sizeLine;decide),fun u1 fu1=>?_⟩
 have yu1:=same_new fu1 (.lst [V.str (Str.ofString "NoBits")])
 have wu1:(upd JF u1 (.lst [V.str (Str.ofString "NoBits")])) u1=some (.lst [V.str (Str.ofString "NoBits")]):=upd_same
 generalize upd JF u1 (.lst [V.str (Str.ofString "NoBits")])=JG at yu1 wu1 ⊢
 refine⟨1,x,u1,_,_,by decide,rfl,rfl,.inr ⟨yu1 _ _ hx,wu1⟩,.cons (.inl ⟨rfl,.inr ⟨_,rfl⟩⟩) .nil,_,rfl,iteF ?_⟩
 exact⟨k+1+m+1,_,_,_,_,_,_,_,_,_,rfl,yu1.scr hSF,yu1.twn tF,by omega⟩
end
theorem ne_mro {m:List Value}{a b:Addr}(h1:m.contains (.ref a)=true)(h2:m.contains (.ref b)=false):a≠b:=fun e=>by rw[e,h2]at h1;cases h1
theorem lenS {us:List Value}{n:Nat}(h:us.length=n+1):∃a t,us=a::t∧t.length=n:=by
 cases us with
 | nil=>cases h
 | cons a t=>exact⟨a,t,rfl,Nat.succ.inj h⟩
theorem lenU0 {us:List Value}(h:us.length=0):us=[]:=List.eq_nil_of_length_eq_zero h
theorem lenU1 {us:List Value}(h:us.length=1):∃a0,us=[a0]:=by
 obtain⟨a0,t,rfl,h2⟩:=lenS h
 obtain⟨rfl⟩:=lenU0 h2
 exact⟨a0,rfl⟩
theorem lenU2 {us:List Value}(h:us.length=2):∃a0 a1,us=[a0,a1]:=by
 obtain⟨a0,t,rfl,h2⟩:=lenS h
 obtain⟨a1,rfl⟩:=lenU1 h2
 exact⟨a0,a1,rfl⟩
theorem lenU3 {us:List Value}(h:us.length=3):∃a0 a1 a2,us=[a0,a1,a2]:=by
 obtain⟨a0,t,rfl,h2⟩:=lenS h
 obtain⟨a1,a2,rfl⟩:=lenU2 h2
 exact⟨a0,a1,a2,rfl⟩
theorem lenU4 {us:List Value}(h:us.length=4):∃a0 a1 a2 a3,us=[a0,a1,a2,a3]:=by
 obtain⟨a0,t,rfl,h2⟩:=lenS h
 obtain⟨a1,a2,a3,rfl⟩:=lenU3 h2
 exact⟨a0,a1,a2,a3,rfl⟩
theorem lenU5 {us:List Value}(h:us.length=5):∃a0 a1 a2 a3 a4,us=[a0,a1,a2,a3,a4]:=by
 obtain⟨a0,t,rfl,h2⟩:=lenS h
 obtain⟨a1,a2,a3,a4,rfl⟩:=lenU4 h2
 exact⟨a0,a1,a2,a3,a4,rfl⟩
theorem all_mk {l:PySem.W.OpenLaw}{w:World}{K:PySem.W.Frag}{h:Heap}{mg:Str→Option Value}{fa f1 f2 f3 f4 f5 f6 f7 f8 f9 f10 f11 f12 f13 f14 f15 f16 f17 f18 f19 f20 f21 f22 f23 f24 f25 f26 f27 f28 f29 f30 f31 f32 f33 f34 f35 f36 f37 f38 f39 f40 f41 f42 f43 f44 f45 f46 f47 f48 f49 f50 f51 f52 f53 f54 f55 f56 f57 f58 f59 f60 f61 f62 f63 f64 f65 gt7 c_Bits c_E6 c_E7 c_Kept f66 f67 f68 f69 f70 f71 f72 f73 f74 f75 f76 f77 f78 f79 f80 f81 f82 e_E0 e_E1 e_E2 e_E3 e_E4 e_E5:Addr}(X:K.In h)(G:h.Ns mainGlobals mg)(hfa:mg "law"=some (.ref fa))
  {od1 an1 od2 an2 od3 an3 od4 an4 od5 an5 od6 an6 od7 an7 od8 an8 od9 an9 od10 an10 od11 an11 od12 an12 od13 an13 od14 an14 od15 an15 od16 an16 od17 an17 od18 an18 od19 an19 od20 an20 od21 an21 od22 an22 od23 an23 od24 an24 od25 an25 od26 an26 od27 an27 od28 an28 od29 an29 od30 an30 od31 an31 od32 an32 od33 an33 od34 an34 od35 an35 od36 an36 od37 an37 od38 an38 od39 an39 od40 an40 od41 an41 od42 an42 od43 an43 od44 an44 od45 an45 od46 an46 od47 an47 od48 an48 od49 an49 od50 an50 od51 an51 od52 an52 od53 an53 od54 an54 od55 an55 od56 an56 od57 an57 od58 an58 od59 an59 od60 an60 od61 an61 od62 an62 od63 an63 od64 an64 od65 an65 gd7 od66 an66 od67 an67 od68 an68 od69 an69 od70 an70 od71 an71 od72 an72 od73 an73 od74 an74 od75 an75 od76 an76 od77 an77 od78 an78 od79 an79 od80 an80 od81 an81 od82 an82 xo_E0 xo_E1 xo_E2 xo_E3 xo_E4 xo_E5:Option Addr}{sl1 sl2 sl3 sl4 sl5 sl6 sl7 sl8 sl9 sl10 sl11 sl12 sl13 sl14 sl15 sl16 sl17 sl18 sl19 sl20 sl21 sl22 sl23 sl24 sl25 sl26 sl27 sl28 sl29 sl30 sl31 sl32 sl33 sl34 sl35 sl36 sl37 sl38 sl39 sl40 sl41 sl42 sl43 sl44 sl45 sl46 sl47 sl48 sl49 sl50 sl51 sl52 sl53 sl54 sl55 sl56 sl57 sl58 sl59 sl60 sl61 sl62 sl63 sl64 sl65 gs7 sl66 sl67 sl68 sl69 sl70 sl71 sl72 sl73 sl74 sl75 sl76 sl77 sl78 sl79 sl80 sl81 sl82 xs_E0 xs_E1 xs_E2 xs_E3 xs_E4 xs_E5:Array (Option Value)}{oc1 kV1 dc1 pm1 cd1 ct1 oc2 kV2 dc2 pm2 cd2 ct2 oc3 kV3 dc3 pm3 cd3 ct3 oc4 kV4 dc4 pm4 cd4 ct4 oc5 kV5 dc5 pm5 cd5 ct5 oc6 kV6 dc6 pm6 cd6 ct6 oc7 kV7 dc7 pm7 cd7 ct7 oc8 kV8 dc8 pm8 cd8 ct8 oc9 kV9 dc9 pm9 cd9 ct9 oc10 kV10 dc10 pm10 cd10 ct10 oc11 kV11 dc11 pm11 cd11 ct11 oc12 kV12 dc12 pm12 cd12 ct12 oc13 kV13 dc13 pm13 cd13 ct13 oc14 kV14 dc14 pm14 cd14 ct14 oc15 kV15 dc15 pm15 cd15 ct15 oc16 kV16 dc16 pm16 cd16 ct16 oc17 kV17 dc17 pm17 cd17 ct17 oc18 kV18 dc18 pm18 cd18 ct18 oc19 kV19 dc19 pm19 cd19 ct19 oc20 kV20 dc20 pm20 cd20 ct20 oc21 kV21 dc21 pm21 cd21 ct21 oc22 kV22 dc22 pm22 cd22 ct22 oc23 kV23 dc23 pm23 cd23 ct23 oc24 kV24 dc24 pm24 cd24 ct24 oc25 kV25 dc25 pm25 cd25 ct25 oc26 kV26 dc26 pm26 cd26 ct26 oc27 kV27 dc27 pm27 cd27 ct27 oc28 kV28 dc28 pm28 cd28 ct28 oc29 kV29 dc29 pm29 cd29 ct29 oc30 kV30 dc30 pm30 cd30 ct30 oc31 kV31 dc31 pm31 cd31 ct31 oc32 kV32 dc32 pm32 cd32 ct32 oc33 kV33 dc33 pm33 cd33 ct33 oc34 kV34 dc34 pm34 cd34 ct34 oc35 kV35 dc35 pm35 cd35 ct35 oc36 kV36 dc36 pm36 cd36 ct36 oc37 kV37 dc37 pm37 cd37 ct37 oc38 kV38 dc38 pm38 cd38 ct38 oc39 kV39 dc39 pm39 cd39 ct39 oc40 kV40 dc40 pm40 cd40 ct40 oc41 kV41 dc41 pm41 cd41 ct41 oc42 kV42 dc42 pm42 cd42 ct42 oc43 kV43 dc43 pm43 cd43 ct43 oc44 kV44 dc44 pm44 cd44 ct44 oc45 kV45 dc45 pm45 cd45 ct45 oc46 kV46 dc46 pm46 cd46 ct46 oc47 kV47 dc47 pm47 cd47 ct47 oc48 kV48 dc48 pm48 cd48 ct48 oc49 kV49 dc49 pm49 cd49 ct49 oc50 kV50 dc50 pm50 cd50 ct50 oc51 kV51 dc51 pm51 cd51 ct51 oc52 kV52 dc52 pm52 cd52 ct52 oc53 kV53 dc53 pm53 cd53 ct53 oc54 kV54 dc54 pm54 cd54 ct54 oc55 kV55 dc55 pm55 cd55 ct55 oc56 kV56 dc56 pm56 cd56 ct56 oc57 kV57 dc57 pm57 cd57 ct57 oc58 kV58 dc58 pm58 cd58 ct58 oc59 kV59 dc59 pm59 cd59 ct59 oc60 kV60 dc60 pm60 cd60 ct60 oc61 kV61 dc61 pm61 cd61 ct61 oc62 kV62 dc62 pm62 cd62 ct62 oc63 kV63 dc63 pm63 cd63 ct63 oc64 kV64 dc64 pm64 cd64 ct64 oc65 kV65 dc65 pm65 cd65 ct65 oc66 kV66 dc66 pm66 cd66 ct66 oc67 kV67 dc67 pm67 cd67 ct67 oc68 kV68 dc68 pm68 cd68 ct68 oc69 kV69 dc69 pm69 cd69 ct69 oc70 kV70 dc70 pm70 cd70 ct70 oc71 kV71 dc71 pm71 cd71 ct71 oc72 kV72 dc72 pm72 cd72 ct72 oc73 kV73 dc73 pm73 cd73 ct73 oc74 kV74 dc74 pm74 cd74 ct74 oc75 kV75 dc75 pm75 cd75 ct75 oc76 kV76 dc76 pm76 cd76 ct76 oc77 kV77 dc77 pm77 cd77 ct77 oc78 kV78 dc78 pm78 cd78 ct78 oc79 kV79 dc79 pm79 cd79 ct79 oc80 kV80 dc80 pm80 cd80 ct80 oc81 kV81 dc81 pm81 cd81 ct81 oc82 kV82 dc82 pm82 cd82 ct82 xc_E0 xc_E1 xc_E2 xc_E3 xc_E4 xc_E5:Value}{ed_E0 ed_E1 ed_E2 ed_E3 ed_E4 ed_E5:ClassData}{w1 w2 w3 w4 w5 w6 w8 tk7_0:Tok}{gn7:Nat}
  (a1:PySem.W.nsIn K mainGlobals "drawn_whole"=some (some (.ref f1)))(l1:K.lookup f1=some ⟨oc1,od1,.func (PySem.W.fnOf "drawn_whole" "drawn_whole" (defArgs s_Y22) (defBody s_Y22) (defScope s_Y22) .none kV1 dc1 pm1 an1 cd1 ct1),sl1⟩)(c1:PySem.W.codeIn K cd1 "drawn_whole"=true)(k1:PySem.W.keepIn K (.ref f1)=true)
  (a2:PySem.W.nsIn K mainGlobals "next_state"=some (some (.ref f2)))(l2:K.lookup f2=some ⟨oc2,od2,.func (PySem.W.fnOf "next_state" "next_state" (defArgs s_Y35) (defBody s_Y35) (defScope s_Y35) .none kV2 dc2 pm2 an2 cd2 ct2),sl2⟩)(c2:PySem.W.codeIn K cd2 "next_state"=true)(k2:PySem.W.keepIn K (.ref f2)=true)
  (a3:PySem.W.nsIn K mainGlobals "bits_of"=some (some (.ref f3)))(l3:K.lookup f3=some ⟨oc3,od3,.func (PySem.W.fnOf "bits_of" "bits_of" (defArgs s_Y63) (defBody s_Y63) (defScope s_Y63) .none kV3 dc3 pm3 an3 cd3 ct3),sl3⟩)(c3:PySem.W.codeIn K cd3 "bits_of"=true)(k3:PySem.W.keepIn K (.ref f3)=true)
  (a4:PySem.W.nsIn K mainGlobals "simple_even"=some (some (.ref f4)))(l4:K.lookup f4=some ⟨oc4,od4,.func (PySem.W.fnOf "simple_even" "simple_even" (defArgs s_Y23) (defBody s_Y23) (defScope s_Y23) .none kV4 dc4 pm4 an4 cd4 ct4),sl4⟩)(c4:PySem.W.codeIn K cd4 "simple_even"=true)(k4:PySem.W.keepIn K (.ref f4)=true)
  (a5:PySem.W.nsIn K mainGlobals "take_simple_even"=some (some (.ref f5)))(l5:K.lookup f5=some ⟨oc5,od5,.func (PySem.W.fnOf "take_simple_even" "take_simple_even" (defArgs s_Y3) (defBody s_Y3) (defScope s_Y3) .none kV5 dc5 pm5 an5 cd5 ct5),sl5⟩)(c5:PySem.W.codeIn K cd5 "take_simple_even"=true)(k5:PySem.W.keepIn K (.ref f5)=true)
  (a6:PySem.W.nsIn K mainGlobals "width_for"=some (some (.ref f6)))(l6:K.lookup f6=some ⟨oc6,od6,.func (PySem.W.fnOf "width_for" "width_for" (defArgs s_Y43) (defBody s_Y43) (defScope s_Y43) .none kV6 dc6 pm6 an6 cd6 ct6),sl6⟩)(c6:PySem.W.codeIn K cd6 "width_for"=true)(k6:PySem.W.keepIn K (.ref f6)=true)
  (a7:PySem.W.nsIn K mainGlobals "take_number"=some (some (.ref f7)))(l7:K.lookup f7=some ⟨oc7,od7,.func (PySem.W.fnOf "take_number" "take_number" (defArgs s_Y32) (defBody s_Y32) (defScope s_Y32) .none kV7 dc7 pm7 an7 cd7 ct7),sl7⟩)(c7:PySem.W.codeIn K cd7 "take_number"=true)(k7:PySem.W.keepIn K (.ref f7)=true)
  (a8:PySem.W.nsIn K mainGlobals "even"=some (some (.ref f8)))(l8:K.lookup f8=some ⟨oc8,od8,.func (PySem.W.fnOf "even" "even" (defArgs s_Y77) (defBody s_Y77) (defScope s_Y77) .none kV8 dc8 pm8 an8 cd8 ct8),sl8⟩)(c8:PySem.W.codeIn K cd8 "even"=true)(k8:PySem.W.keepIn K (.ref f8)=true)
  (a9:PySem.W.nsIn K mainGlobals "take_even"=some (some (.ref f9)))(l9:K.lookup f9=some ⟨oc9,od9,.func (PySem.W.fnOf "take_even" "take_even" (defArgs s_Y44) (defBody s_Y44) (defScope s_Y44) .none kV9 dc9 pm9 an9 cd9 ct9),sl9⟩)(c9:PySem.W.codeIn K cd9 "take_even"=true)(k9:PySem.W.keepIn K (.ref f9)=true)
  (a10:PySem.W.nsIn K mainGlobals "check_place"=some (some (.ref f10)))(l10:K.lookup f10=some ⟨oc10,od10,.func (PySem.W.fnOf "check_place" "check_place" (defArgs s_Y26) (defBody s_Y26) (defScope s_Y26) .none kV10 dc10 pm10 an10 cd10 ct10),sl10⟩)(c10:PySem.W.codeIn K cd10 "check_place"=true)(k10:PySem.W.keepIn K (.ref f10)=true)
  (a11:PySem.W.nsIn K mainGlobals "count_figures"=some (some (.ref f11)))(l11:K.lookup f11=some ⟨oc11,od11,.func (PySem.W.fnOf "count_figures" "count_figures" (defArgs s_Y14) (defBody s_Y14) (defScope s_Y14) .none kV11 dc11 pm11 an11 cd11 ct11),sl11⟩)(c11:PySem.W.codeIn K cd11 "count_figures"=true)(k11:PySem.W.keepIn K (.ref f11)=true)
  (a12:PySem.W.nsIn K mainGlobals "figures_at"=some (some (.ref f12)))(l12:K.lookup f12=some ⟨oc12,od12,.func (PySem.W.fnOf "figures_at" "figures_at" (defArgs s_Y36) (defBody s_Y36) (defScope s_Y36) .none kV12 dc12 pm12 an12 cd12 ct12),sl12⟩)(c12:PySem.W.codeIn K cd12 "figures_at"=true)(k12:PySem.W.keepIn K (.ref f12)=true)
  (a13:PySem.W.nsIn K mainGlobals "radices_of_orders"=some (some (.ref f13)))(l13:K.lookup f13=some ⟨oc13,od13,.func (PySem.W.fnOf "radices_of_orders" "radices_of_orders" (defArgs s_Y1) (defBody s_Y1) (defScope s_Y1) .none kV13 dc13 pm13 an13 cd13 ct13),sl13⟩)(c13:PySem.W.codeIn K cd13 "radices_of_orders"=true)(k13:PySem.W.keepIn K (.ref f13)=true)
  (a14:PySem.W.nsIn K mainGlobals "order_at"=some (some (.ref f14)))(l14:K.lookup f14=some ⟨oc14,od14,.func (PySem.W.fnOf "order_at" "order_at" (defArgs s_Y55) (defBody s_Y55) (defScope s_Y55) .none kV14 dc14 pm14 an14 cd14 ct14),sl14⟩)(c14:PySem.W.codeIn K cd14 "order_at"=true)(k14:PySem.W.keepIn K (.ref f14)=true)
  (a15:PySem.W.nsIn K mainGlobals "places_of_swaps"=some (some (.ref f15)))(l15:K.lookup f15=some ⟨oc15,od15,.func (PySem.W.fnOf "places_of_swaps" "places_of_swaps" (defArgs s_Y7) (defBody s_Y7) (defScope s_Y7) .none kV15 dc15 pm15 an15 cd15 ct15),sl15⟩)(c15:PySem.W.codeIn K cd15 "places_of_swaps"=true)(k15:PySem.W.keepIn K (.ref f15)=true)
  (a16:PySem.W.nsIn K mainGlobals "by_swaps"=some (some (.ref f16)))(l16:K.lookup f16=some ⟨oc16,od16,.func (PySem.W.fnOf "by_swaps" "by_swaps" (defArgs s_Y56) (defBody s_Y56) (defScope s_Y56) .none kV16 dc16 pm16 an16 cd16 ct16),sl16⟩)(c16:PySem.W.codeIn K cd16 "by_swaps"=true)(k16:PySem.W.keepIn K (.ref f16)=true)
  (a17:PySem.W.nsIn K mainGlobals "ways"=some (some (.ref f17)))(l17:K.lookup f17=some ⟨oc17,od17,.func (PySem.W.fnOf "ways" "ways" (defArgs s_Y79) (defBody s_Y79) (defScope s_Y79) .none kV17 dc17 pm17 an17 cd17 ct17),sl17⟩)(c17:PySem.W.codeIn K cd17 "ways"=true)(k17:PySem.W.keepIn K (.ref f17)=true)
  (a18:PySem.W.nsIn K mainGlobals "choice_at"=some (some (.ref f18)))(l18:K.lookup f18=some ⟨oc18,od18,.func (PySem.W.fnOf "choice_at" "choice_at" (defArgs s_Y42) (defBody s_Y42) (defScope s_Y42) .none kV18 dc18 pm18 an18 cd18 ct18),sl18⟩)(c18:PySem.W.codeIn K cd18 "choice_at"=true)(k18:PySem.W.keepIn K (.ref f18)=true)
  (a19:PySem.W.nsIn K mainGlobals "parts_at"=some (some (.ref f19)))(l19:K.lookup f19=some ⟨oc19,od19,.func (PySem.W.fnOf "parts_at" "parts_at" (defArgs s_Y59) (defBody s_Y59) (defScope s_Y59) .none kV19 dc19 pm19 an19 cd19 ct19),sl19⟩)(c19:PySem.W.codeIn K cd19 "parts_at"=true)(k19:PySem.W.keepIn K (.ref f19)=true)
  (a20:PySem.W.nsIn K mainGlobals "shuffled"=some (some (.ref f20)))(l20:K.lookup f20=some ⟨oc20,od20,.func (PySem.W.fnOf "shuffled" "shuffled" (defArgs s_Y58) (defBody s_Y58) (defScope s_Y58) .none kV20 dc20 pm20 an20 cd20 ct20),sl20⟩)(c20:PySem.W.codeIn K cd20 "shuffled"=true)(k20:PySem.W.keepIn K (.ref f20)=true)
  (a21:PySem.W.nsIn K mainGlobals "take_shuffled"=some (some (.ref f21)))(l21:K.lookup f21=some ⟨oc21,od21,.func (PySem.W.fnOf "take_shuffled" "take_shuffled" (defArgs s_Y15) (defBody s_Y15) (defScope s_Y15) .none kV21 dc21 pm21 an21 cd21 ct21),sl21⟩)(c21:PySem.W.codeIn K cd21 "take_shuffled"=true)(k21:PySem.W.keepIn K (.ref f21)=true)
  (a22:PySem.W.nsIn K mainGlobals "order"=some (some (.ref f22)))(l22:K.lookup f22=some ⟨oc22,od22,.func (PySem.W.fnOf "order" "order" (defArgs s_Y72) (defBody s_Y72) (defScope s_Y72) .none kV22 dc22 pm22 an22 cd22 ct22),sl22⟩)(c22:PySem.W.codeIn K cd22 "order"=true)(k22:PySem.W.keepIn K (.ref f22)=true)
  (a23:PySem.W.nsIn K mainGlobals "choice_orders"=some (some (.ref f23)))(l23:K.lookup f23=some ⟨oc23,od23,.func (PySem.W.fnOf "choice" "choice" (defArgs s_Y70) (defBody s_Y70) (defScope s_Y70) .none kV23 dc23 pm23 an23 cd23 ct23),sl23⟩)(c23:PySem.W.codeIn K cd23 "choice"=true)(k23:PySem.W.keepIn K (.ref f23)=true)
  (a24:PySem.W.nsIn K mainGlobals "pick"=some (some (.ref f24)))(l24:K.lookup f24=some ⟨oc24,od24,.func (PySem.W.fnOf "pick" "pick" (defArgs s_Y81) (defBody s_Y81) (defScope s_Y81) .none kV24 dc24 pm24 an24 cd24 ct24),sl24⟩)(c24:PySem.W.codeIn K cd24 "pick"=true)(k24:PySem.W.keepIn K (.ref f24)=true)
  (a25:PySem.W.nsIn K mainGlobals "take_pick"=some (some (.ref f25)))(l25:K.lookup f25=some ⟨oc25,od25,.func (PySem.W.fnOf "take_pick" "take_pick" (defArgs s_Y47) (defBody s_Y47) (defScope s_Y47) .none kV25 dc25 pm25 an25 cd25 ct25),sl25⟩)(c25:PySem.W.codeIn K cd25 "take_pick"=true)(k25:PySem.W.keepIn K (.ref f25)=true)
  (a26:PySem.W.nsIn K mainGlobals "coin"=some (some (.ref f26)))(l26:K.lookup f26=some ⟨oc26,od26,.func (PySem.W.fnOf "coin" "coin" (defArgs s_Y76) (defBody s_Y76) (defScope s_Y76) .none kV26 dc26 pm26 an26 cd26 ct26),sl26⟩)(c26:PySem.W.codeIn K cd26 "coin"=true)(k26:PySem.W.keepIn K (.ref f26)=true)
  (a27:PySem.W.nsIn K mainGlobals "ends_of"=some (some (.ref f27)))(l27:K.lookup f27=some ⟨oc27,od27,.func (PySem.W.fnOf "ends_of" "ends_of" (defArgs s_Y66) (defBody s_Y66) (defScope s_Y66) .none kV27 dc27 pm27 an27 cd27 ct27),sl27⟩)(c27:PySem.W.codeIn K cd27 "ends_of"=true)(k27:PySem.W.keepIn K (.ref f27)=true)
  (a28:PySem.W.nsIn K mainGlobals "deep"=some (some (.ref f28)))(l28:K.lookup f28=some ⟨oc28,od28,.func (PySem.W.fnOf "deep" "deep" (defArgs s_Y73) (defBody s_Y73) (defScope s_Y73) .none kV28 dc28 pm28 an28 cd28 ct28),sl28⟩)(c28:PySem.W.codeIn K cd28 "deep"=true)(k28:PySem.W.keepIn K (.ref f28)=true)
  (a29:PySem.W.nsIn K mainGlobals "numbered_ends"=some (some (.ref f29)))(l29:K.lookup f29=some ⟨oc29,od29,.func (PySem.W.fnOf "numbered_ends" "numbered_ends" (defArgs s_Y12) (defBody s_Y12) (defScope s_Y12) .none kV29 dc29 pm29 an29 cd29 ct29),sl29⟩)(c29:PySem.W.codeIn K cd29 "numbered_ends"=true)(k29:PySem.W.keepIn K (.ref f29)=true)
  (a30:PySem.W.nsIn K mainGlobals "rows_to"=some (some (.ref f30)))(l30:K.lookup f30=some ⟨oc30,od30,.func (PySem.W.fnOf "rows_to" "rows_to" (defArgs s_Y68) (defBody s_Y68) (defScope s_Y68) .none kV30 dc30 pm30 an30 cd30 ct30),sl30⟩)(c30:PySem.W.codeIn K cd30 "rows_to"=true)(k30:PySem.W.keepIn K (.ref f30)=true)
  (a31:PySem.W.nsIn K mainGlobals "shares_of"=some (some (.ref f31)))(l31:K.lookup f31=some ⟨oc31,od31,.func (PySem.W.fnOf "shares_of" "shares_of" (defArgs s_Y52) (defBody s_Y52) (defScope s_Y52) .none kV31 dc31 pm31 an31 cd31 ct31),sl31⟩)(c31:PySem.W.codeIn K cd31 "shares_of"=true)(k31:PySem.W.keepIn K (.ref f31)=true)
  (a32:PySem.W.nsIn K mainGlobals "mean_of"=some (some (.ref f32)))(l32:K.lookup f32=some ⟨oc32,od32,.func (PySem.W.fnOf "mean_of" "mean_of" (defArgs s_Y61) (defBody s_Y61) (defScope s_Y61) .none kV32 dc32 pm32 an32 cd32 ct32),sl32⟩)(c32:PySem.W.codeIn K cd32 "mean_of"=true)(k32:PySem.W.keepIn K (.ref f32)=true)
  (a33:PySem.W.nsIn K mainGlobals "by_plan"=some (some (.ref f33)))(l33:K.lookup f33=some ⟨oc33,od33,.func (PySem.W.fnOf "by_plan" "by_plan" (defArgs s_Y64) (defBody s_Y64) (defScope s_Y64) .none kV33 dc33 pm33 an33 cd33 ct33),sl33⟩)(c33:PySem.W.codeIn K cd33 "by_plan"=true)(k33:PySem.W.keepIn K (.ref f33)=true)
  (a34:PySem.W.nsIn K mainGlobals "take_by_plan"=some (some (.ref f34)))(l34:K.lookup f34=some ⟨oc34,od34,.func (PySem.W.fnOf "take_by_plan" "take_by_plan" (defArgs s_Y17) (defBody s_Y17) (defScope s_Y17) .none kV34 dc34 pm34 an34 cd34 ct34),sl34⟩)(c34:PySem.W.codeIn K cd34 "take_by_plan"=true)(k34:PySem.W.keepIn K (.ref f34)=true)
  (a35:PySem.W.nsIn K mainGlobals "counts_up_to"=some (some (.ref f35)))(l35:K.lookup f35=some ⟨oc35,od35,.func (PySem.W.fnOf "counts_up_to" "counts_up_to" (defArgs s_Y18) (defBody s_Y18) (defScope s_Y18) .none kV35 dc35 pm35 an35 cd35 ct35),sl35⟩)(c35:PySem.W.codeIn K cd35 "counts_up_to"=true)(k35:PySem.W.keepIn K (.ref f35)=true)
  (a36:PySem.W.nsIn K mainGlobals "count_trees"=some (some (.ref f36)))(l36:K.lookup f36=some ⟨oc36,od36,.func (PySem.W.fnOf "count_trees" "count_trees" (defArgs s_Y29) (defBody s_Y29) (defScope s_Y29) .none kV36 dc36 pm36 an36 cd36 ct36),sl36⟩)(c36:PySem.W.codeIn K cd36 "count_trees"=true)(k36:PySem.W.keepIn K (.ref f36)=true)
  (a37:PySem.W.nsIn K mainGlobals "tree_at"=some (some (.ref f37)))(l37:K.lookup f37=some ⟨oc37,od37,.func (PySem.W.fnOf "tree_at" "tree_at" (defArgs s_Y67) (defBody s_Y67) (defScope s_Y67) .none kV37 dc37 pm37 an37 cd37 ct37),sl37⟩)(c37:PySem.W.codeIn K cd37 "tree_at"=true)(k37:PySem.W.keepIn K (.ref f37)=true)
  (a38:PySem.W.nsIn K mainGlobals "tree"=some (some (.ref f38)))(l38:K.lookup f38=some ⟨oc38,od38,.func (PySem.W.fnOf "tree" "tree" (defArgs s_Y75) (defBody s_Y75) (defScope s_Y75) .none kV38 dc38 pm38 an38 cd38 ct38),sl38⟩)(c38:PySem.W.codeIn K cd38 "tree"=true)(k38:PySem.W.keepIn K (.ref f38)=true)
  (a39:PySem.W.nsIn K mainGlobals "grown"=some (some (.ref f39)))(l39:K.lookup f39=some ⟨oc39,od39,.func (PySem.W.fnOf "grown" "grown" (defArgs s_Y71) (defBody s_Y71) (defScope s_Y71) .none kV39 dc39 pm39 an39 cd39 ct39),sl39⟩)(c39:PySem.W.codeIn K cd39 "grown"=true)(k39:PySem.W.keepIn K (.ref f39)=true)
  (a40:PySem.W.nsIn K mainGlobals "grow"=some (some (.ref f40)))(l40:K.lookup f40=some ⟨oc40,od40,.func (PySem.W.fnOf "grow" "grow" (defArgs s_Y74) (defBody s_Y74) (defScope s_Y74) .none kV40 dc40 pm40 an40 cd40 ct40),sl40⟩)(c40:PySem.W.codeIn K cd40 "grow"=true)(k40:PySem.W.keepIn K (.ref f40)=true)
  (a41:PySem.W.nsIn K mainGlobals "take_grown"=some (some (.ref f41)))(l41:K.lookup f41=some ⟨oc41,od41,.func (PySem.W.fnOf "take_grown" "take_grown" (defArgs s_Y39) (defBody s_Y39) (defScope s_Y39) .none kV41 dc41 pm41 an41 cd41 ct41),sl41⟩)(c41:PySem.W.codeIn K cd41 "take_grown"=true)(k41:PySem.W.keepIn K (.ref f41)=true)
  (a42:PySem.W.nsIn K mainGlobals "sizes_under"=some (some (.ref f42)))(l42:K.lookup f42=some ⟨oc42,od42,.func (PySem.W.fnOf "sizes_under" "sizes_under" (defArgs s_Y30) (defBody s_Y30) (defScope s_Y30) .none kV42 dc42 pm42 an42 cd42 ct42),sl42⟩)(c42:PySem.W.codeIn K cd42 "sizes_under"=true)(k42:PySem.W.keepIn K (.ref f42)=true)
  (a43:PySem.W.nsIn K mainGlobals "order_under"=some (some (.ref f43)))(l43:K.lookup f43=some ⟨oc43,od43,.func (PySem.W.fnOf "order_under" "order_under" (defArgs s_Y34) (defBody s_Y34) (defScope s_Y34) .none kV43 dc43 pm43 an43 cd43 ct43),sl43⟩)(c43:PySem.W.codeIn K cd43 "order_under"=true)(k43:PySem.W.keepIn K (.ref f43)=true)
  (a44:PySem.W.nsIn K mainGlobals "take_order_under"=some (some (.ref f44)))(l44:K.lookup f44=some ⟨oc44,od44,.func (PySem.W.fnOf "take_order_under" "take_order_under" (defArgs s_Y4) (defBody s_Y4) (defScope s_Y4) .none kV44 dc44 pm44 an44 cd44 ct44),sl44⟩)(c44:PySem.W.codeIn K cd44 "take_order_under"=true)(k44:PySem.W.keepIn K (.ref f44)=true)
  (a45:PySem.W.nsIn K mainGlobals "take_with_room"=some (some (.ref f45)))(l45:K.lookup f45=some ⟨oc45,od45,.func (PySem.W.fnOf "take_with_room" "take_with_room" (defArgs s_Y8) (defBody s_Y8) (defScope s_Y8) .none kV45 dc45 pm45 an45 cd45 ct45),sl45⟩)(c45:PySem.W.codeIn K cd45 "take_with_room"=true)(k45:PySem.W.keepIn K (.ref f45)=true)
  (a46:PySem.W.nsIn K mainGlobals "by_table"=some (some (.ref f46)))(l46:K.lookup f46=some ⟨oc46,od46,.func (PySem.W.fnOf "by_table" "by_table" (defArgs s_Y57) (defBody s_Y57) (defScope s_Y57) .none kV46 dc46 pm46 an46 cd46 ct46),sl46⟩)(c46:PySem.W.codeIn K cd46 "by_table"=true)(k46:PySem.W.keepIn K (.ref f46)=true)
  (a47:PySem.W.nsIn K mainGlobals "written"=some (some (.ref f47)))(l47:K.lookup f47=some ⟨oc47,od47,.func (PySem.W.fnOf "written" "written" (defArgs s_Y65) (defBody s_Y65) (defScope s_Y65) .none kV47 dc47 pm47 an47 cd47 ct47),sl47⟩)(c47:PySem.W.codeIn K cd47 "written"=true)(k47:PySem.W.keepIn K (.ref f47)=true)
  (a48:PySem.W.nsIn K mainGlobals "read"=some (some (.ref f48)))(l48:K.lookup f48=some ⟨oc48,od48,.func (PySem.W.fnOf "read" "read" (defArgs s_Y80) (defBody s_Y80) (defScope s_Y80) .none kV48 dc48 pm48 an48 cd48 ct48),sl48⟩)(c48:PySem.W.codeIn K cd48 "read"=true)(k48:PySem.W.keepIn K (.ref f48)=true)
  (a49:PySem.W.nsIn K mainGlobals "read_part"=some (some (.ref f49)))(l49:K.lookup f49=some ⟨oc49,od49,.func (PySem.W.fnOf "read_part" "read_part" (defArgs s_Y48) (defBody s_Y48) (defScope s_Y48) .none kV49 dc49 pm49 an49 cd49 ct49),sl49⟩)(c49:PySem.W.codeIn K cd49 "read_part"=true)(k49:PySem.W.keepIn K (.ref f49)=true)
  (a50:PySem.W.nsIn K mainGlobals "read_number"=some (some (.ref f50)))(l50:K.lookup f50=some ⟨oc50,od50,.func (PySem.W.fnOf "read_number" "read_number" (defArgs s_Y28) (defBody s_Y28) (defScope s_Y28) .none kV50 dc50 pm50 an50 cd50 ct50),sl50⟩)(c50:PySem.W.codeIn K cd50 "read_number"=true)(k50:PySem.W.keepIn K (.ref f50)=true)
  (a51:PySem.W.nsIn K mainGlobals "led_to"=some (some (.ref f51)))(l51:K.lookup f51=some ⟨oc51,od51,.func (PySem.W.fnOf "led_to" "led_to" (defArgs s_Y69) (defBody s_Y69) (defScope s_Y69) .none kV51 dc51 pm51 an51 cd51 ct51),sl51⟩)(c51:PySem.W.codeIn K cd51 "led_to"=true)(k51:PySem.W.keepIn K (.ref f51)=true)
  (a52:PySem.W.nsIn K mainGlobals "is_taken"=some (some (.ref f52)))(l52:K.lookup f52=some ⟨oc52,od52,.func (PySem.W.fnOf "is_taken" "is_taken" (defArgs s_Y54) (defBody s_Y54) (defScope s_Y54) .none kV52 dc52 pm52 an52 cd52 ct52),sl52⟩)(c52:PySem.W.codeIn K cd52 "is_taken"=true)(k52:PySem.W.keepIn K (.ref f52)=true)
  (a53:PySem.W.nsIn K mainGlobals "counts_by_length"=some (some (.ref f53)))(l53:K.lookup f53=some ⟨oc53,od53,.func (PySem.W.fnOf "counts_by_length" "counts_by_length" (defArgs s_Y2) (defBody s_Y2) (defScope s_Y2) .none kV53 dc53 pm53 an53 cd53 ct53),sl53⟩)(c53:PySem.W.codeIn K cd53 "counts_by_length"=true)(k53:PySem.W.keepIn K (.ref f53)=true)
  (a54:PySem.W.nsIn K mainGlobals "count_from"=some (some (.ref f54)))(l54:K.lookup f54=some ⟨oc54,od54,.func (PySem.W.fnOf "count_from" "count_from" (defArgs s_Y40) (defBody s_Y40) (defScope s_Y40) .none kV54 dc54 pm54 an54 cd54 ct54),sl54⟩)(c54:PySem.W.codeIn K cd54 "count_from"=true)(k54:PySem.W.keepIn K (.ref f54)=true)
  (a55:PySem.W.nsIn K mainGlobals "count_words"=some (some (.ref f55)))(l55:K.lookup f55=some ⟨oc55,od55,.func (PySem.W.fnOf "count_words" "count_words" (defArgs s_Y25) (defBody s_Y25) (defScope s_Y25) .none kV55 dc55 pm55 an55 cd55 ct55),sl55⟩)(c55:PySem.W.codeIn K cd55 "count_words"=true)(k55:PySem.W.keepIn K (.ref f55)=true)
  (a56:PySem.W.nsIn K mainGlobals "word_at"=some (some (.ref f56)))(l56:K.lookup f56=some ⟨oc56,od56,.func (PySem.W.fnOf "word_at" "word_at" (defArgs s_Y62) (defBody s_Y62) (defScope s_Y62) .none kV56 dc56 pm56 an56 cd56 ct56),sl56⟩)(c56:PySem.W.codeIn K cd56 "word_at"=true)(k56:PySem.W.keepIn K (.ref f56)=true)
  (a57:PySem.W.nsIn K mainGlobals "place_of_word"=some (some (.ref f57)))(l57:K.lookup f57=some ⟨oc57,od57,.func (PySem.W.fnOf "place_of_word" "place_of_word" (defArgs s_Y11) (defBody s_Y11) (defScope s_Y11) .none kV57 dc57 pm57 an57 cd57 ct57),sl57⟩)(c57:PySem.W.codeIn K cd57 "place_of_word"=true)(k57:PySem.W.keepIn K (.ref f57)=true)
  (a58:PySem.W.nsIn K mainGlobals "word"=some (some (.ref f58)))(l58:K.lookup f58=some ⟨oc58,od58,.func (PySem.W.fnOf "word" "word" (defArgs s_Y78) (defBody s_Y78) (defScope s_Y78) .none kV58 dc58 pm58 an58 cd58 ct58),sl58⟩)(c58:PySem.W.codeIn K cd58 "word"=true)(k58:PySem.W.keepIn K (.ref f58)=true)
  (a59:PySem.W.nsIn K mainGlobals "_law_draw"=some (some (.ref f59)))(l59:K.lookup f59=some ⟨oc59,od59,.func (PySem.W.fnOf "_law_draw" "_law_draw" (defArgs s_Y46) (defBody s_Y46) (defScope s_Y46) .none kV59 dc59 pm59 an59 cd59 ct59),sl59⟩)(c59:PySem.W.codeIn K cd59 "_law_draw"=true)(k59:PySem.W.keepIn K (.ref f59)=true)
  (a60:PySem.W.nsIn K mainGlobals "_law_names"=some (some (.ref f60)))(l60:K.lookup f60=some ⟨oc60,od60,.func (PySem.W.fnOf "_law_names" "_law_names" (defArgs s_Y37) (defBody s_Y37) (defScope s_Y37) .none kV60 dc60 pm60 an60 cd60 ct60),sl60⟩)(c60:PySem.W.codeIn K cd60 "_law_names"=true)(k60:PySem.W.keepIn K (.ref f60)=true)
  (a61:PySem.W.nsIn K mainGlobals "_law_bitless"=some (some (.ref f61)))(l61:K.lookup f61=some ⟨oc61,od61,.func (PySem.W.fnOf "_law_bitless" "_law_bitless" (defArgs s_Y20) (defBody s_Y20) (defScope s_Y20) .none kV61 dc61 pm61 an61 cd61 ct61),sl61⟩)(c61:PySem.W.codeIn K cd61 "_law_bitless"=true)(k61:PySem.W.keepIn K (.ref f61)=true)
  (a62:PySem.W.nsIn K mainGlobals "_law_second"=some (some (.ref f62)))(l62:K.lookup f62=some ⟨oc62,od62,.func (PySem.W.fnOf "_law_second" "_law_second" (defArgs s_Y24) (defBody s_Y24) (defScope s_Y24) .none kV62 dc62 pm62 an62 cd62 ct62),sl62⟩)(c62:PySem.W.codeIn K cd62 "_law_second"=true)(k62:PySem.W.keepIn K (.ref f62)=true)
  (a63:PySem.W.nsIn K mainGlobals "_law_third"=some (some (.ref f63)))(l63:K.lookup f63=some ⟨oc63,od63,.func (PySem.W.fnOf "_law_third" "_law_third" (defArgs s_Y38) (defBody s_Y38) (defScope s_Y38) .none kV63 dc63 pm63 an63 cd63 ct63),sl63⟩)(c63:PySem.W.codeIn K cd63 "_law_third"=true)(k63:PySem.W.keepIn K (.ref f63)=true)
  (a64:PySem.W.nsIn K mainGlobals "_law_ask"=some (some (.ref f64)))(l64:K.lookup f64=some ⟨oc64,od64,.func (PySem.W.fnOf "_law_ask" "_law_ask" (defArgs s_Y60) (defBody s_Y60) (defScope s_Y60) .none kV64 dc64 pm64 an64 cd64 ct64),sl64⟩)(c64:PySem.W.codeIn K cd64 "_law_ask"=true)(k64:PySem.W.keepIn K (.ref f64)=true)
  (a65:PySem.W.nsIn K mainGlobals "law"=some (some (.ref f65)))(l65:K.lookup f65=some ⟨oc65,od65,.func (PySem.W.fnOf "law" "law" (defArgs s_law) (defBody s_law) (defScope s_law) .none kV65 dc65 pm65 an65 cd65 ct65),sl65⟩)(c65:PySem.W.codeIn K cd65 "law"=true)(k65:PySem.W.keepIn K (.ref f65)=true)
  (z1:PySem.W.nsIn K mainGlobals "ValueError"=some none)
  (z2:PySem.W.nsIn K mainGlobals "enumerate"=some none)
  (z3:PySem.W.nsIn K mainGlobals "int"=some none)
  (z4:PySem.W.nsIn K mainGlobals "isinstance"=some none)
  (z5:PySem.W.nsIn K mainGlobals "len"=some none)
  (z6:PySem.W.nsIn K mainGlobals "list"=some none)
  (z7:PySem.W.nsIn K mainGlobals "max"=some none)
  (z8:PySem.W.nsIn K mainGlobals "min"=some none)
  (z9:PySem.W.nsIn K mainGlobals "range"=some none)
  (z10:PySem.W.nsIn K mainGlobals "str"=some none)
  (z11:PySem.W.nsIn K mainGlobals "sum"=some none)
  (z12:PySem.W.nsIn K mainGlobals "tuple"=some none)
  (v1:PySem.W.nsIn K mainGlobals "STATES"=some (some (.int 4294967296 w1)))
  (v2:PySem.W.nsIn K mainGlobals "HALF_OF_STATES"=some (some (.int 2147483648 w2)))
  (v3:PySem.W.nsIn K mainGlobals "FACTOR"=some (some (.int 1664525 w3)))
  (v4:PySem.W.nsIn K mainGlobals "ADDED"=some (some (.int 1013904223 w4)))
  (v5:PySem.W.nsIn K mainGlobals "GREATEST_NUMBER"=some (some (.int 99 w5)))
  (v6:PySem.W.nsIn K mainGlobals "MOST_ASKS"=some (some (.int 12 w6)))
  (v7:PySem.W.nsIn K mainGlobals "AGAIN"=some (some (.ref gt7)))(u7:K.lookup gt7=some ⟨.type "tuple",gd7,.seq #[.str "again" tk7_0] gn7,gs7⟩)
  (v8:PySem.W.nsIn K mainGlobals "LETTERS"=some (some (.str "ab" w8)))
  (ca_Bits:PySem.W.nsIn K mainGlobals "Bits"=some (some (.ref c_Bits)))
  (pg_Bits:PySem.W.plainGet K c_Bits Str.empty=true)(hd_Bits:PySem.W.hasDictIn K c_Bits=true)(po_Bits:PySem.W.plainOver K c_Bits=true)(sa_Bits:PySem.W.findIn K (.ref c_Bits) "__setattr__"=some (some (.builtin "object.__setattr__")))(mk_Bits:PySem.W.makesIn K c_Bits=true)(kc_Bits:PySem.W.keepIn K (.ref c_Bits)=true)
  (n_Bits_row:PySem.W.findIn K (.ref c_Bits) "row"=some none)
  (n_Bits_place:PySem.W.findIn K (.ref c_Bits) "place"=some none)
  (ca_E6:PySem.W.nsIn K mainGlobals "Drawer"=some (some (.ref c_E6)))
  (pg_E6:PySem.W.plainGet K c_E6 Str.empty=true)(hd_E6:PySem.W.hasDictIn K c_E6=true)(po_E6:PySem.W.plainOver K c_E6=true)(sa_E6:PySem.W.findIn K (.ref c_E6) "__setattr__"=some (some (.builtin "object.__setattr__")))(mk_E6:PySem.W.makesIn K c_E6=true)(kc_E6:PySem.W.keepIn K (.ref c_E6)=true)
  (n_Drawer_bits:PySem.W.findIn K (.ref c_E6) "bits"=some none)
  (n_Drawer_steps:PySem.W.findIn K (.ref c_E6) "steps"=some none)
  (ca_E7:PySem.W.nsIn K mainGlobals "Keeper"=some (some (.ref c_E7)))
  (pg_E7:PySem.W.plainGet K c_E7 Str.empty=true)(hd_E7:PySem.W.hasDictIn K c_E7=true)(po_E7:PySem.W.plainOver K c_E7=true)(sa_E7:PySem.W.findIn K (.ref c_E7) "__setattr__"=some (some (.builtin "object.__setattr__")))(mk_E7:PySem.W.makesIn K c_E7=true)(kc_E7:PySem.W.keepIn K (.ref c_E7)=true)
  (n_Keeper_bits:PySem.W.findIn K (.ref c_E7) "bits"=some none)
  (n_Keeper_most:PySem.W.findIn K (.ref c_E7) "most"=some none)
  (n_Keeper_number:PySem.W.findIn K (.ref c_E7) "number"=some none)
  (n_Keeper_size:PySem.W.findIn K (.ref c_E7) "size"=some none)
  (ca_Kept:PySem.W.nsIn K mainGlobals "Kept"=some (some (.ref c_Kept)))
  (pg_Kept:PySem.W.plainGet K c_Kept Str.empty=true)(hd_Kept:PySem.W.hasDictIn K c_Kept=true)(po_Kept:PySem.W.plainOver K c_Kept=true)(sa_Kept:PySem.W.findIn K (.ref c_Kept) "__setattr__"=some (some (.builtin "object.__setattr__")))(mk_Kept:PySem.W.makesIn K c_Kept=true)(kc_Kept:PySem.W.keepIn K (.ref c_Kept)=true)
  (n_Kept_bits:PySem.W.findIn K (.ref c_Kept) "bits"=some none)
  (n_Kept_most:PySem.W.findIn K (.ref c_Kept) "most"=some none)
  (n_Kept_things:PySem.W.findIn K (.ref c_Kept) "things"=some none)
  (n_Kept_came:PySem.W.findIn K (.ref c_Kept) "came"=some none)
  (a66:PySem.W.findIn K (.ref c_Bits) "__init__"=some (some (.ref f66)))(i66:PySem.W.isFn K (.ref f66)=true)(l66:K.lookup f66=some ⟨oc66,od66,.func (PySem.W.fnOf "__init__" "Bits.__init__" (defArgs s_Y10) (defBody s_Y10) (defScope s_Y10) .none kV66 dc66 pm66 an66 cd66 ct66),sl66⟩)(c66:PySem.W.codeIn K cd66 "Bits.__init__"=true)(k66:PySem.W.keepIn K (.ref f66)=true)
  (a67:PySem.W.findIn K (.ref c_Bits) "take"=some (some (.ref f67)))(i67:PySem.W.isFn K (.ref f67)=true)(l67:K.lookup f67=some ⟨oc67,od67,.func (PySem.W.fnOf "take" "Bits.take" (defArgs s_Y51) (defBody s_Y51) (defScope s_Y51) .none kV67 dc67 pm67 an67 cd67 ct67),sl67⟩)(c67:PySem.W.codeIn K cd67 "Bits.take"=true)(k67:PySem.W.keepIn K (.ref f67)=true)
  (a68:PySem.W.findIn K (.ref c_Bits) "used"=some (some (.ref f68)))(i68:PySem.W.isFn K (.ref f68)=true)(l68:K.lookup f68=some ⟨oc68,od68,.func (PySem.W.fnOf "used" "Bits.used" (defArgs s_Y41) (defBody s_Y41) (defScope s_Y41) .none kV68 dc68 pm68 an68 cd68 ct68),sl68⟩)(c68:PySem.W.codeIn K cd68 "Bits.used"=true)(k68:PySem.W.keepIn K (.ref f68)=true)
  (a69:PySem.W.findIn K (.ref c_Bits) "left"=some (some (.ref f69)))(i69:PySem.W.isFn K (.ref f69)=true)(l69:K.lookup f69=some ⟨oc69,od69,.func (PySem.W.fnOf "left" "Bits.left" (defArgs s_Y45) (defBody s_Y45) (defScope s_Y45) .none kV69 dc69 pm69 an69 cd69 ct69),sl69⟩)(c69:PySem.W.codeIn K cd69 "Bits.left"=true)(k69:PySem.W.keepIn K (.ref f69)=true)
  (a70:PySem.W.findIn K (.ref c_Bits) "go_back"=some (some (.ref f70)))(i70:PySem.W.isFn K (.ref f70)=true)(l70:K.lookup f70=some ⟨oc70,od70,.func (PySem.W.fnOf "go_back" "Bits.go_back" (defArgs s_Y19) (defBody s_Y19) (defScope s_Y19) .none kV70 dc70 pm70 an70 cd70 ct70),sl70⟩)(c70:PySem.W.codeIn K cd70 "Bits.go_back"=true)(k70:PySem.W.keepIn K (.ref f70)=true)
  (a71:PySem.W.findIn K (.ref c_Kept) "__init__"=some (some (.ref f71)))(i71:PySem.W.isFn K (.ref f71)=true)(l71:K.lookup f71=some ⟨oc71,od71,.func (PySem.W.fnOf "__init__" "Kept.__init__" (defArgs s_Y9) (defBody s_Y9) (defScope s_Y9) .none kV71 dc71 pm71 an71 cd71 ct71),sl71⟩)(c71:PySem.W.codeIn K cd71 "Kept.__init__"=true)(k71:PySem.W.keepIn K (.ref f71)=true)
  (a72:PySem.W.findIn K (.ref c_Kept) "tell"=some (some (.ref f72)))(i72:PySem.W.isFn K (.ref f72)=true)(l72:K.lookup f72=some ⟨oc72,od72,.func (PySem.W.fnOf "tell" "Kept.tell" (defArgs s_Y53) (defBody s_Y53) (defScope s_Y53) .none kV72 dc72 pm72 an72 cd72 ct72),sl72⟩)(c72:PySem.W.codeIn K cd72 "Kept.tell"=true)(k72:PySem.W.keepIn K (.ref f72)=true)
  (a73:PySem.W.findIn K (.ref c_Kept) "kept"=some (some (.ref f73)))(i73:PySem.W.isFn K (.ref f73)=true)(l73:K.lookup f73=some ⟨oc73,od73,.func (PySem.W.fnOf "kept" "Kept.kept" (defArgs s_Y49) (defBody s_Y49) (defScope s_Y49) .none kV73 dc73 pm73 an73 cd73 ct73),sl73⟩)(c73:PySem.W.codeIn K cd73 "Kept.kept"=true)(k73:PySem.W.keepIn K (.ref f73)=true)
  (a74:PySem.W.findIn K (.ref c_Kept) "many"=some (some (.ref f74)))(i74:PySem.W.isFn K (.ref f74)=true)(l74:K.lookup f74=some ⟨oc74,od74,.func (PySem.W.fnOf "many" "Kept.many" (defArgs s_Y50) (defBody s_Y50) (defScope s_Y50) .none kV74 dc74 pm74 an74 cd74 ct74),sl74⟩)(c74:PySem.W.codeIn K cd74 "Kept.many"=true)(k74:PySem.W.keepIn K (.ref f74)=true)
  (a75:PySem.W.findIn K (.ref c_E6) "__init__"=some (some (.ref f75)))(i75:PySem.W.isFn K (.ref f75)=true)(l75:K.lookup f75=some ⟨oc75,od75,.func (PySem.W.fnOf "__init__" "Drawer.__init__" (defArgs s_Y6) (defBody s_Y6) (defScope s_Y6) .none kV75 dc75 pm75 an75 cd75 ct75),sl75⟩)(c75:PySem.W.codeIn K cd75 "Drawer.__init__"=true)(k75:PySem.W.keepIn K (.ref f75)=true)
  (a76:PySem.W.findIn K (.ref c_E6) "choice"=some (some (.ref f76)))(i76:PySem.W.isFn K (.ref f76)=true)(l76:K.lookup f76=some ⟨oc76,od76,.func (PySem.W.fnOf "choice" "Drawer.choice" (defArgs s_Y13) (defBody s_Y13) (defScope s_Y13) .none kV76 dc76 pm76 an76 cd76 ct76),sl76⟩)(c76:PySem.W.codeIn K cd76 "Drawer.choice"=true)(k76:PySem.W.keepIn K (.ref f76)=true)
  (a77:PySem.W.findIn K (.ref c_E6) "noted"=some (some (.ref f77)))(i77:PySem.W.isFn K (.ref f77)=true)(l77:K.lookup f77=some ⟨oc77,od77,.func (PySem.W.fnOf "noted" "Drawer.noted" (defArgs s_Y16) (defBody s_Y16) (defScope s_Y16) .none kV77 dc77 pm77 an77 cd77 ct77),sl77⟩)(c77:PySem.W.codeIn K cd77 "Drawer.noted"=true)(k77:PySem.W.keepIn K (.ref f77)=true)
  (a78:PySem.W.findIn K (.ref c_E6) "used"=some (some (.ref f78)))(i78:PySem.W.isFn K (.ref f78)=true)(l78:K.lookup f78=some ⟨oc78,od78,.func (PySem.W.fnOf "used" "Drawer.used" (defArgs s_Y31) (defBody s_Y31) (defScope s_Y31) .none kV78 dc78 pm78 an78 cd78 ct78),sl78⟩)(c78:PySem.W.codeIn K cd78 "Drawer.used"=true)(k78:PySem.W.keepIn K (.ref f78)=true)
  (a79:PySem.W.findIn K (.ref c_E6) "back"=some (some (.ref f79)))(i79:PySem.W.isFn K (.ref f79)=true)(l79:K.lookup f79=some ⟨oc79,od79,.func (PySem.W.fnOf "back" "Drawer.back" (defArgs s_Y27) (defBody s_Y27) (defScope s_Y27) .none kV79 dc79 pm79 an79 cd79 ct79),sl79⟩)(c79:PySem.W.codeIn K cd79 "Drawer.back"=true)(k79:PySem.W.keepIn K (.ref f79)=true)
  (a80:PySem.W.findIn K (.ref c_E7) "__init__"=some (some (.ref f80)))(i80:PySem.W.isFn K (.ref f80)=true)(l80:K.lookup f80=some ⟨oc80,od80,.func (PySem.W.fnOf "__init__" "Keeper.__init__" (defArgs s_Y5) (defBody s_Y5) (defScope s_Y5) .none kV80 dc80 pm80 an80 cd80 ct80),sl80⟩)(c80:PySem.W.codeIn K cd80 "Keeper.__init__"=true)(k80:PySem.W.keepIn K (.ref f80)=true)
  (a81:PySem.W.findIn K (.ref c_E7) "room"=some (some (.ref f81)))(i81:PySem.W.isFn K (.ref f81)=true)(l81:K.lookup f81=some ⟨oc81,od81,.func (PySem.W.fnOf "room" "Keeper.room" (defArgs s_Y21) (defBody s_Y21) (defScope s_Y21) .none kV81 dc81 pm81 an81 cd81 ct81),sl81⟩)(c81:PySem.W.codeIn K cd81 "Keeper.room"=true)(k81:PySem.W.keepIn K (.ref f81)=true)
  (a82:PySem.W.findIn K (.ref c_E7) "draw"=some (some (.ref f82)))(i82:PySem.W.isFn K (.ref f82)=true)(l82:K.lookup f82=some ⟨oc82,od82,.func (PySem.W.fnOf "draw" "Keeper.draw" (defArgs s_Y33) (defBody s_Y33) (defScope s_Y33) .none kV82 dc82 pm82 an82 cd82 ct82),sl82⟩)(c82:PySem.W.codeIn K cd82 "Keeper.draw"=true)(k82:PySem.W.keepIn K (.ref f82)=true)
  (xa_E0:PySem.W.nsIn K mainGlobals "DrawError"=some (some (.ref e_E0)))(xl_E0:K.lookup e_E0=some ⟨xc_E0,xo_E0,.cls ed_E0,xs_E0⟩)(xi_E0:PySem.W.excIn K e_E0 [.type "ValueError",.type "Exception",.type "BaseException",.type "object"] "ValueError.__new__"=true)
  (xa_E1:PySem.W.nsIn K mainGlobals "NoBits"=some (some (.ref e_E1)))(xl_E1:K.lookup e_E1=some ⟨xc_E1,xo_E1,.cls ed_E1,xs_E1⟩)(xi_E1:PySem.W.excIn K e_E1 [.type "ValueError",.type "Exception",.type "BaseException",.type "object"] "ValueError.__new__"=true)
  (xa_E2:PySem.W.nsIn K mainGlobals "NoShares"=some (some (.ref e_E2)))(xl_E2:K.lookup e_E2=some ⟨xc_E2,xo_E2,.cls ed_E2,xs_E2⟩)(xi_E2:PySem.W.excIn K e_E2 [.type "ValueError",.type "Exception",.type "BaseException",.type "object"] "ValueError.__new__"=true)
  (xa_E3:PySem.W.nsIn K mainGlobals "NoPlace"=some (some (.ref e_E3)))(xl_E3:K.lookup e_E3=some ⟨xc_E3,xo_E3,.cls ed_E3,xs_E3⟩)(xi_E3:PySem.W.excIn K e_E3 [.type "ValueError",.type "Exception",.type "BaseException",.type "object"] "ValueError.__new__"=true)
  (xa_E4:PySem.W.nsIn K mainGlobals "NoStep"=some (some (.ref e_E4)))(xl_E4:K.lookup e_E4=some ⟨xc_E4,xo_E4,.cls ed_E4,xs_E4⟩)(xi_E4:PySem.W.excIn K e_E4 [.type "ValueError",.type "Exception",.type "BaseException",.type "object"] "ValueError.__new__"=true)
  (xa_E5:PySem.W.nsIn K mainGlobals "NoText"=some (some (.ref e_E5)))(xl_E5:K.lookup e_E5=some ⟨xc_E5,xo_E5,.cls ed_E5,xs_E5⟩)(xi_E5:PySem.W.excIn K e_E5 [.type "ValueError",.type "Exception",.type "BaseException",.type "object"] "ValueError.__new__"=true)
  (xm_E0_E0:ed_E0.mro.contains (.ref e_E0)=true)
  (xm_E0_E1:ed_E0.mro.contains (.ref e_E1)=false)
  (xm_E0_E2:ed_E0.mro.contains (.ref e_E2)=false)
  (xm_E0_E3:ed_E0.mro.contains (.ref e_E3)=false)
  (xm_E0_E4:ed_E0.mro.contains (.ref e_E4)=false)
  (xm_E0_E5:ed_E0.mro.contains (.ref e_E5)=false)
  (xm_E1_E0:ed_E1.mro.contains (.ref e_E0)=true)
  (xm_E1_E1:ed_E1.mro.contains (.ref e_E1)=true)
  (xm_E1_E2:ed_E1.mro.contains (.ref e_E2)=false)
  (xm_E1_E3:ed_E1.mro.contains (.ref e_E3)=false)
  (xm_E1_E4:ed_E1.mro.contains (.ref e_E4)=false)
  (xm_E1_E5:ed_E1.mro.contains (.ref e_E5)=false)
  (xm_E2_E0:ed_E2.mro.contains (.ref e_E0)=true)
  (xm_E2_E1:ed_E2.mro.contains (.ref e_E1)=false)
  (xm_E2_E2:ed_E2.mro.contains (.ref e_E2)=true)
  (xm_E2_E3:ed_E2.mro.contains (.ref e_E3)=false)
  (xm_E2_E4:ed_E2.mro.contains (.ref e_E4)=false)
  (xm_E2_E5:ed_E2.mro.contains (.ref e_E5)=false)
  (xm_E3_E0:ed_E3.mro.contains (.ref e_E0)=true)
  (xm_E3_E1:ed_E3.mro.contains (.ref e_E1)=false)
  (xm_E3_E2:ed_E3.mro.contains (.ref e_E2)=false)
  (xm_E3_E3:ed_E3.mro.contains (.ref e_E3)=true)
  (xm_E3_E4:ed_E3.mro.contains (.ref e_E4)=false)
  (xm_E3_E5:ed_E3.mro.contains (.ref e_E5)=false)
  (xm_E4_E0:ed_E4.mro.contains (.ref e_E0)=true)
  (xm_E4_E1:ed_E4.mro.contains (.ref e_E1)=false)
  (xm_E4_E2:ed_E4.mro.contains (.ref e_E2)=false)
  (xm_E4_E3:ed_E4.mro.contains (.ref e_E3)=false)
  (xm_E4_E4:ed_E4.mro.contains (.ref e_E4)=true)
  (xm_E4_E5:ed_E4.mro.contains (.ref e_E5)=false)
  (xm_E5_E0:ed_E5.mro.contains (.ref e_E0)=true)
  (xm_E5_E1:ed_E5.mro.contains (.ref e_E1)=false)
  (xm_E5_E2:ed_E5.mro.contains (.ref e_E2)=false)
  (xm_E5_E3:ed_E5.mro.contains (.ref e_E3)=false)
  (xm_E5_E4:ed_E5.mro.contains (.ref e_E4)=false)
  (xm_E5_E5:ed_E5.mro.contains (.ref e_E5)=true)
  (xok:xOk K [e_E1,e_E2,e_E3,e_E4,e_E5]=true) :
  ∃fd:FuncData,(∀(s:Shared)(v:Value),BindsTo s fd ⟨[v],[]⟩ [("_law_script",v)])∧∀base:Heap,K.In base→base.Ns mainGlobals mg→FnOk l.prog w K mg base CX0 24 fa fd ["_law_script"] (spLaw K):=by
 have e:=hfa.symm.trans (PySem.W.mg_of X G a65)
 cases e
 have B:Bl mg:=⟨PySem.W.mg_none_of X G z1,PySem.W.mg_none_of X G z2,PySem.W.mg_none_of X G z3,PySem.W.mg_none_of X G z4,PySem.W.mg_none_of X G z5,PySem.W.mg_none_of X G z6,PySem.W.mg_none_of X G z7,PySem.W.mg_none_of X G z8,PySem.W.mg_none_of X G z9,PySem.W.mg_none_of X G z10,PySem.W.mg_none_of X G z11,PySem.W.mg_none_of X G z12⟩
 have C:Cn K mg:=⟨⟨_,PySem.W.mg_of X G v1⟩,⟨_,PySem.W.mg_of X G v2⟩,⟨_,PySem.W.mg_of X G v3⟩,⟨_,PySem.W.mg_of X G v4⟩,⟨_,PySem.W.mg_of X G v5⟩,⟨_,PySem.W.mg_of X G v6⟩,⟨_,PySem.W.mg_of X G v7,fun _=>.inr ⟨_,_,_,u7,rfl,rfl,by show 1≤sizeLine;decide,.cons ⟨_,rfl⟩ (.nil)⟩⟩,⟨_,PySem.W.mg_of X G v8⟩⟩
 have F_Y22:=fun_mk (st:=s_Y22) l1 c1 k1
 have F_Y35:=fun_mk (st:=s_Y35) l2 c2 k2
 have F_Y63:=fun_mk (st:=s_Y63) l3 c3 k3
 have F_Y23:=fun_mk (st:=s_Y23) l4 c4 k4
 have F_Y3:=fun_mk (st:=s_Y3) l5 c5 k5
 have F_Y43:=fun_mk (st:=s_Y43) l6 c6 k6
 have F_Y32:=fun_mk (st:=s_Y32) l7 c7 k7
 have F_Y77:=fun_mk (st:=s_Y77) l8 c8 k8
 have F_Y44:=fun_mk (st:=s_Y44) l9 c9 k9
 have F_Y26:=fun_mk (st:=s_Y26) l10 c10 k10
 have F_Y14:=fun_mk (st:=s_Y14) l11 c11 k11
 have F_Y36:=fun_mk (st:=s_Y36) l12 c12 k12
 have F_Y1:=fun_mk (st:=s_Y1) l13 c13 k13
 have F_Y55:=fun_mk (st:=s_Y55) l14 c14 k14
 have F_Y7:=fun_mk (st:=s_Y7) l15 c15 k15
 have F_Y56:=fun_mk (st:=s_Y56) l16 c16 k16
 have F_Y79:=fun_mk (st:=s_Y79) l17 c17 k17
 have F_Y42:=fun_mk (st:=s_Y42) l18 c18 k18
 have F_Y59:=fun_mk (st:=s_Y59) l19 c19 k19
 have F_Y58:=fun_mk (st:=s_Y58) l20 c20 k20
 have F_Y15:=fun_mk (st:=s_Y15) l21 c21 k21
 have F_Y72:=fun_mk (st:=s_Y72) l22 c22 k22
 have F_Y70:=fun_mk (st:=s_Y70) l23 c23 k23
 have F_Y81:=fun_mk (st:=s_Y81) l24 c24 k24
 have F_Y47:=fun_mk (st:=s_Y47) l25 c25 k25
 have F_Y76:=fun_mk (st:=s_Y76) l26 c26 k26
 have F_Y66:=fun_mk (st:=s_Y66) l27 c27 k27
 have F_Y73:=fun_mk (st:=s_Y73) l28 c28 k28
 have F_Y12:=fun_mk (st:=s_Y12) l29 c29 k29
 have F_Y68:=fun_mk (st:=s_Y68) l30 c30 k30
 have F_Y52:=fun_mk (st:=s_Y52) l31 c31 k31
 have F_Y61:=fun_mk (st:=s_Y61) l32 c32 k32
 have F_Y64:=fun_mk (st:=s_Y64) l33 c33 k33
 have F_Y17:=fun_mk (st:=s_Y17) l34 c34 k34
 have F_Y18:=fun_mk (st:=s_Y18) l35 c35 k35
 have F_Y29:=fun_mk (st:=s_Y29) l36 c36 k36
 have F_Y67:=fun_mk (st:=s_Y67) l37 c37 k37
 have F_Y75:=fun_mk (st:=s_Y75) l38 c38 k38
 have F_Y71:=fun_mk (st:=s_Y71) l39 c39 k39
 have F_Y74:=fun_mk (st:=s_Y74) l40 c40 k40
 have F_Y39:=fun_mk (st:=s_Y39) l41 c41 k41
 have F_Y30:=fun_mk (st:=s_Y30) l42 c42 k42
 have F_Y34:=fun_mk (st:=s_Y34) l43 c43 k43
 have F_Y4:=fun_mk (st:=s_Y4) l44 c44 k44
 have F_Y8:=fun_mk (st:=s_Y8) l45 c45 k45
 have F_Y57:=fun_mk (st:=s_Y57) l46 c46 k46
 have F_Y65:=fun_mk (st:=s_Y65) l47 c47 k47
 have F_Y80:=fun_mk (st:=s_Y80) l48 c48 k48
 have F_Y48:=fun_mk (st:=s_Y48) l49 c49 k49
 have F_Y28:=fun_mk (st:=s_Y28) l50 c50 k50
 have F_Y69:=fun_mk (st:=s_Y69) l51 c51 k51
 have F_Y54:=fun_mk (st:=s_Y54) l52 c52 k52
 have F_Y2:=fun_mk (st:=s_Y2) l53 c53 k53
 have F_Y40:=fun_mk (st:=s_Y40) l54 c54 k54
 have F_Y25:=fun_mk (st:=s_Y25) l55 c55 k55
 have F_Y62:=fun_mk (st:=s_Y62) l56 c56 k56
 have F_Y11:=fun_mk (st:=s_Y11) l57 c57 k57
 have F_Y78:=fun_mk (st:=s_Y78) l58 c58 k58
 have F_Y46:=fun_mk (st:=s_Y46) l59 c59 k59
 have F_Y37:=fun_mk (st:=s_Y37) l60 c60 k60
 have F_Y20:=fun_mk (st:=s_Y20) l61 c61 k61
 have F_Y24:=fun_mk (st:=s_Y24) l62 c62 k62
 have F_Y38:=fun_mk (st:=s_Y38) l63 c63 k63
 have F_Y60:=fun_mk (st:=s_Y60) l64 c64 k64
 have F_law:=fun_mk (st:=s_law) l65 c65 k65
 have F_Y10:=fun_mk (st:=s_Y10) l66 c66 k66
 have b_Y10:=F_Y10.binds (ps:=p_Y10) fun _ _ _ _ _ _ us hl=>(by obtain⟨_,_,rfl⟩:=lenU2 hl;rfl)
 have m_Y10:Meth K c_Bits "__init__" f66:=⟨a66,i66,k66⟩
 have F_Y51:=fun_mk (st:=s_Y51) l67 c67 k67
 have b_Y51:=F_Y51.binds (ps:=p_Y51) fun _ _ _ _ _ _ us hl=>(by obtain⟨_,rfl⟩:=lenU1 hl;rfl)
 have m_Y51:Meth K c_Bits "take" f67:=⟨a67,i67,k67⟩
 have F_Y41:=fun_mk (st:=s_Y41) l68 c68 k68
 have b_Y41:=F_Y41.binds (ps:=p_Y41) fun _ _ _ _ _ _ us hl=>(by obtain⟨_,rfl⟩:=lenU1 hl;rfl)
 have m_Y41:Meth K c_Bits "used" f68:=⟨a68,i68,k68⟩
 have F_Y45:=fun_mk (st:=s_Y45) l69 c69 k69
 have b_Y45:=F_Y45.binds (ps:=p_Y45) fun _ _ _ _ _ _ us hl=>(by obtain⟨_,rfl⟩:=lenU1 hl;rfl)
 have m_Y45:Meth K c_Bits "left" f69:=⟨a69,i69,k69⟩
 have F_Y19:=fun_mk (st:=s_Y19) l70 c70 k70
 have b_Y19:=F_Y19.binds (ps:=p_Y19) fun _ _ _ _ _ _ us hl=>(by obtain⟨_,_,rfl⟩:=lenU2 hl;rfl)
 have m_Y19:Meth K c_Bits "go_back" f70:=⟨a70,i70,k70⟩
 have F_Y9:=fun_mk (st:=s_Y9) l71 c71 k71
 have b_Y9:=F_Y9.binds (ps:=p_Y9) fun _ _ _ _ _ _ us hl=>(by obtain⟨_,_,_,rfl⟩:=lenU3 hl;rfl)
 have m_Y9:Meth K c_Kept "__init__" f71:=⟨a71,i71,k71⟩
 have F_Y53:=fun_mk (st:=s_Y53) l72 c72 k72
 have b_Y53:=F_Y53.binds (ps:=p_Y53) fun _ _ _ _ _ _ us hl=>(by obtain⟨_,_,rfl⟩:=lenU2 hl;rfl)
 have m_Y53:Meth K c_Kept "tell" f72:=⟨a72,i72,k72⟩
 have F_Y49:=fun_mk (st:=s_Y49) l73 c73 k73
 have b_Y49:=F_Y49.binds (ps:=p_Y49) fun _ _ _ _ _ _ us hl=>(by obtain⟨_,rfl⟩:=lenU1 hl;rfl)
 have m_Y49:Meth K c_Kept "kept" f73:=⟨a73,i73,k73⟩
 have F_Y50:=fun_mk (st:=s_Y50) l74 c74 k74
 have b_Y50:=F_Y50.binds (ps:=p_Y50) fun _ _ _ _ _ _ us hl=>(by obtain⟨_,rfl⟩:=lenU1 hl;rfl)
 have m_Y50:Meth K c_Kept "many" f74:=⟨a74,i74,k74⟩
 have F_Y6:=fun_mk (st:=s_Y6) l75 c75 k75
 have b_Y6:=F_Y6.binds (ps:=p_Y6) fun _ _ _ _ _ _ us hl=>(by obtain⟨_,_,_,rfl⟩:=lenU3 hl;rfl)
 have m_Y6:Meth K c_E6 "__init__" f75:=⟨a75,i75,k75⟩
 have F_Y13:=fun_mk (st:=s_Y13) l76 c76 k76
 have b_Y13:=F_Y13.binds (ps:=p_Y13) fun _ _ _ _ _ _ us hl=>(by obtain⟨_,_,_,rfl⟩:=lenU3 hl;rfl)
 have m_Y13:Meth K c_E6 "choice" f76:=⟨a76,i76,k76⟩
 have F_Y16:=fun_mk (st:=s_Y16) l77 c77 k77
 have b_Y16:=F_Y16.binds (ps:=p_Y16) fun _ _ _ _ _ _ us hl=>(by obtain⟨_,_,_,rfl⟩:=lenU3 hl;rfl)
 have m_Y16:Meth K c_E6 "noted" f77:=⟨a77,i77,k77⟩
 have F_Y31:=fun_mk (st:=s_Y31) l78 c78 k78
 have b_Y31:=F_Y31.binds (ps:=p_Y31) fun _ _ _ _ _ _ us hl=>(by obtain⟨_,rfl⟩:=lenU1 hl;rfl)
 have m_Y31:Meth K c_E6 "used" f78:=⟨a78,i78,k78⟩
 have F_Y27:=fun_mk (st:=s_Y27) l79 c79 k79
 have b_Y27:=F_Y27.binds (ps:=p_Y27) fun _ _ _ _ _ _ us hl=>(by obtain⟨_,rfl⟩:=lenU1 hl;rfl)
 have m_Y27:Meth K c_E6 "back" f79:=⟨a79,i79,k79⟩
 have F_Y5:=fun_mk (st:=s_Y5) l80 c80 k80
 have b_Y5:=F_Y5.binds (ps:=p_Y5) fun _ _ _ _ _ _ us hl=>(by obtain⟨_,_,_,rfl⟩:=lenU3 hl;rfl)
 have m_Y5:Meth K c_E7 "__init__" f80:=⟨a80,i80,k80⟩
 have F_Y21:=fun_mk (st:=s_Y21) l81 c81 k81
 have b_Y21:=F_Y21.binds (ps:=p_Y21) fun _ _ _ _ _ _ us hl=>(by obtain⟨_,rfl⟩:=lenU1 hl;rfl)
 have m_Y21:Meth K c_E7 "room" f81:=⟨a81,i81,k81⟩
 have F_Y33:=fun_mk (st:=s_Y33) l82 c82 k82
 have b_Y33:=F_Y33.binds (ps:=p_Y33) fun _ _ _ _ _ _ us hl=>(by obtain⟨_,_,rfl⟩:=lenU2 hl;rfl)
 have m_Y33:Meth K c_E7 "draw" f82:=⟨a82,i82,k82⟩
 have cls_Bits:Cls K c_Bits:=⟨pg_Bits,hd_Bits,po_Bits,sa_Bits⟩
 have cls_E6:Cls K c_E6:=⟨pg_E6,hd_E6,po_E6,sa_E6⟩
 have cls_E7:Cls K c_E7:=⟨pg_E7,hd_E7,po_E7,sa_E7⟩
 have cls_Kept:Cls K c_Kept:=⟨pg_Kept,hd_Kept,po_Kept,sa_Kept⟩
 have mk_Bits:Mk K c_Bits f66:=⟨mk_Bits,a66,i66,kc_Bits⟩
 have mgC_Bits:=PySem.W.mg_of X G ca_Bits
 have mk_E6:Mk K c_E6 f75:=⟨mk_E6,a75,i75,kc_E6⟩
 have mgC_E6:=PySem.W.mg_of X G ca_E6
 have mk_E7:Mk K c_E7 f80:=⟨mk_E7,a80,i80,kc_E7⟩
 have mgC_E7:=PySem.W.mg_of X G ca_E7
 have mk_Kept:Mk K c_Kept f71:=⟨mk_Kept,a71,i71,kc_Kept⟩
 have mgC_Kept:=PySem.W.mg_of X G ca_Kept
 have X_E0:Exc K mg "DrawError" e_E0 ed_E0.mro:=⟨PySem.W.mg_of X G xa_E0,xi_E0,_,_,_,_,xl_E0,rfl⟩
 have X_E1:Exc K mg "NoBits" e_E1 ed_E1.mro:=⟨PySem.W.mg_of X G xa_E1,xi_E1,_,_,_,_,xl_E1,rfl⟩
 have X_E2:Exc K mg "NoShares" e_E2 ed_E2.mro:=⟨PySem.W.mg_of X G xa_E2,xi_E2,_,_,_,_,xl_E2,rfl⟩
 have X_E3:Exc K mg "NoPlace" e_E3 ed_E3.mro:=⟨PySem.W.mg_of X G xa_E3,xi_E3,_,_,_,_,xl_E3,rfl⟩
 have X_E4:Exc K mg "NoStep" e_E4 ed_E4.mro:=⟨PySem.W.mg_of X G xa_E4,xi_E4,_,_,_,_,xl_E4,rfl⟩
 have X_E5:Exc K mg "NoText" e_E5 ed_E5.mro:=⟨PySem.W.mg_of X G xa_E5,xi_E5,_,_,_,_,xl_E5,rfl⟩
 have b_Y22:=F_Y22.binds (ps:=p_Y22) fun _ _ _ _ _ _ us hl=>(by obtain⟨_,_,_,rfl⟩:=lenU3 hl;rfl)
 have b_Y35:=F_Y35.binds (ps:=p_Y35) fun _ _ _ _ _ _ us hl=>(by obtain⟨_,rfl⟩:=lenU1 hl;rfl)
 have b_Y63:=F_Y63.binds (ps:=p_Y63) fun _ _ _ _ _ _ us hl=>(by obtain⟨_,_,rfl⟩:=lenU2 hl;rfl)
 have b_Y23:=F_Y23.binds (ps:=p_Y23) fun _ _ _ _ _ _ us hl=>(by obtain⟨_,_,rfl⟩:=lenU2 hl;rfl)
 have b_Y3:=F_Y3.binds (ps:=p_Y3) fun _ _ _ _ _ _ us hl=>(by obtain⟨_,_,rfl⟩:=lenU2 hl;rfl)
 have b_Y43:=F_Y43.binds (ps:=p_Y43) fun _ _ _ _ _ _ us hl=>(by obtain⟨_,rfl⟩:=lenU1 hl;rfl)
 have b_Y32:=F_Y32.binds (ps:=p_Y32) fun _ _ _ _ _ _ us hl=>(by obtain⟨_,_,rfl⟩:=lenU2 hl;rfl)
 have b_Y77:=F_Y77.binds (ps:=p_Y77) fun _ _ _ _ _ _ us hl=>(by obtain⟨_,_,rfl⟩:=lenU2 hl;rfl)
 have b_Y44:=F_Y44.binds (ps:=p_Y44) fun _ _ _ _ _ _ us hl=>(by obtain⟨_,_,rfl⟩:=lenU2 hl;rfl)
 have b_Y26:=F_Y26.binds (ps:=p_Y26) fun _ _ _ _ _ _ us hl=>(by obtain⟨_,_,rfl⟩:=lenU2 hl;rfl)
 have b_Y14:=F_Y14.binds (ps:=p_Y14) fun _ _ _ _ _ _ us hl=>(by obtain⟨_,rfl⟩:=lenU1 hl;rfl)
 have b_Y36:=F_Y36.binds (ps:=p_Y36) fun _ _ _ _ _ _ us hl=>(by obtain⟨_,_,rfl⟩:=lenU2 hl;rfl)
 have b_Y1:=F_Y1.binds (ps:=p_Y1) fun _ _ _ _ _ _ us hl=>(by obtain⟨_,rfl⟩:=lenU1 hl;rfl)
 have b_Y55:=F_Y55.binds (ps:=p_Y55) fun _ _ _ _ _ _ us hl=>(by obtain⟨_,_,rfl⟩:=lenU2 hl;rfl)
 have b_Y7:=F_Y7.binds (ps:=p_Y7) fun _ _ _ _ _ _ us hl=>(by obtain⟨_,rfl⟩:=lenU1 hl;rfl)
 have b_Y56:=F_Y56.binds (ps:=p_Y56) fun _ _ _ _ _ _ us hl=>(by obtain⟨_,_,rfl⟩:=lenU2 hl;rfl)
 have b_Y79:=F_Y79.binds (ps:=p_Y79) fun _ _ _ _ _ _ us hl=>(by obtain⟨_,_,rfl⟩:=lenU2 hl;rfl)
 have b_Y42:=F_Y42.binds (ps:=p_Y42) fun _ _ _ _ _ _ us hl=>(by obtain⟨_,_,_,rfl⟩:=lenU3 hl;rfl)
 have b_Y59:=F_Y59.binds (ps:=p_Y59) fun _ _ _ _ _ _ us hl=>(by obtain⟨_,_,_,rfl⟩:=lenU3 hl;rfl)
 have b_Y58:=F_Y58.binds (ps:=p_Y58) fun _ _ _ _ _ _ us hl=>(by obtain⟨_,_,rfl⟩:=lenU2 hl;rfl)
 have b_Y15:=F_Y15.binds (ps:=p_Y15) fun _ _ _ _ _ _ us hl=>(by obtain⟨_,_,rfl⟩:=lenU2 hl;rfl)
 have b_Y72:=F_Y72.binds (ps:=p_Y72) fun _ _ _ _ _ _ us hl=>(by obtain⟨_,_,rfl⟩:=lenU2 hl;rfl)
 have b_Y70:=F_Y70.binds (ps:=p_Y70) fun _ _ _ _ _ _ us hl=>(by obtain⟨_,_,_,rfl⟩:=lenU3 hl;rfl)
 have b_Y81:=F_Y81.binds (ps:=p_Y81) fun _ _ _ _ _ _ us hl=>(by obtain⟨_,_,rfl⟩:=lenU2 hl;rfl)
 have b_Y47:=F_Y47.binds (ps:=p_Y47) fun _ _ _ _ _ _ us hl=>(by obtain⟨_,_,rfl⟩:=lenU2 hl;rfl)
 have b_Y76:=F_Y76.binds (ps:=p_Y76) fun _ _ _ _ _ _ us hl=>(by obtain⟨_,_,_,rfl⟩:=lenU3 hl;rfl)
 have b_Y66:=F_Y66.binds (ps:=p_Y66) fun _ _ _ _ _ _ us hl=>(by obtain⟨_,_,rfl⟩:=lenU2 hl;rfl)
 have b_Y73:=F_Y73.binds (ps:=p_Y73) fun _ _ _ _ _ _ us hl=>(by obtain⟨_,rfl⟩:=lenU1 hl;rfl)
 have b_Y12:=F_Y12.binds (ps:=p_Y12) fun _ _ _ _ _ _ us hl=>(by obtain⟨_,rfl⟩:=lenU1 hl;rfl)
 have b_Y68:=F_Y68.binds (ps:=p_Y68) fun _ _ _ _ _ _ us hl=>(by obtain⟨_,_,rfl⟩:=lenU2 hl;rfl)
 have b_Y52:=F_Y52.binds (ps:=p_Y52) fun _ _ _ _ _ _ us hl=>(by obtain⟨_,rfl⟩:=lenU1 hl;rfl)
 have b_Y61:=F_Y61.binds (ps:=p_Y61) fun _ _ _ _ _ _ us hl=>(by obtain⟨_,rfl⟩:=lenU1 hl;rfl)
 have b_Y64:=F_Y64.binds (ps:=p_Y64) fun _ _ _ _ _ _ us hl=>(by obtain⟨_,_,rfl⟩:=lenU2 hl;rfl)
 have b_Y17:=F_Y17.binds (ps:=p_Y17) fun _ _ _ _ _ _ us hl=>(by obtain⟨_,_,rfl⟩:=lenU2 hl;rfl)
 have b_Y18:=F_Y18.binds (ps:=p_Y18) fun _ _ _ _ _ _ us hl=>(by obtain⟨_,rfl⟩:=lenU1 hl;rfl)
 have b_Y29:=F_Y29.binds (ps:=p_Y29) fun _ _ _ _ _ _ us hl=>(by obtain⟨_,rfl⟩:=lenU1 hl;rfl)
 have b_Y67:=F_Y67.binds (ps:=p_Y67) fun _ _ _ _ _ _ us hl=>(by obtain⟨_,_,rfl⟩:=lenU2 hl;rfl)
 have b_Y75:=F_Y75.binds (ps:=p_Y75) fun _ _ _ _ _ _ us hl=>(by obtain⟨_,_,rfl⟩:=lenU2 hl;rfl)
 have b_Y71:=F_Y71.binds (ps:=p_Y71) fun _ _ _ _ _ _ us hl=>(by obtain⟨_,rfl⟩:=lenU1 hl;rfl)
 have b_Y74:=F_Y74.binds (ps:=p_Y74) fun _ _ _ _ _ _ us hl=>(by obtain⟨_,_,rfl⟩:=lenU2 hl;rfl)
 have b_Y39:=F_Y39.binds (ps:=p_Y39) fun _ _ _ _ _ _ us hl=>(by obtain⟨_,_,rfl⟩:=lenU2 hl;rfl)
 have b_Y30:=F_Y30.binds (ps:=p_Y30) fun _ _ _ _ _ _ us hl=>(by obtain⟨_,rfl⟩:=lenU1 hl;rfl)
 have b_Y34:=F_Y34.binds (ps:=p_Y34) fun _ _ _ _ _ _ us hl=>(by obtain⟨_,_,rfl⟩:=lenU2 hl;rfl)
 have b_Y4:=F_Y4.binds (ps:=p_Y4) fun _ _ _ _ _ _ us hl=>(by obtain⟨_,_,rfl⟩:=lenU2 hl;rfl)
 have b_Y8:=F_Y8.binds (ps:=p_Y8) fun _ _ _ _ _ _ us hl=>(by obtain⟨_,_,rfl⟩:=lenU2 hl;rfl)
 have b_Y57:=F_Y57.binds (ps:=p_Y57) fun _ _ _ _ _ _ us hl=>(by obtain⟨_,_,_,rfl⟩:=lenU3 hl;rfl)
 have b_Y65:=F_Y65.binds (ps:=p_Y65) fun _ _ _ _ _ _ us hl=>(by obtain⟨_,rfl⟩:=lenU1 hl;rfl)
 have b_Y80:=F_Y80.binds (ps:=p_Y80) fun _ _ _ _ _ _ us hl=>(by obtain⟨_,rfl⟩:=lenU1 hl;rfl)
 have b_Y48:=F_Y48.binds (ps:=p_Y48) fun _ _ _ _ _ _ us hl=>(by obtain⟨_,_,_,rfl⟩:=lenU3 hl;rfl)
 have b_Y28:=F_Y28.binds (ps:=p_Y28) fun _ _ _ _ _ _ us hl=>(by obtain⟨_,_,rfl⟩:=lenU2 hl;rfl)
 have b_Y69:=F_Y69.binds (ps:=p_Y69) fun _ _ _ _ _ _ us hl=>(by obtain⟨_,_,_,rfl⟩:=lenU3 hl;rfl)
 have b_Y54:=F_Y54.binds (ps:=p_Y54) fun _ _ _ _ _ _ us hl=>(by obtain⟨_,_,rfl⟩:=lenU2 hl;rfl)
 have b_Y2:=F_Y2.binds (ps:=p_Y2) fun _ _ _ _ _ _ us hl=>(by obtain⟨_,_,rfl⟩:=lenU2 hl;rfl)
 have b_Y40:=F_Y40.binds (ps:=p_Y40) fun _ _ _ _ _ _ us hl=>(by obtain⟨_,_,rfl⟩:=lenU2 hl;rfl)
 have b_Y25:=F_Y25.binds (ps:=p_Y25) fun _ _ _ _ _ _ us hl=>(by obtain⟨_,_,rfl⟩:=lenU2 hl;rfl)
 have b_Y62:=F_Y62.binds (ps:=p_Y62) fun _ _ _ _ _ _ us hl=>(by obtain⟨_,_,_,rfl⟩:=lenU3 hl;rfl)
 have b_Y11:=F_Y11.binds (ps:=p_Y11) fun _ _ _ _ _ _ us hl=>(by obtain⟨_,_,rfl⟩:=lenU2 hl;rfl)
 have b_Y78:=F_Y78.binds (ps:=p_Y78) fun _ _ _ _ _ _ us hl=>(by obtain⟨_,_,_,rfl⟩:=lenU3 hl;rfl)
 have b_Y46:=F_Y46.binds (ps:=p_Y46) fun _ _ _ _ _ _ us hl=>(by obtain⟨_,_,_,rfl⟩:=lenU3 hl;rfl)
 have b_Y37:=F_Y37.binds (ps:=p_Y37) fun _ _ _ _ _ _ us hl=>(by obtain⟨_,rfl⟩:=lenU1 hl;rfl)
 have b_Y20:=F_Y20.binds (ps:=p_Y20) fun _ _ _ _ _ _ us hl=>(by obtain⟨_,_,_,_,rfl⟩:=lenU4 hl;rfl)
 have b_Y24:=F_Y24.binds (ps:=p_Y24) fun _ _ _ _ _ _ us hl=>(by obtain⟨_,_,_,rfl⟩:=lenU3 hl;rfl)
 have b_Y38:=F_Y38.binds (ps:=p_Y38) fun _ _ _ _ _ _ us hl=>(by obtain⟨_,_,_,rfl⟩:=lenU3 hl;rfl)
 have b_Y60:=F_Y60.binds (ps:=p_Y60) fun _ _ _ _ _ _ us hl=>(by obtain⟨_,_,_,_,_,rfl⟩:=lenU5 hl;rfl)
 have b_law:=F_law.binds (ps:=p_law) fun _ _ _ _ _ _ us hl=>(by obtain⟨_,rfl⟩:=lenU1 hl;rfl)
 refine⟨PySem.W.fnOf "law" "law" (defArgs s_law) (defBody s_law) (defScope s_law) .none kV65 dc65 pm65 an65 cd65 ct65,fun s v=>.of_eq rfl,fun base _ _=>?_⟩
 have mg_Y22:=PySem.W.mg_of X G a1
 have kp_Y22:=k1
 have m_Y22:=fun {sp:Sp}{j:Nat}(O:FnOk l.prog w K mg base (CXR l.prog w) j f1 _ p_Y22 sp)=>FnX.mk (x:="drawn_whole") O (PySem.W.mg_of X G a1) k1 b_Y22
 have mg_Y35:=PySem.W.mg_of X G a2
 have kp_Y35:=k2
 have m_Y35:=fun {sp:Sp}{j:Nat}(O:FnOk l.prog w K mg base CX0 j f2 _ p_Y35 sp)=>Fn.of (x:="next_state") O (PySem.W.mg_of X G a2) k2 b_Y35
 have mg_Y63:=PySem.W.mg_of X G a3
 have kp_Y63:=k3
 have m_Y63:=fun {sp:Sp}{j:Nat}(O:FnOk l.prog w K mg base CX0 j f3 _ p_Y63 sp)=>Fn.of (x:="bits_of") O (PySem.W.mg_of X G a3) k3 b_Y63
 have mg_Y23:=PySem.W.mg_of X G a4
 have kp_Y23:=k4
 have m_Y23:=fun {sp:Sp}{j:Nat}(O:FnOk l.prog w K mg base (CXR l.prog w) j f4 _ p_Y23 sp)=>FnX.mk (x:="simple_even") O (PySem.W.mg_of X G a4) k4 b_Y23
 have mg_Y3:=PySem.W.mg_of X G a5
 have kp_Y3:=k5
 have m_Y3:=fun {sp:Sp}{j:Nat}(O:FnOk l.prog w K mg base (CXR l.prog w) j f5 _ p_Y3 sp)=>FnX.mk (x:="take_simple_even") O (PySem.W.mg_of X G a5) k5 b_Y3
 have mg_Y43:=PySem.W.mg_of X G a6
 have kp_Y43:=k6
 have m_Y43:=fun {sp:Sp}{j:Nat}(O:FnOk l.prog w K mg base CX0 j f6 _ p_Y43 sp)=>Fn.of (x:="width_for") O (PySem.W.mg_of X G a6) k6 b_Y43
 have mg_Y32:=PySem.W.mg_of X G a7
 have kp_Y32:=k7
 have m_Y32:=fun {sp:Sp}{j:Nat}(O:FnOk l.prog w K mg base (CXR l.prog w) j f7 _ p_Y32 sp)=>FnX.mk (x:="take_number") O (PySem.W.mg_of X G a7) k7 b_Y32
 have mg_Y77:=PySem.W.mg_of X G a8
 have kp_Y77:=k8
 have m_Y77:=fun {sp:Sp}{j:Nat}(O:FnOk l.prog w K mg base (CXR l.prog w) j f8 _ p_Y77 sp)=>FnX.mk (x:="even") O (PySem.W.mg_of X G a8) k8 b_Y77
 have mg_Y44:=PySem.W.mg_of X G a9
 have kp_Y44:=k9
 have m_Y44:=fun {sp:Sp}{j:Nat}(O:FnOk l.prog w K mg base (CXR l.prog w) j f9 _ p_Y44 sp)=>FnX.mk (x:="take_even") O (PySem.W.mg_of X G a9) k9 b_Y44
 have mg_Y26:=PySem.W.mg_of X G a10
 have kp_Y26:=k10
 have m_Y26:=fun {sp:Sp}{j:Nat}(O:FnOk l.prog w K mg base (CXR l.prog w) j f10 _ p_Y26 sp)=>FnX.mk (x:="check_place") O (PySem.W.mg_of X G a10) k10 b_Y26
 have mg_Y14:=PySem.W.mg_of X G a11
 have kp_Y14:=k11
 have m_Y14:=fun {sp:Sp}{j:Nat}(O:FnOk l.prog w K mg base CX0 j f11 _ p_Y14 sp)=>Fn.of (x:="count_figures") O (PySem.W.mg_of X G a11) k11 b_Y14
 have mg_Y36:=PySem.W.mg_of X G a12
 have kp_Y36:=k12
 have m_Y36:=fun {sp:Sp}{j:Nat}(O:FnOk l.prog w K mg base (CXR l.prog w) j f12 _ p_Y36 sp)=>FnX.mk (x:="figures_at") O (PySem.W.mg_of X G a12) k12 b_Y36
 have mg_Y1:=PySem.W.mg_of X G a13
 have kp_Y1:=k13
 have m_Y1:=fun {sp:Sp}{j:Nat}(O:FnOk l.prog w K mg base CX0 j f13 _ p_Y1 sp)=>Fn.of (x:="radices_of_orders") O (PySem.W.mg_of X G a13) k13 b_Y1
 have mg_Y55:=PySem.W.mg_of X G a14
 have kp_Y55:=k14
 have m_Y55:=fun {sp:Sp}{j:Nat}(O:FnOk l.prog w K mg base (CXR l.prog w) j f14 _ p_Y55 sp)=>FnX.mk (x:="order_at") O (PySem.W.mg_of X G a14) k14 b_Y55
 have mg_Y7:=PySem.W.mg_of X G a15
 have kp_Y7:=k15
 have m_Y7:=fun {sp:Sp}{j:Nat}(O:FnOk l.prog w K mg base CX0 j f15 _ p_Y7 sp)=>Fn.of (x:="places_of_swaps") O (PySem.W.mg_of X G a15) k15 b_Y7
 have mg_Y56:=PySem.W.mg_of X G a16
 have kp_Y56:=k16
 have m_Y56:=fun {sp:Sp}{j:Nat}(O:FnOk l.prog w K mg base CX0 j f16 _ p_Y56 sp)=>Fn.of (x:="by_swaps") O (PySem.W.mg_of X G a16) k16 b_Y56
 have mg_Y79:=PySem.W.mg_of X G a17
 have kp_Y79:=k17
 have m_Y79:=fun {sp:Sp}{j:Nat}(O:FnOk l.prog w K mg base CX0 j f17 _ p_Y79 sp)=>Fn.of (x:="ways") O (PySem.W.mg_of X G a17) k17 b_Y79
 have mg_Y42:=PySem.W.mg_of X G a18
 have kp_Y42:=k18
 have m_Y42:=fun {sp:Sp}{j:Nat}(O:FnOk l.prog w K mg base (CXR l.prog w) j f18 _ p_Y42 sp)=>FnX.mk (x:="choice_at") O (PySem.W.mg_of X G a18) k18 b_Y42
 have mg_Y59:=PySem.W.mg_of X G a19
 have kp_Y59:=k19
 have m_Y59:=fun {sp:Sp}{j:Nat}(O:FnOk l.prog w K mg base (CXR l.prog w) j f19 _ p_Y59 sp)=>FnX.mk (x:="parts_at") O (PySem.W.mg_of X G a19) k19 b_Y59
 have mg_Y58:=PySem.W.mg_of X G a20
 have kp_Y58:=k20
 have m_Y58:=fun {sp:Sp}{j:Nat}(O:FnOk l.prog w K mg base (CXR l.prog w) j f20 _ p_Y58 sp)=>FnX.mk (x:="shuffled") O (PySem.W.mg_of X G a20) k20 b_Y58
 have mg_Y15:=PySem.W.mg_of X G a21
 have kp_Y15:=k21
 have m_Y15:=fun {sp:Sp}{j:Nat}(O:FnOk l.prog w K mg base (CXR l.prog w) j f21 _ p_Y15 sp)=>FnX.mk (x:="take_shuffled") O (PySem.W.mg_of X G a21) k21 b_Y15
 have mg_Y72:=PySem.W.mg_of X G a22
 have kp_Y72:=k22
 have m_Y72:=fun {sp:Sp}{j:Nat}(O:FnOk l.prog w K mg base (CXR l.prog w) j f22 _ p_Y72 sp)=>FnX.mk (x:="order") O (PySem.W.mg_of X G a22) k22 b_Y72
 have mg_Y70:=PySem.W.mg_of X G a23
 have kp_Y70:=k23
 have m_Y70:=fun {sp:Sp}{j:Nat}(O:FnOk l.prog w K mg base (CXR l.prog w) j f23 _ p_Y70 sp)=>FnX.mk (x:="choice_orders") O (PySem.W.mg_of X G a23) k23 b_Y70
 have mg_Y81:=PySem.W.mg_of X G a24
 have kp_Y81:=k24
 have m_Y81:=fun {sp:Sp}{j:Nat}(O:FnOk l.prog w K mg base (CXR l.prog w) j f24 _ p_Y81 sp)=>FnX.mk (x:="pick") O (PySem.W.mg_of X G a24) k24 b_Y81
 have mg_Y47:=PySem.W.mg_of X G a25
 have kp_Y47:=k25
 have m_Y47:=fun {sp:Sp}{j:Nat}(O:FnOk l.prog w K mg base (CXR l.prog w) j f25 _ p_Y47 sp)=>FnX.mk (x:="take_pick") O (PySem.W.mg_of X G a25) k25 b_Y47
 have mg_Y76:=PySem.W.mg_of X G a26
 have kp_Y76:=k26
 have m_Y76:=fun {sp:Sp}{j:Nat}(O:FnOk l.prog w K mg base (CXR l.prog w) j f26 _ p_Y76 sp)=>FnX.mk (x:="coin") O (PySem.W.mg_of X G a26) k26 b_Y76
 have mg_Y66:=PySem.W.mg_of X G a27
 have kp_Y66:=k27
 have m_Y66:=fun {sp:Sp}{j:Nat}(O:FnOk l.prog w K mg base CX0 j f27 _ p_Y66 sp)=>Fn.of (x:="ends_of") O (PySem.W.mg_of X G a27) k27 b_Y66
 have mg_Y73:=PySem.W.mg_of X G a28
 have kp_Y73:=k28
 have m_Y73:=fun {sp:Sp}{j:Nat}(O:FnOk l.prog w K mg base CX0 j f28 _ p_Y73 sp)=>Fn.of (x:="deep") O (PySem.W.mg_of X G a28) k28 b_Y73
 have mg_Y12:=PySem.W.mg_of X G a29
 have kp_Y12:=k29
 have m_Y12:=fun {sp:Sp}{j:Nat}(O:FnOk l.prog w K mg base (CXR l.prog w) j f29 _ p_Y12 sp)=>FnX.mk (x:="numbered_ends") O (PySem.W.mg_of X G a29) k29 b_Y12
 have mg_Y68:=PySem.W.mg_of X G a30
 have kp_Y68:=k30
 have m_Y68:=fun {sp:Sp}{j:Nat}(O:FnOk l.prog w K mg base CX0 j f30 _ p_Y68 sp)=>Fn.of (x:="rows_to") O (PySem.W.mg_of X G a30) k30 b_Y68
 have mg_Y52:=PySem.W.mg_of X G a31
 have kp_Y52:=k31
 have m_Y52:=fun {sp:Sp}{j:Nat}(O:FnOk l.prog w K mg base (CXR l.prog w) j f31 _ p_Y52 sp)=>FnX.mk (x:="shares_of") O (PySem.W.mg_of X G a31) k31 b_Y52
 have mg_Y61:=PySem.W.mg_of X G a32
 have kp_Y61:=k32
 have m_Y61:=fun {sp:Sp}{j:Nat}(O:FnOk l.prog w K mg base (CXR l.prog w) j f32 _ p_Y61 sp)=>FnX.mk (x:="mean_of") O (PySem.W.mg_of X G a32) k32 b_Y61
 have mg_Y64:=PySem.W.mg_of X G a33
 have kp_Y64:=k33
 have m_Y64:=fun {sp:Sp}{j:Nat}(O:FnOk l.prog w K mg base (CXR l.prog w) j f33 _ p_Y64 sp)=>FnX.mk (x:="by_plan") O (PySem.W.mg_of X G a33) k33 b_Y64
 have mg_Y17:=PySem.W.mg_of X G a34
 have kp_Y17:=k34
 have m_Y17:=fun {sp:Sp}{j:Nat}(O:FnOk l.prog w K mg base (CXR l.prog w) j f34 _ p_Y17 sp)=>FnX.mk (x:="take_by_plan") O (PySem.W.mg_of X G a34) k34 b_Y17
 have mg_Y18:=PySem.W.mg_of X G a35
 have kp_Y18:=k35
 have m_Y18:=fun {sp:Sp}{j:Nat}(O:FnOk l.prog w K mg base CX0 j f35 _ p_Y18 sp)=>Fn.of (x:="counts_up_to") O (PySem.W.mg_of X G a35) k35 b_Y18
 have mg_Y29:=PySem.W.mg_of X G a36
 have kp_Y29:=k36
 have m_Y29:=fun {sp:Sp}{j:Nat}(O:FnOk l.prog w K mg base CX0 j f36 _ p_Y29 sp)=>Fn.of (x:="count_trees") O (PySem.W.mg_of X G a36) k36 b_Y29
 have mg_Y67:=PySem.W.mg_of X G a37
 have kp_Y67:=k37
 have m_Y67:=fun {sp:Sp}{j:Nat}(O:FnOk l.prog w K mg base (CXR l.prog w) j f37 _ p_Y67 sp)=>FnX.mk (x:="tree_at") O (PySem.W.mg_of X G a37) k37 b_Y67
 have mg_Y75:=PySem.W.mg_of X G a38
 have kp_Y75:=k38
 have m_Y75:=fun {sp:Sp}{j:Nat}(O:FnOk l.prog w K mg base (CXR l.prog w) j f38 _ p_Y75 sp)=>FnX.mk (x:="tree") O (PySem.W.mg_of X G a38) k38 b_Y75
 have mg_Y71:=PySem.W.mg_of X G a39
 have kp_Y71:=k39
 have m_Y71:=fun {sp:Sp}{j:Nat}(O:FnOk l.prog w K mg base CX0 j f39 _ p_Y71 sp)=>Fn.of (x:="grown") O (PySem.W.mg_of X G a39) k39 b_Y71
 have mg_Y74:=PySem.W.mg_of X G a40
 have kp_Y74:=k40
 have m_Y74:=fun {sp:Sp}{j:Nat}(O:FnOk l.prog w K mg base (CXR l.prog w) j f40 _ p_Y74 sp)=>FnX.mk (x:="grow") O (PySem.W.mg_of X G a40) k40 b_Y74
 have mg_Y39:=PySem.W.mg_of X G a41
 have kp_Y39:=k41
 have m_Y39:=fun {sp:Sp}{j:Nat}(O:FnOk l.prog w K mg base (CXR l.prog w) j f41 _ p_Y39 sp)=>FnX.mk (x:="take_grown") O (PySem.W.mg_of X G a41) k41 b_Y39
 have mg_Y30:=PySem.W.mg_of X G a42
 have kp_Y30:=k42
 have m_Y30:=fun {sp:Sp}{j:Nat}(O:FnOk l.prog w K mg base CX0 j f42 _ p_Y30 sp)=>Fn.of (x:="sizes_under") O (PySem.W.mg_of X G a42) k42 b_Y30
 have mg_Y34:=PySem.W.mg_of X G a43
 have kp_Y34:=k43
 have m_Y34:=fun {sp:Sp}{j:Nat}(O:FnOk l.prog w K mg base (CXR l.prog w) j f43 _ p_Y34 sp)=>FnX.mk (x:="order_under") O (PySem.W.mg_of X G a43) k43 b_Y34
 have mg_Y4:=PySem.W.mg_of X G a44
 have kp_Y4:=k44
 have m_Y4:=fun {sp:Sp}{j:Nat}(O:FnOk l.prog w K mg base (CXR l.prog w) j f44 _ p_Y4 sp)=>FnX.mk (x:="take_order_under") O (PySem.W.mg_of X G a44) k44 b_Y4
 have mg_Y8:=PySem.W.mg_of X G a45
 have kp_Y8:=k45
 have m_Y8:=fun {sp:Sp}{j:Nat}(O:FnOk l.prog w K mg base (CXR l.prog w) j f45 _ p_Y8 sp)=>FnX.mk (x:="take_with_room") O (PySem.W.mg_of X G a45) k45 b_Y8
 have mg_Y57:=PySem.W.mg_of X G a46
 have kp_Y57:=k46
 have m_Y57:=fun {sp:Sp}{j:Nat}(O:FnOk l.prog w K mg base (CXR l.prog w) j f46 _ p_Y57 sp)=>FnX.mk (x:="by_table") O (PySem.W.mg_of X G a46) k46 b_Y57
 have mg_Y65:=PySem.W.mg_of X G a47
 have kp_Y65:=k47
 have m_Y65:=fun {sp:Sp}{j:Nat}(O:FnOk l.prog w K mg base CX0 j f47 _ p_Y65 sp)=>Fn.of (x:="written") O (PySem.W.mg_of X G a47) k47 b_Y65
 have mg_Y80:=PySem.W.mg_of X G a48
 have kp_Y80:=k48
 have m_Y80:=fun {sp:Sp}{j:Nat}(O:FnOk l.prog w K mg base (CXR l.prog w) j f48 _ p_Y80 sp)=>FnX.mk (x:="read") O (PySem.W.mg_of X G a48) k48 b_Y80
 have mg_Y48:=PySem.W.mg_of X G a49
 have kp_Y48:=k49
 have m_Y48:=fun {sp:Sp}{j:Nat}(O:FnOk l.prog w K mg base (CXR l.prog w) j f49 _ p_Y48 sp)=>FnX.mk (x:="read_part") O (PySem.W.mg_of X G a49) k49 b_Y48
 have mg_Y28:=PySem.W.mg_of X G a50
 have kp_Y28:=k50
 have m_Y28:=fun {sp:Sp}{j:Nat}(O:FnOk l.prog w K mg base (CXR l.prog w) j f50 _ p_Y28 sp)=>FnX.mk (x:="read_number") O (PySem.W.mg_of X G a50) k50 b_Y28
 have mg_Y69:=PySem.W.mg_of X G a51
 have kp_Y69:=k51
 have m_Y69:=fun {sp:Sp}{j:Nat}(O:FnOk l.prog w K mg base CX0 j f51 _ p_Y69 sp)=>Fn.of (x:="led_to") O (PySem.W.mg_of X G a51) k51 b_Y69
 have mg_Y54:=PySem.W.mg_of X G a52
 have kp_Y54:=k52
 have m_Y54:=fun {sp:Sp}{j:Nat}(O:FnOk l.prog w K mg base CX0 j f52 _ p_Y54 sp)=>Fn.of (x:="is_taken") O (PySem.W.mg_of X G a52) k52 b_Y54
 have mg_Y2:=PySem.W.mg_of X G a53
 have kp_Y2:=k53
 have m_Y2:=fun {sp:Sp}{j:Nat}(O:FnOk l.prog w K mg base CX0 j f53 _ p_Y2 sp)=>Fn.of (x:="counts_by_length") O (PySem.W.mg_of X G a53) k53 b_Y2
 have mg_Y40:=PySem.W.mg_of X G a54
 have kp_Y40:=k54
 have m_Y40:=fun {sp:Sp}{j:Nat}(O:FnOk l.prog w K mg base CX0 j f54 _ p_Y40 sp)=>Fn.of (x:="count_from") O (PySem.W.mg_of X G a54) k54 b_Y40
 have mg_Y25:=PySem.W.mg_of X G a55
 have kp_Y25:=k55
 have m_Y25:=fun {sp:Sp}{j:Nat}(O:FnOk l.prog w K mg base CX0 j f55 _ p_Y25 sp)=>Fn.of (x:="count_words") O (PySem.W.mg_of X G a55) k55 b_Y25
 have mg_Y62:=PySem.W.mg_of X G a56
 have kp_Y62:=k56
 have m_Y62:=fun {sp:Sp}{j:Nat}(O:FnOk l.prog w K mg base (CXR l.prog w) j f56 _ p_Y62 sp)=>FnX.mk (x:="word_at") O (PySem.W.mg_of X G a56) k56 b_Y62
 have mg_Y11:=PySem.W.mg_of X G a57
 have kp_Y11:=k57
 have m_Y11:=fun {sp:Sp}{j:Nat}(O:FnOk l.prog w K mg base (CXR l.prog w) j f57 _ p_Y11 sp)=>FnX.mk (x:="place_of_word") O (PySem.W.mg_of X G a57) k57 b_Y11
 have mg_Y78:=PySem.W.mg_of X G a58
 have kp_Y78:=k58
 have m_Y78:=fun {sp:Sp}{j:Nat}(O:FnOk l.prog w K mg base (CXR l.prog w) j f58 _ p_Y78 sp)=>FnX.mk (x:="word") O (PySem.W.mg_of X G a58) k58 b_Y78
 have mg_Y46:=PySem.W.mg_of X G a59
 have kp_Y46:=k59
 have m_Y46:=fun {sp:Sp}{j:Nat}(O:FnOk l.prog w K mg base CX0 j f59 _ p_Y46 sp)=>Fn.of (x:="_law_draw") O (PySem.W.mg_of X G a59) k59 b_Y46
 have mg_Y37:=PySem.W.mg_of X G a60
 have kp_Y37:=k60
 have m_Y37:=fun {sp:Sp}{j:Nat}(O:FnOk l.prog w K mg base CX0 j f60 _ p_Y37 sp)=>Fn.of (x:="_law_names") O (PySem.W.mg_of X G a60) k60 b_Y37
 have mg_Y20:=PySem.W.mg_of X G a61
 have kp_Y20:=k61
 have m_Y20:=fun {sp:Sp}{j:Nat}(O:FnOk l.prog w K mg base (CXR l.prog w) j f61 _ p_Y20 sp)=>FnX.mk (x:="_law_bitless") O (PySem.W.mg_of X G a61) k61 b_Y20
 have mg_Y24:=PySem.W.mg_of X G a62
 have kp_Y24:=k62
 have m_Y24:=fun {sp:Sp}{j:Nat}(O:FnOk l.prog w K mg base (CXR l.prog w) j f62 _ p_Y24 sp)=>FnX.mk (x:="_law_second") O (PySem.W.mg_of X G a62) k62 b_Y24
 have mg_Y38:=PySem.W.mg_of X G a63
 have kp_Y38:=k63
 have m_Y38:=fun {sp:Sp}{j:Nat}(O:FnOk l.prog w K mg base (CXR l.prog w) j f63 _ p_Y38 sp)=>FnX.mk (x:="_law_third") O (PySem.W.mg_of X G a63) k63 b_Y38
 have mg_Y60:=PySem.W.mg_of X G a64
 have kp_Y60:=k64
 have m_Y60:=fun {sp:Sp}{j:Nat}(O:FnOk l.prog w K mg base CX0 j f64 _ p_Y60 sp)=>Fn.of (x:="_law_ask") O (PySem.W.mg_of X G a64) k64 b_Y60
 have T:Txt K mg c_Bits _ _ _ _ _ _ _ _ _ _:=⟨cls_Bits,n_Bits_row,n_Bits_place,mgC_Bits,mk_Bits,m_Y51,m_Y41,m_Y45,m_Y19,b_Y10,b_Y51,b_Y41,b_Y45,b_Y19⟩
 have TE:TxtE K mg c_Kept _ _ _ _ _ _ _ _:=⟨cls_Kept,n_Kept_bits,n_Kept_most,n_Kept_things,n_Kept_came,mgC_Kept,mk_Kept,m_Y53,m_Y49,m_Y50,b_Y9,b_Y53,b_Y49,b_Y50⟩
 have TK:TxtK K mg c_E7 _ _ _ _ _ _:=⟨cls_E7,n_Keeper_bits,n_Keeper_most,n_Keeper_number,n_Keeper_size,mgC_E7,mk_E7,m_Y21,m_Y33,b_Y5,b_Y21,b_Y33⟩
 have TD:TxtD K mg c_E6 _ _ _ _ _ _ _ _ _ _:=⟨cls_E6,n_Drawer_bits,n_Drawer_steps,mgC_E6,mk_E6,m_Y13,m_Y16,m_Y31,m_Y27,b_Y6,b_Y13,b_Y16,b_Y31,b_Y27⟩
 have h5:Five e_E1 e_E2 e_E3 e_E4 e_E5:=⟨ne_mro xm_E1_E1 xm_E1_E2,ne_mro xm_E1_E1 xm_E1_E3,ne_mro xm_E1_E1 xm_E1_E4,ne_mro xm_E1_E1 xm_E1_E5,ne_mro xm_E2_E2 xm_E2_E3,ne_mro xm_E2_E2 xm_E2_E4,ne_mro xm_E2_E2 xm_E2_E5,ne_mro xm_E3_E3 xm_E3_E4,ne_mro xm_E3_E3 xm_E3_E5,ne_mro xm_E4_E4 xm_E4_E5⟩
 have q_draw:=m_Y46 (ok_Y46 F_Y46 B)
 have q_init:=ok_init (P:=l.prog) (w:=w) (base:=base) F_Y10 B T
 have q_used:=ok_used (P:=l.prog) (w:=w) (base:=base) F_Y41 T
 have q_left:=ok_left (P:=l.prog) (w:=w) (base:=base) F_Y45 B T
 have q_take:=(ok_take (P:=l.prog) (w:=w) (base:=base) F_Y51 T X_E1 q_left).imp take_imp
 have q_goH:=okH_go_back (P:=l.prog) (w:=w) (base:=base) F_Y19 T
 have q_go:=ok_go_back (P:=l.prog) (w:=w) (base:=base) F_Y19 T X_E3
 have q_dw4:=m_Y22 (ok_Y22 (k0:=3) F_Y22 T X_E1 xm_E1_E1 q_used q_goH)
 have q_dw8:=m_Y22 (ok_Y22 (k0:=7) F_Y22 T X_E1 xm_E1_E1 q_used q_goH)
 have q_te:=m_Y44 (ok_Y44 F_Y44 T q_take)
 have q_ev:=m_Y77 (ok_Y77 F_Y77 q_dw4 q_te)
 have q_wf:=m_Y43 (ok_Y43 F_Y43)
 have q_tn:=m_Y32 (ok_Y32 F_Y32 B T q_take)
 have q_ts:=m_Y3 (ok_Y3 F_Y3 q_wf q_tn)
 have q_se:=m_Y23 (ok_Y23 F_Y23 q_dw4 q_ts)
 have q_tp:=m_Y47 (ok_Y47 F_Y47 B T q_take)
 have q_pk:=m_Y81 (ok_Y81 F_Y81 B q_dw4 q_tp)
 have q_co:=m_Y76 (ok_Y76 F_Y76 q_pk)
 have q_bt:=m_Y57 (ok_Y57 F_Y57 B q_ev)
 have q_wy:=m_Y79 (ok_Y79 F_Y79 B)
 have q_cp:=m_Y26 (ok_Y26 F_Y26 X_E3)
 have q_ca0:=m_Y42 (ok_no)
 have q_ch:=m_Y70 (ok_Y70 F_Y70 q_wy q_cp q_ca0 q_ev)
 have q_ca:=m_Y42 (ok_Y42 F_Y42 q_wy q_cp)
 have q_cf:=m_Y14 (ok_Y14 F_Y14 B)
 have q_fa:=m_Y36 (ok_Y36 F_Y36 q_cp q_cf)
 have q_ro:=m_Y1 (ok_Y1 F_Y1 B)
 have q_oa:=m_Y55 (ok_Y55 F_Y55 B q_ro q_fa)
 have q_or:=m_Y72 (ok_Y72 F_Y72 q_oa q_ro q_cf q_ev)
 have q_pa:=m_Y59 (ok_Y59 F_Y59 q_cp)
 have q_cu:=m_Y18 (ok_Y18 F_Y18 B)
 have q_ct:=m_Y29 (ok_Y29 F_Y29 q_cu)
 have q_ta:=m_Y67 (ok_Y67 F_Y67 q_cp q_ct)
 have q_tr:=m_Y75 (ok_Y75 F_Y75 q_ta q_ct q_ev)
 have q_ps:=m_Y7 (ok_Y7 F_Y7 B)
 have q_bs:=m_Y56 (ok_no)
 have q_tsh:=m_Y15 (ok_Y15 F_Y15 B q_ev q_ps q_bs)
 have q_sh:=m_Y58 (ok_Y58 F_Y58 q_dw8 q_tsh)
 have q_gn:=m_Y71 (ok_no)
 have q_tg:=m_Y39 (ok_Y39 F_Y39 B q_ev q_gn)
 have q_gr:=m_Y74 (ok_Y74 F_Y74 q_dw8 q_tg)
 have q_su:=m_Y30 (ok_Y30 F_Y30 B)
 have q_tou:=m_Y4 (ok_Y4 F_Y4 B q_su q_pk)
 have q_ou:=m_Y34 (ok_Y34 F_Y34 q_dw8 q_tou)
 have q_ld:=m_Y69 (ok_Y69 F_Y69 C)
 have q_cfr:=m_Y40 (ok_Y40 F_Y40)
 have q_cb:=m_Y2 (ok_Y2 F_Y2 B q_cfr)
 have q_cw:=m_Y25 (ok_Y25 F_Y25 q_cb)
 have q_wa0:=m_Y62 (ok_no)
 have q_wo:=m_Y78 (ok_Y78 F_Y78 X_E2 q_cw q_wa0 q_ev)
 have q_wa:=m_Y62 (ok_Y62 F_Y62 q_cp q_cw)
 have q_it:=m_Y54 (ok_Y54 F_Y54 q_ld)
 have q_pw:=m_Y11 (ok_Y11 F_Y11 X_E3 q_it)
 have o_e:=ends_all (P:=l.prog) (w:=w) (base:=base) F_Y66 m_Y66
 have q_ne:=m_Y12 (ok_Y12 F_Y12 B C X_E2 (m_Y66 (o_e 12)))
 have q_tb:=m_Y17 (ok_Y17 F_Y17 C T q_take)
 have q_by:=m_Y64 (ok_Y64 F_Y64 q_ne q_dw4 q_tb)
 have q_de:=m_Y73 (ok_Y73 F_Y73 B (m_Y66 (o_e 12)))
 have q_so:=m_Y52 (ok_Y52 F_Y52 q_de q_ne)
 have q_rt:=m_Y68 (ok_no)
 have q_mo:=m_Y61 (ok_Y61 F_Y61 B q_de q_rt q_ne)
 have q_ns:=m_Y35 (ok_Y35 F_Y35 C)
 have q_bo:=m_Y63 (ok_Y63 F_Y63 B C q_ns)
 have q_uD:=ok_usedD (P:=l.prog) (w:=w) (base:=base) F_Y31 T TD q_used
 have q_cD:=ok_choiceD (P:=l.prog) (w:=w) (base:=base) F_Y13 TD q_uD ok_no q_ch
 have q_bD:=ok_back (P:=l.prog) (w:=w) (base:=base) (C:=c_Bits) F_Y27 B TD X_E4
 have q_iD:=ok_initTD (P:=l.prog) (w:=w) (base:=base) F_Y6 T TD q_init q_bo
 have q_wr0:=m_Y65 (ok_no)
 have q_wr:=m_Y65 (ok_Y65 F_Y65 B q_wr0)
 have q_rn:=m_Y28 (ok_Y28 F_Y28 B C X_E5 q_wr)
 have q_rp:=m_Y48 (ok_Y48 F_Y48 X_E5 q_rn)
 have q_rd:=m_Y80 (ok_Y80 F_Y80 C q_rp)
 have q_tw:=m_Y8 (ok_Y8 F_Y8 T q_take)
 have q_iK:=ok_initTK (P:=l.prog) (w:=w) (base:=base) F_Y5 TK
 have q_rK:=ok_room (P:=l.prog) (w:=w) (base:=base) F_Y21 TK
 have q_dK:=ok_draw (P:=l.prog) (w:=w) (base:=base) F_Y33 TK q_dw4 q_tw
 have q_iE:=ok_initTE (P:=l.prog) (w:=w) (base:=base) F_Y9 TE
 have q_kE:=ok_kept (P:=l.prog) (w:=w) (base:=base) F_Y49 B TE
 have q_mE:=ok_many (P:=l.prog) (w:=w) (base:=base) F_Y50 TE
 have q_tE:=ok_tell (P:=l.prog) (w:=w) (base:=base) F_Y53 TE q_ev
 have q_nm:=okH_Y37 (P:=l.prog) (w:=w) (base:=base) (k:=1) F_Y37 B X_E1 X_E2 X_E3 X_E4 X_E5 xok h5
 have q_bl:=m_Y20 (ok_Y20 F_Y20 B T TK TE q_take q_dK q_tE q_ev q_se q_pk q_co q_by q_bt q_sh q_or q_ch q_tr q_gr q_ou q_wo)
 have q_sc:=m_Y24 (ok_Y24 (CT:=e_E4) (CX:=e_E5) F_Y24 B q_by q_so q_mo q_wo q_ch q_ca q_oa q_fa q_pa)
 have q_th:=m_Y38 (ok_Y38 (CS:=e_E2) F_Y38 B T TD q_used q_go q_iD q_bD q_cD q_ta q_wa q_pw q_rd)
 have q_ak:=m_Y60 (ok_Y60 F_Y60 X_E1 X_E2 X_E3 X_E4 X_E5 X_E0 xm_E1_E0 xm_E2_E0 xm_E3_E0 xm_E4_E0 xm_E5_E0 q_nm mg_Y37 kp_Y37 b_Y37 q_bl q_sc q_th)
 exact ok_law F_law B T TK TE q_draw q_init q_used q_take q_iK q_rK q_iE q_tE q_kE q_mE q_ak
theorem walk {l:PySem.W.OpenLaw}{q:Program}{loose:List Str}{XP:(Str→Option Value)→Heap→Prop}{YP:World→Heap→Prop}{d:DefRec}{K:Params→PySem.W.Frag}(hn:l.most=some 63)(hdf:d.params.defaults=[])
  (hY:∀(w:World)(h:Heap),YP w h→(K w.params).In h)
  (F:∀(w:World)(mg:Str→Option Value)(fa:Addr)(h:Heap),(K w.params).In h→h.Ns mainGlobals mg→mg d.name=some (.ref fa) →
   ∃fd:FuncData,(∀(s:Shared)(u:Value),BindsTo s fd ⟨[u],[]⟩ [("_law_script",u)])∧∀base:Heap,(K w.params).In base→base.Ns mainGlobals mg→FnOk l.prog w (K w.params) mg base CX0 24 fa fd ["_law_script"] (spLaw (K w.params))) :
  PySem.W.WalkO q loose XP YP l.row.toRowW d [] (fun f vs=>PySem.call f vs) :=
 L2.walk_of (n:=63) (k:=24) (x:="_law_script") (CX:=fun _=>CX0) (sp:=fun w=>spLaw (K w.params)) hn (by decide) hdf ⟨rfl,by decide,by decide⟩ hY F (fun _ _ a ns hl hO hS=>⟨a,ns,rfl,Scr.of hS hO,hl,fun _=>rfl⟩) fun _ _ _ _ _ z=>z
noncomputable abbrev kE (P:Params)(x:Str)(t:Tok)(v:Value):DictEntry:=⟨PyData.keyHash P x,.str x t,v⟩
noncomputable abbrev kF (nm ql:Str)(st:Stmt)(md:Value)(c:Addr):Obj:=⟨.type "function",none,.func (PySem.W.fnOf nm ql (defArgs st) (defBody st) (defScope st) .none .none .none md none (.ref c) .none),#[]⟩
noncomputable abbrev kC (nm ql:Str)(t l n f r z m:Nat):Obj:=⟨.type "code",none,.fields #[.str nm t,.str ql (t+1),.str "/claim/cut.py" (t+2),.int l 0,.int n 0,.int 0 0,.int 0 0,.int f 0,.ref r,.bool true,.int z 0,.ref (r+1),.none,.ref (r+2),.ref (r+3),.ref (r+4),.int m 0,.int l 0,.str "/claim/cut.py" (m+1)],#[]⟩
noncomputable def KK (P:Params):PySem.W.Frag :=
 (nat_lit 2,⟨.none,none,.dict #[] 0,#[]⟩) ::
 (nat_lit 3,⟨(.type "dict"),none,.dict #[kE P "__name__" 165 (.str "law_bitdraws_k39_whole_refusals" 1197),kE P "__doc__" 166 .none,kE P "__package__" 167 .none,kE P "__loader__" 168 (.builtin "__main__.__loader__#opaque"),kE P "__spec__" 169 .none,kE P "__annotations__" 170 (.ref 6),kE P "__builtins__" 171 (.ref 4),kE P "__file__" 173 (.str "/claim/cut.py" 172),kE P "__cached__" 174 .none,kE P "_wall" 193 (.ref 21),kE P "DrawError" 213 (.ref 31),kE P "NoBits" 229 (.ref 44),kE P "NoShares" 245 (.ref 56),kE P "NoPlace" 261 (.ref 68),kE P "NoStep" 277 (.ref 80),kE P "NoText" 293 (.ref 92),kE P "STATES" 297 (.int 4294967296 296),kE P "HALF_OF_STATES" 299 (.int 2147483648 298),kE P "FACTOR" 301 (.int 1664525 300),kE P "ADDED" 303 (.int 1013904223 302),kE P "Bits" 363 (.ref 139),kE P "drawn_whole" 373 (.ref 150),kE P "next_state" 380 (.ref 157),kE P "bits_of" 390 (.ref 164),kE P "common_divisor" 403 (.ref 171),kE P "fraction" 412 (.ref 178),kE P "simple_even" 422 (.ref 185),kE P "take_simple_even" 432 (.ref 192),kE P "width_for" 440 (.ref 199),kE P "take_number" 450 (.ref 206),kE P "even" 458 (.ref 213),kE P "take_even" 468 (.ref 220),kE P "check_place" 478 (.ref 227),kE P "count_figures" 487 (.ref 234),kE P "figures_at" 498 (.ref 241),kE P "radices_of_orders" 505 (.ref 248),kE P "order_at" 516 (.ref 255),kE P "places_of_swaps" 523 (.ref 262),kE P "exchange" 533 (.ref 269),kE P "by_swaps" 544 (.ref 276),kE P "ways" 554 (.ref 283),kE P "choice_at" 568 (.ref 290),kE P "last_ones_within" 581 (.ref 297),kE P "parts_at" 587 (.ref 302),kE P "shuffled" 595 (.ref 309),kE P "take_shuffled" 601 (.ref 314),kE P "order" 609 (.ref 321),kE P "choice" 619 (.ref 328),kE P "choice_orders" 620 (.ref 328),kE P "Kept" 677 (.ref 366),kE P "GREATEST_NUMBER" 681 (.int 99 680),kE P "MOST_ASKS" 683 (.int 12 682),kE P "AGAIN" 685 (.ref 371),kE P "pick" 694 (.ref 378),kE P "take_pick" 700 (.ref 383),kE P "coin" 709 (.ref 390),kE P "ends_of" 717 (.ref 397),kE P "deep" 723 (.ref 402),kE P "numbered_ends" 729 (.ref 407),kE P "rows_to" 737 (.ref 414),kE P "shares_of" 743 (.ref 419),kE P "mean_of" 749 (.ref 424),kE P "by_plan" 757 (.ref 431),kE P "take_by_plan" 766 (.ref 438),kE P "LEAF" 770 (.int 0 769),kE P "PAIR" 772 (.int 1 771),kE P "counts_up_to" 781 (.ref 445),kE P "count_trees" 788 (.ref 452),kE P "built" 801 (.ref 459),kE P "tree_of" 808 (.ref 466),kE P "tree_at" 821 (.ref 473),kE P "sides_at" 833 (.ref 480),kE P "tree" 841 (.ref 487),kE P "grown" 854 (.ref 494),kE P "end_of_part" 864 (.ref 501),kE P "grow" 872 (.ref 508),kE P "take_grown" 878 (.ref 513),kE P "sizes_under" 884 (.ref 518),kE P "order_under" 892 (.ref 525),kE P "take_order_under" 898 (.ref 530),kE P "Drawer" 995 (.ref 603),kE P "Keeper" 1047 (.ref 638),kE P "take_with_room" 1060 (.ref 649),kE P "by_table" 1073 (.ref 656),kE P "written" 1082 (.ref 663),kE P "read" 1090 (.ref 670),kE P "read_part" 1102 (.ref 677),kE P "read_number" 1112 (.ref 684),kE P "LETTERS" 1116 (.str "ab" 1115),kE P "led_to" 1125 (.ref 691),kE P "is_taken" 1135 (.ref 698),kE P "counts_by_length" 1141 (.ref 703),kE P "count_from" 1149 (.ref 710),kE P "count_words" 1157 (.ref 717),kE P "word_at" 1173 (.ref 724),kE P "place_of_word" 1186 (.ref 731),kE P "word" 1196 (.ref 738),kE P "_law_draw" 1211 (.ref 745),kE P "_law_one" 1220 (.ref 752),kE P "_law_names" 1228 (.ref 759),kE P "_law_bitless" 1239 (.ref 766),kE P "_law_second" 1250 (.ref 773),kE P "_law_third" 1260 (.ref 780),kE P "_law_ask" 1273 (.ref 787),kE P "law" 1279 (.ref 792)] 105,#[]⟩) ::
 (nat_lit 30,⟨(.type "dict"),none,.dict #[kE P "__module__" 203 (.str "bitdraws.errors" 194),kE P "__firstlineno__" 207 (.int 5 206),kE P "__static_attributes__" 208 (.ref 29),kE P "__weakref__" 210 (.ref 32),kE P "__doc__" 211 .none] 3,#[]⟩) ::
 (nat_lit 31,⟨(.type "type"),none,.cls { name:="DrawError",bases:=[(.type "ValueError")],mro:=[(.ref 31),(.type "ValueError"),(.type "Exception"),(.type "BaseException"),(.type "object")],ns:=30,qualname:="DrawError",subclasses:=[(.ref 44),(.ref 56),(.ref 68),(.ref 80),(.ref 92)] },#[some (.ref 22),none,some (.str "DrawError" 196),some (.str "DrawError" 204),some (.builtin "ValueError.__new__"),some (.bool true)]⟩) ::
 (nat_lit 32,⟨(.type "getset_descriptor"),none,.fields #[(.str "__weakref__" 209),(.ref 31),(.builtin "ExceptionGroup.__weakref__"),.none],#[]⟩) ::
 (nat_lit 43,⟨(.type "dict"),none,.dict #[kE P "__module__" 221 (.str "bitdraws.errors" 194),kE P "__firstlineno__" 225 (.int 7 224),kE P "__static_attributes__" 226 (.ref 42),kE P "__doc__" 227 .none] 2,#[]⟩) ::
 (nat_lit 44,⟨(.type "type"),none,.cls { name:="NoBits",bases:=[(.ref 31)],mro:=[(.ref 44),(.ref 31),(.type "ValueError"),(.type "Exception"),(.type "BaseException"),(.type "object")],ns:=43,qualname:="NoBits" },#[some (.ref 35),none,some (.str "NoBits" 214),some (.str "NoBits" 222),some (.builtin "ValueError.__new__"),some (.bool true)]⟩) ::
 (nat_lit 55,⟨(.type "dict"),none,.dict #[kE P "__module__" 237 (.str "bitdraws.errors" 194),kE P "__firstlineno__" 241 (.int 9 240),kE P "__static_attributes__" 242 (.ref 54),kE P "__doc__" 243 .none] 2,#[]⟩) ::
 (nat_lit 56,⟨(.type "type"),none,.cls { name:="NoShares",bases:=[(.ref 31)],mro:=[(.ref 56),(.ref 31),(.type "ValueError"),(.type "Exception"),(.type "BaseException"),(.type "object")],ns:=55,qualname:="NoShares" },#[some (.ref 47),none,some (.str "NoShares" 230),some (.str "NoShares" 238),some (.builtin "ValueError.__new__"),some (.bool true)]⟩) ::
 (nat_lit 67,⟨(.type "dict"),none,.dict #[kE P "__module__" 253 (.str "bitdraws.errors" 194),kE P "__firstlineno__" 257 (.int 11 256),kE P "__static_attributes__" 258 (.ref 66),kE P "__doc__" 259 .none] 2,#[]⟩) ::
 (nat_lit 68,⟨(.type "type"),none,.cls { name:="NoPlace",bases:=[(.ref 31)],mro:=[(.ref 68),(.ref 31),(.type "ValueError"),(.type "Exception"),(.type "BaseException"),(.type "object")],ns:=67,qualname:="NoPlace" },#[some (.ref 59),none,some (.str "NoPlace" 246),some (.str "NoPlace" 254),some (.builtin "ValueError.__new__"),some (.bool true)]⟩) ::
 (nat_lit 79,⟨(.type "dict"),none,.dict #[kE P "__module__" 269 (.str "bitdraws.errors" 194),kE P "__firstlineno__" 273 (.int 13 272),kE P "__static_attributes__" 274 (.ref 78),kE P "__doc__" 275 .none] 2,#[]⟩) ::
 (nat_lit 80,⟨(.type "type"),none,.cls { name:="NoStep",bases:=[(.ref 31)],mro:=[(.ref 80),(.ref 31),(.type "ValueError"),(.type "Exception"),(.type "BaseException"),(.type "object")],ns:=79,qualname:="NoStep" },#[some (.ref 71),none,some (.str "NoStep" 262),some (.str "NoStep" 270),some (.builtin "ValueError.__new__"),some (.bool true)]⟩) ::
 (nat_lit 91,⟨(.type "dict"),none,.dict #[kE P "__module__" 285 (.str "bitdraws.errors" 194),kE P "__firstlineno__" 289 (.int 15 288),kE P "__static_attributes__" 290 (.ref 90),kE P "__doc__" 291 .none] 2,#[]⟩) ::
 (nat_lit 92,⟨(.type "type"),none,.cls { name:="NoText",bases:=[(.ref 31)],mro:=[(.ref 92),(.ref 31),(.type "ValueError"),(.type "Exception"),(.type "BaseException"),(.type "object")],ns:=91,qualname:="NoText" },#[some (.ref 83),none,some (.str "NoText" 278),some (.str "NoText" 286),some (.builtin "ValueError.__new__"),some (.bool true)]⟩) ::
 (nat_lit 107,kC "__init__" "Bits.__init__" 316 24 2 3 102 181 321) ::
 (nat_lit 108,kF "__init__" "Bits.__init__" s_Y10 (.str "bitdraws.bits" 294) 107) ::
 (nat_lit 114,kC "take" "Bits.take" 324 28 1 3 109 181 329) ::
 (nat_lit 115,kF "take" "Bits.take" s_Y51 (.str "bitdraws.bits" 294) 114) ::
 (nat_lit 121,kC "used" "Bits.used" 332 35 1 3 116 181 336) ::
 (nat_lit 122,kF "used" "Bits.used" s_Y41 (.str "bitdraws.bits" 294) 121) ::
 (nat_lit 128,kC "left" "Bits.left" 339 38 1 3 123 181 343) ::
 (nat_lit 129,kF "left" "Bits.left" s_Y45 (.str "bitdraws.bits" 294) 128) ::
 (nat_lit 135,kC "go_back" "Bits.go_back" 346 41 2 3 130 181 351) ::
 (nat_lit 136,kF "go_back" "Bits.go_back" s_Y19 (.str "bitdraws.bits" 294) 135) ::
 (nat_lit 138,⟨(.type "dict"),none,.dict #[kE P "__module__" 311 (.str "bitdraws.bits" 294),kE P "__firstlineno__" 315 (.int 22 314),kE P "__init__" 323 (.ref 108),kE P "take" 331 (.ref 115),kE P "used" 338 (.ref 122),kE P "left" 345 (.ref 129),kE P "go_back" 353 (.ref 136),kE P "__static_attributes__" 356 (.ref 137),kE P "__dict__" 358 (.ref 140),kE P "__weakref__" 360 (.ref 141),kE P "__doc__" 361 .none] 4,#[]⟩) ::
 (nat_lit 139,⟨(.type "type"),none,.cls { name:="Bits",bases:=[(.type "object")],mro:=[(.ref 139),(.type "object")],ns:=138,qualname:="Bits" },#[none,none,some (.str "Bits" 304),some (.str "Bits" 312),some (.builtin "object.__new__"),some (.bool true)]⟩) ::
 (nat_lit 140,⟨(.type "getset_descriptor"),none,.fields #[(.str "__dict__" 357),(.ref 139),(.builtin "function.__dict__"),(.builtin "function.__dict__#set")],#[]⟩) ::
 (nat_lit 141,⟨(.type "getset_descriptor"),none,.fields #[(.str "__weakref__" 359),(.ref 139),(.builtin "ExceptionGroup.__weakref__"),.none],#[]⟩) ::
 (nat_lit 149,kC "drawn_whole" "drawn_whole" 364 45 3 3 144 181 371) ::
 (nat_lit 150,kF "drawn_whole" "drawn_whole" s_Y22 (.str "bitdraws.bits" 294) 149) ::
 (nat_lit 156,kC "next_state" "next_state" 374 52 1 3 151 181 378) ::
 (nat_lit 157,kF "next_state" "next_state" s_Y35 (.str "bitdraws.bits" 294) 156) ::
 (nat_lit 163,kC "bits_of" "bits_of" 381 54 2 3 158 181 388) ::
 (nat_lit 164,kF "bits_of" "bits_of" s_Y63 (.str "bitdraws.bits" 294) 163) ::
 (nat_lit 184,kC "simple_even" "simple_even" 415 78 2 3 179 181 420) ::
 (nat_lit 185,kF "simple_even" "simple_even" s_Y23 (.str "bitdraws.evens" 413) 184) ::
 (nat_lit 191,kC "take_simple_even" "take_simple_even" 423 80 2 3 186 181 430) ::
 (nat_lit 192,kF "take_simple_even" "take_simple_even" s_Y3 (.str "bitdraws.evens" 413) 191) ::
 (nat_lit 198,kC "width_for" "width_for" 433 86 1 3 193 181 438) ::
 (nat_lit 199,kF "width_for" "width_for" s_Y43 (.str "bitdraws.evens" 413) 198) ::
 (nat_lit 205,kC "take_number" "take_number" 441 91 2 3 200 181 448) ::
 (nat_lit 206,kF "take_number" "take_number" s_Y32 (.str "bitdraws.evens" 413) 205) ::
 (nat_lit 212,kC "even" "even" 451 96 2 3 207 181 456) ::
 (nat_lit 213,kF "even" "even" s_Y77 (.str "bitdraws.evens" 413) 212) ::
 (nat_lit 219,kC "take_even" "take_even" 459 98 2 3 214 181 466) ::
 (nat_lit 220,kF "take_even" "take_even" s_Y44 (.str "bitdraws.evens" 413) 219) ::
 (nat_lit 226,kC "check_place" "check_place" 471 110 2 3 221 181 476) ::
 (nat_lit 227,kF "check_place" "check_place" s_Y26 (.str "bitdraws.orders" 469) 226) ::
 (nat_lit 233,kC "count_figures" "count_figures" 479 113 1 3 228 181 485) ::
 (nat_lit 234,kF "count_figures" "count_figures" s_Y14 (.str "bitdraws.orders" 469) 233) ::
 (nat_lit 240,kC "figures_at" "figures_at" 488 118 2 3 235 181 496) ::
 (nat_lit 241,kF "figures_at" "figures_at" s_Y36 (.str "bitdraws.orders" 469) 240) ::
 (nat_lit 247,kC "radices_of_orders" "radices_of_orders" 499 126 1 3 242 181 503) ::
 (nat_lit 248,kF "radices_of_orders" "radices_of_orders" s_Y1 (.str "bitdraws.orders" 469) 247) ::
 (nat_lit 254,kC "order_at" "order_at" 506 128 2 3 249 181 514) ::
 (nat_lit 255,kF "order_at" "order_at" s_Y55 (.str "bitdraws.orders" 469) 254) ::
 (nat_lit 261,kC "places_of_swaps" "places_of_swaps" 517 134 1 3 256 181 521) ::
 (nat_lit 262,kF "places_of_swaps" "places_of_swaps" s_Y7 (.str "bitdraws.orders" 469) 261) ::
 (nat_lit 275,kC "by_swaps" "by_swaps" 534 140 2 3 270 181 542) ::
 (nat_lit 276,kF "by_swaps" "by_swaps" s_Y56 (.str "bitdraws.orders" 469) 275) ::
 (nat_lit 282,kC "ways" "ways" 545 145 2 3 277 181 552) ::
 (nat_lit 283,kF "ways" "ways" s_Y79 (.str "bitdraws.orders" 469) 282) ::
 (nat_lit 289,kC "choice_at" "choice_at" 555 152 3 3 284 181 566) ::
 (nat_lit 290,kF "choice_at" "choice_at" s_Y42 (.str "bitdraws.orders" 469) 289) ::
 (nat_lit 301,⟨(.type "code"),none,.fields #[(.str "parts_at" 582),(.str "parts_at" 583),(.str "/claim/cut.py" 584),(.int 177 0),(.int 3 0),(.int 0 0),(.int 0 0),(.int 3 0),(.ref 298),(.bool true),(.int 181 0),(.ref 299),.none,.none,.none,(.ref 300),(.int 585 0),(.int 177 0),(.str "/claim/cut.py" 586)],#[]⟩) ::
 (nat_lit 302,kF "parts_at" "parts_at" s_Y59 (.str "bitdraws.orders" 469) 301) ::
 (nat_lit 308,kC "shuffled" "shuffled" 588 184 2 3 303 181 593) ::
 (nat_lit 309,kF "shuffled" "shuffled" s_Y58 (.str "bitdraws.orders" 469) 308) ::
 (nat_lit 313,⟨(.type "code"),none,.fields #[(.str "take_shuffled" 596),(.str "take_shuffled" 597),(.str "/claim/cut.py" 598),(.int 186 0),(.int 2 0),(.int 0 0),(.int 0 0),(.int 3 0),(.ref 310),(.bool true),(.int 181 0),(.ref 311),.none,.none,.none,(.ref 312),(.int 599 0),(.int 186 0),(.str "/claim/cut.py" 600)],#[]⟩) ::
 (nat_lit 314,kF "take_shuffled" "take_shuffled" s_Y15 (.str "bitdraws.orders" 469) 313) ::
 (nat_lit 320,kC "order" "order" 602 188 2 3 315 181 607) ::
 (nat_lit 321,kF "order" "order" s_Y72 (.str "bitdraws.orders" 469) 320) ::
 (nat_lit 327,kC "choice" "choice" 610 190 3 3 322 181 617) ::
 (nat_lit 328,kF "choice" "choice" s_Y70 (.str "bitdraws.orders" 469) 327) ::
 (nat_lit 341,kC "__init__" "Kept.__init__" 633 197 3 3 336 181 639) ::
 (nat_lit 342,kF "__init__" "Kept.__init__" s_Y9 (.str "bitdraws.orders" 469) 341) ::
 (nat_lit 348,kC "tell" "Kept.tell" 642 203 2 3 343 181 649) ::
 (nat_lit 349,kF "tell" "Kept.tell" s_Y53 (.str "bitdraws.orders" 469) 348) ::
 (nat_lit 355,kC "kept" "Kept.kept" 652 216 1 3 350 181 656) ::
 (nat_lit 356,kF "kept" "Kept.kept" s_Y49 (.str "bitdraws.orders" 469) 355) ::
 (nat_lit 362,kC "many" "Kept.many" 659 219 1 3 357 181 663) ::
 (nat_lit 363,kF "many" "Kept.many" s_Y50 (.str "bitdraws.orders" 469) 362) ::
 (nat_lit 365,⟨(.type "dict"),none,.dict #[kE P "__module__" 628 (.str "bitdraws.orders" 469),kE P "__firstlineno__" 632 (.int 195 631),kE P "__init__" 641 (.ref 342),kE P "tell" 651 (.ref 349),kE P "kept" 658 (.ref 356),kE P "many" 665 (.ref 363),kE P "__static_attributes__" 670 (.ref 364),kE P "__dict__" 672 (.ref 367),kE P "__weakref__" 674 (.ref 368),kE P "__doc__" 675 .none] 4,#[]⟩) ::
 (nat_lit 366,⟨(.type "type"),none,.cls { name:="Kept",bases:=[(.type "object")],mro:=[(.ref 366),(.type "object")],ns:=365,qualname:="Kept" },#[none,none,some (.str "Kept" 621),some (.str "Kept" 629),some (.builtin "object.__new__"),some (.bool true)]⟩) ::
 (nat_lit 367,⟨(.type "getset_descriptor"),none,.fields #[(.str "__dict__" 671),(.ref 366),(.builtin "function.__dict__"),(.builtin "function.__dict__#set")],#[]⟩) ::
 (nat_lit 368,⟨(.type "getset_descriptor"),none,.fields #[(.str "__weakref__" 673),(.ref 366),(.builtin "ExceptionGroup.__weakref__"),.none],#[]⟩) ::
 (nat_lit 371,⟨(.type "tuple"),none,.seq #[(.str "again" 684)] 0,#[]⟩) ::
 (nat_lit 377,kC "pick" "pick" 686 225 2 3 372 181 692) ::
 (nat_lit 378,kF "pick" "pick" s_Y81 (.str "bitdraws.plans" 678) 377) ::
 (nat_lit 382,⟨(.type "code"),none,.fields #[(.str "take_pick" 695),(.str "take_pick" 696),(.str "/claim/cut.py" 697),(.int 230 0),(.int 2 0),(.int 0 0),(.int 0 0),(.int 3 0),(.ref 379),(.bool true),(.int 181 0),(.ref 380),.none,.none,.none,(.ref 381),(.int 698 0),(.int 230 0),(.str "/claim/cut.py" 699)],#[]⟩) ::
 (nat_lit 383,kF "take_pick" "take_pick" s_Y47 (.str "bitdraws.plans" 678) 382) ::
 (nat_lit 389,kC "coin" "coin" 701 241 3 3 384 181 707) ::
 (nat_lit 390,kF "coin" "coin" s_Y76 (.str "bitdraws.plans" 678) 389) ::
 (nat_lit 396,kC "ends_of" "ends_of" 710 243 2 3 391 181 715) ::
 (nat_lit 397,kF "ends_of" "ends_of" s_Y66 (.str "bitdraws.plans" 678) 396) ::
 (nat_lit 401,⟨(.type "code"),none,.fields #[(.str "deep" 718),(.str "deep" 719),(.str "/claim/cut.py" 720),(.int 247 0),(.int 1 0),(.int 0 0),(.int 0 0),(.int 3 0),(.ref 398),(.bool true),(.int 181 0),(.ref 399),.none,.none,.none,(.ref 400),(.int 721 0),(.int 247 0),(.str "/claim/cut.py" 722)],#[]⟩) ::
 (nat_lit 402,kF "deep" "deep" s_Y73 (.str "bitdraws.plans" 678) 401) ::
 (nat_lit 406,⟨(.type "code"),none,.fields #[(.str "numbered_ends" 724),(.str "numbered_ends" 725),(.str "/claim/cut.py" 726),(.int 249 0),(.int 1 0),(.int 0 0),(.int 0 0),(.int 3 0),(.ref 403),(.bool true),(.int 181 0),(.ref 404),.none,.none,.none,(.ref 405),(.int 727 0),(.int 249 0),(.str "/claim/cut.py" 728)],#[]⟩) ::
 (nat_lit 407,kF "numbered_ends" "numbered_ends" s_Y12 (.str "bitdraws.plans" 678) 406) ::
 (nat_lit 413,kC "rows_to" "rows_to" 730 254 2 3 408 181 735) ::
 (nat_lit 414,kF "rows_to" "rows_to" s_Y68 (.str "bitdraws.plans" 678) 413) ::
 (nat_lit 418,⟨(.type "code"),none,.fields #[(.str "shares_of" 738),(.str "shares_of" 739),(.str "/claim/cut.py" 740),(.int 256 0),(.int 1 0),(.int 0 0),(.int 0 0),(.int 3 0),(.ref 415),(.bool true),(.int 181 0),(.ref 416),.none,.none,.none,(.ref 417),(.int 741 0),(.int 256 0),(.str "/claim/cut.py" 742)],#[]⟩) ::
 (nat_lit 419,kF "shares_of" "shares_of" s_Y52 (.str "bitdraws.plans" 678) 418) ::
 (nat_lit 423,⟨(.type "code"),none,.fields #[(.str "mean_of" 744),(.str "mean_of" 745),(.str "/claim/cut.py" 746),(.int 263 0),(.int 1 0),(.int 0 0),(.int 0 0),(.int 3 0),(.ref 420),(.bool true),(.int 181 0),(.ref 421),.none,.none,.none,(.ref 422),(.int 747 0),(.int 263 0),(.str "/claim/cut.py" 748)],#[]⟩) ::
 (nat_lit 424,kF "mean_of" "mean_of" s_Y61 (.str "bitdraws.plans" 678) 423) ::
 (nat_lit 430,kC "by_plan" "by_plan" 750 268 2 3 425 181 755) ::
 (nat_lit 431,kF "by_plan" "by_plan" s_Y64 (.str "bitdraws.plans" 678) 430) ::
 (nat_lit 437,kC "take_by_plan" "take_by_plan" 758 271 2 3 432 181 764) ::
 (nat_lit 438,kF "take_by_plan" "take_by_plan" s_Y17 (.str "bitdraws.plans" 678) 437) ::
 (nat_lit 444,kC "counts_up_to" "counts_up_to" 773 282 1 3 439 181 779) ::
 (nat_lit 445,kF "counts_up_to" "counts_up_to" s_Y18 (.str "bitdraws.shapes" 767) 444) ::
 (nat_lit 451,kC "count_trees" "count_trees" 782 287 1 3 446 181 786) ::
 (nat_lit 452,kF "count_trees" "count_trees" s_Y29 (.str "bitdraws.shapes" 767) 451) ::
 (nat_lit 472,kC "tree_at" "tree_at" 809 301 2 3 467 181 819) ::
 (nat_lit 473,kF "tree_at" "tree_at" s_Y67 (.str "bitdraws.shapes" 767) 472) ::
 (nat_lit 486,kC "tree" "tree" 834 325 2 3 481 181 839) ::
 (nat_lit 487,kF "tree" "tree" s_Y75 (.str "bitdraws.shapes" 767) 486) ::
 (nat_lit 493,kC "grown" "grown" 842 327 1 3 488 181 852) ::
 (nat_lit 494,kF "grown" "grown" s_Y71 (.str "bitdraws.shapes" 767) 493) ::
 (nat_lit 507,kC "grow" "grow" 865 343 2 3 502 181 870) ::
 (nat_lit 508,kF "grow" "grow" s_Y74 (.str "bitdraws.shapes" 767) 507) ::
 (nat_lit 512,⟨(.type "code"),none,.fields #[(.str "take_grown" 873),(.str "take_grown" 874),(.str "/claim/cut.py" 875),(.int 345 0),(.int 2 0),(.int 0 0),(.int 0 0),(.int 3 0),(.ref 509),(.bool true),(.int 181 0),(.ref 510),.none,.none,.none,(.ref 511),(.int 876 0),(.int 345 0),(.str "/claim/cut.py" 877)],#[]⟩) ::
 (nat_lit 513,kF "take_grown" "take_grown" s_Y39 (.str "bitdraws.shapes" 767) 512) ::
 (nat_lit 517,⟨(.type "code"),none,.fields #[(.str "sizes_under" 879),(.str "sizes_under" 880),(.str "/claim/cut.py" 881),(.int 347 0),(.int 1 0),(.int 0 0),(.int 0 0),(.int 3 0),(.ref 514),(.bool true),(.int 181 0),(.ref 515),.none,.none,.none,(.ref 516),(.int 882 0),(.int 347 0),(.str "/claim/cut.py" 883)],#[]⟩) ::
 (nat_lit 518,kF "sizes_under" "sizes_under" s_Y30 (.str "bitdraws.shapes" 767) 517) ::
 (nat_lit 524,kC "order_under" "order_under" 885 354 2 3 519 181 890) ::
 (nat_lit 525,kF "order_under" "order_under" s_Y34 (.str "bitdraws.shapes" 767) 524) ::
 (nat_lit 529,⟨(.type "code"),none,.fields #[(.str "take_order_under" 893),(.str "take_order_under" 894),(.str "/claim/cut.py" 895),(.int 356 0),(.int 2 0),(.int 0 0),(.int 0 0),(.int 3 0),(.ref 526),(.bool true),(.int 181 0),(.ref 527),.none,.none,.none,(.ref 528),(.int 896 0),(.int 356 0),(.str "/claim/cut.py" 897)],#[]⟩) ::
 (nat_lit 530,kF "take_order_under" "take_order_under" s_Y4 (.str "bitdraws.shapes" 767) 529) ::
 (nat_lit 543,kC "__init__" "Drawer.__init__" 913 369 3 3 538 181 919) ::
 (nat_lit 544,kF "__init__" "Drawer.__init__" s_Y6 (.str "bitdraws.drawers" 899) 543) ::
 (nat_lit 571,kC "choice" "Drawer.choice" 946 382 3 3 566 181 952) ::
 (nat_lit 572,kF "choice" "Drawer.choice" s_Y13 (.str "bitdraws.drawers" 899) 571) ::
 (nat_lit 578,kC "noted" "Drawer.noted" 955 385 3 3 573 181 961) ::
 (nat_lit 579,kF "noted" "Drawer.noted" s_Y16 (.str "bitdraws.drawers" 899) 578) ::
 (nat_lit 592,kC "used" "Drawer.used" 971 392 1 3 587 181 975) ::
 (nat_lit 593,kF "used" "Drawer.used" s_Y31 (.str "bitdraws.drawers" 899) 592) ::
 (nat_lit 599,kC "back" "Drawer.back" 978 395 1 3 594 181 983) ::
 (nat_lit 600,kF "back" "Drawer.back" s_Y27 (.str "bitdraws.drawers" 899) 599) ::
 (nat_lit 602,⟨(.type "dict"),none,.dict #[kE P "__module__" 908 (.str "bitdraws.drawers" 899),kE P "__firstlineno__" 912 (.int 367 911),kE P "__init__" 921 (.ref 544),kE P "even" 929 (.ref 551),kE P "pick" 937 (.ref 558),kE P "shuffled" 945 (.ref 565),kE P "choice" 954 (.ref 572),kE P "noted" 963 (.ref 579),kE P "history" 970 (.ref 586),kE P "used" 977 (.ref 593),kE P "back" 985 (.ref 600),kE P "__static_attributes__" 988 (.ref 601),kE P "__dict__" 990 (.ref 604),kE P "__weakref__" 992 (.ref 605),kE P "__doc__" 993 .none] 4,#[]⟩) ::
 (nat_lit 603,⟨(.type "type"),none,.cls { name:="Drawer",bases:=[(.type "object")],mro:=[(.ref 603),(.type "object")],ns:=602,qualname:="Drawer" },#[none,none,some (.str "Drawer" 901),some (.str "Drawer" 909),some (.builtin "object.__new__"),some (.bool true)]⟩) ::
 (nat_lit 604,⟨(.type "getset_descriptor"),none,.fields #[(.str "__dict__" 989),(.ref 603),(.builtin "function.__dict__"),(.builtin "function.__dict__#set")],#[]⟩) ::
 (nat_lit 605,⟨(.type "getset_descriptor"),none,.fields #[(.str "__weakref__" 991),(.ref 603),(.builtin "ExceptionGroup.__weakref__"),.none],#[]⟩) ::
 (nat_lit 620,kC "__init__" "Keeper.__init__" 1010 404 3 3 615 181 1016) ::
 (nat_lit 621,kF "__init__" "Keeper.__init__" s_Y5 (.str "bitdraws.keeping" 996) 620) ::
 (nat_lit 627,kC "room" "Keeper.room" 1019 410 1 3 622 181 1023) ::
 (nat_lit 628,kF "room" "Keeper.room" s_Y21 (.str "bitdraws.keeping" 996) 627) ::
 (nat_lit 634,kC "draw" "Keeper.draw" 1026 413 2 3 629 181 1033) ::
 (nat_lit 635,kF "draw" "Keeper.draw" s_Y33 (.str "bitdraws.keeping" 996) 634) ::
 (nat_lit 637,⟨(.type "dict"),none,.dict #[kE P "__module__" 1005 (.str "bitdraws.keeping" 996),kE P "__firstlineno__" 1009 (.int 402 1008),kE P "__init__" 1018 (.ref 621),kE P "room" 1025 (.ref 628),kE P "draw" 1035 (.ref 635),kE P "__static_attributes__" 1040 (.ref 636),kE P "__dict__" 1042 (.ref 639),kE P "__weakref__" 1044 (.ref 640),kE P "__doc__" 1045 .none] 4,#[]⟩) ::
 (nat_lit 638,⟨(.type "type"),none,.cls { name:="Keeper",bases:=[(.type "object")],mro:=[(.ref 638),(.type "object")],ns:=637,qualname:="Keeper" },#[none,none,some (.str "Keeper" 998),some (.str "Keeper" 1006),some (.builtin "object.__new__"),some (.bool true)]⟩) ::
 (nat_lit 639,⟨(.type "getset_descriptor"),none,.fields #[(.str "__dict__" 1041),(.ref 638),(.builtin "function.__dict__"),(.builtin "function.__dict__#set")],#[]⟩) ::
 (nat_lit 640,⟨(.type "getset_descriptor"),none,.fields #[(.str "__weakref__" 1043),(.ref 638),(.builtin "ExceptionGroup.__weakref__"),.none],#[]⟩) ::
 (nat_lit 648,kC "take_with_room" "take_with_room" 1048 419 2 3 643 181 1058) ::
 (nat_lit 649,kF "take_with_room" "take_with_room" s_Y8 (.str "bitdraws.keeping" 996) 648) ::
 (nat_lit 655,kC "by_table" "by_table" 1063 434 3 3 650 181 1071) ::
 (nat_lit 656,kF "by_table" "by_table" s_Y57 (.str "bitdraws.tables" 1061) 655) ::
 (nat_lit 662,kC "written" "written" 1076 439 1 3 657 181 1080) ::
 (nat_lit 663,kF "written" "written" s_Y65 (.str "bitdraws.texts" 1074) 662) ::
 (nat_lit 669,kC "read" "read" 1083 445 1 3 664 181 1088) ::
 (nat_lit 670,kF "read" "read" s_Y80 (.str "bitdraws.texts" 1074) 669) ::
 (nat_lit 676,kC "read_part" "read_part" 1091 450 3 3 671 181 1100) ::
 (nat_lit 677,kF "read_part" "read_part" s_Y48 (.str "bitdraws.texts" 1074) 676) ::
 (nat_lit 683,kC "read_number" "read_number" 1103 461 2 3 678 181 1110) ::
 (nat_lit 684,kF "read_number" "read_number" s_Y28 (.str "bitdraws.texts" 1074) 683) ::
 (nat_lit 690,kC "led_to" "led_to" 1117 469 3 3 685 181 1123) ::
 (nat_lit 691,kF "led_to" "led_to" s_Y69 (.str "bitdraws.words" 1113) 690) ::
 (nat_lit 697,kC "is_taken" "is_taken" 1126 473 2 3 692 181 1133) ::
 (nat_lit 698,kF "is_taken" "is_taken" s_Y54 (.str "bitdraws.words" 1113) 697) ::
 (nat_lit 702,⟨(.type "code"),none,.fields #[(.str "counts_by_length" 1136),(.str "counts_by_length" 1137),(.str "/claim/cut.py" 1138),(.int 478 0),(.int 2 0),(.int 0 0),(.int 0 0),(.int 3 0),(.ref 699),(.bool true),(.int 181 0),(.ref 700),.none,.none,.none,(.ref 701),(.int 1139 0),(.int 478 0),(.str "/claim/cut.py" 1140)],#[]⟩) ::
 (nat_lit 703,kF "counts_by_length" "counts_by_length" s_Y2 (.str "bitdraws.words" 1113) 702) ::
 (nat_lit 709,kC "count_from" "count_from" 1142 485 2 3 704 181 1147) ::
 (nat_lit 710,kF "count_from" "count_from" s_Y40 (.str "bitdraws.words" 1113) 709) ::
 (nat_lit 716,kC "count_words" "count_words" 1150 487 2 3 711 181 1155) ::
 (nat_lit 717,kF "count_words" "count_words" s_Y25 (.str "bitdraws.words" 1113) 716) ::
 (nat_lit 723,kC "word_at" "word_at" 1158 489 3 3 718 181 1171) ::
 (nat_lit 724,kF "word_at" "word_at" s_Y62 (.str "bitdraws.words" 1113) 723) ::
 (nat_lit 730,kC "place_of_word" "place_of_word" 1174 503 2 3 725 181 1184) ::
 (nat_lit 731,kF "place_of_word" "place_of_word" s_Y11 (.str "bitdraws.words" 1113) 730) ::
 (nat_lit 737,kC "word" "word" 1187 514 3 3 732 181 1194) ::
 (nat_lit 738,kF "word" "word" s_Y78 (.str "bitdraws.words" 1113) 737) ::
 (nat_lit 744,kC "_law_draw" "_law_draw" 1199 520 3 3 739 181 1209) ::
 (nat_lit 745,kF "_law_draw" "_law_draw" s_Y46 (.str "law_bitdraws_k39_whole_refusals" 1197) 744) ::
 (nat_lit 758,kC "_law_names" "_law_names" 1221 532 1 3 753 181 1226) ::
 (nat_lit 759,kF "_law_names" "_law_names" s_Y37 (.str "law_bitdraws_k39_whole_refusals" 1197) 758) ::
 (nat_lit 765,kC "_law_bitless" "_law_bitless" 1229 539 4 3 760 181 1237) ::
 (nat_lit 766,kF "_law_bitless" "_law_bitless" s_Y20 (.str "law_bitdraws_k39_whole_refusals" 1197) 765) ::
 (nat_lit 772,kC "_law_second" "_law_second" 1240 573 3 3 767 181 1248) ::
 (nat_lit 773,kF "_law_second" "_law_second" s_Y24 (.str "law_bitdraws_k39_whole_refusals" 1197) 772) ::
 (nat_lit 779,kC "_law_third" "_law_third" 1251 594 3 3 774 181 1258) ::
 (nat_lit 780,kF "_law_third" "_law_third" s_Y38 (.str "law_bitdraws_k39_whole_refusals" 1197) 779) ::
 (nat_lit 786,kC "_law_ask" "_law_ask" 1261 610 5 3 781 181 1271) ::
 (nat_lit 787,kF "_law_ask" "_law_ask" s_Y60 (.str "law_bitdraws_k39_whole_refusals" 1197) 786) ::
 (nat_lit 791,⟨(.type "code"),none,.fields #[(.str "law" 1274),(.str "law" 1275),(.str "/claim/cut.py" 1276),(.int 622 0),(.int 1 0),(.int 0 0),(.int 0 0),(.int 3 0),(.ref 788),(.bool true),(.int 181 0),(.ref 789),.none,.none,.none,(.ref 790),(.int 1277 0),(.int 622 0),(.str "/claim/cut.py" 1278)],#[]⟩) ::
 (nat_lit 792,kF "law" "law" s_law (.str "law_bitdraws_k39_whole_refusals" 1197) 791)::[]
noncomputable def KA:List Addr:=[2,3,30,31,32,43,44,55,56,67,68,79,80,91,92,107,108,114,115,121,122,128,129,135,136,138,139,140,141,149,150,156,157,163,164,184,185,191,192,198,199,205,206,212,213,219,220,226,227,233,234,240,241,247,248,254,255,261,262,275,276,282,283,289,290,301,302,308,309,313,314,320,321,327,328,341,342,348,349,355,356,362,363,365,366,367,368,371,377,378,382,383,389,390,396,397,401,402,406,407,413,414,418,419,423,424,430,431,437,438,444,445,451,452,472,473,486,487,493,494,507,508,512,513,517,518,524,525,529,530,543,544,571,572,578,579,592,593,599,600,602,603,604,605,620,621,627,628,634,635,637,638,639,640,648,649,655,656,662,663,669,670,676,677,683,684,690,691,697,698,702,703,709,710,716,717,723,724,730,731,737,738,744,745,758,759,765,766,772,773,779,780,786,787,791,792]
theorem KA_is (P:Params):KA=(KK P).map (·.1):=by kernel_rfl
noncomputable abbrev qv:Program:=PySem.W.view PySem.Challenge.pw_bitdraws_k39_whole_refusals [108]
noncomputable abbrev qL:List Str:=[⟨⟨[95,119,97,108,108]⟩⟩,⟨⟨[68,114,97,119,69,114,114,111,114]⟩⟩,⟨⟨[78,111,66,105,116,115]⟩⟩,⟨⟨[78,111,83,104,97,114,101,115]⟩⟩,⟨⟨[78,111,80,108,97,99,101]⟩⟩,⟨⟨[78,111,83,116,101,112]⟩⟩,⟨⟨[78,111,84,101,120,116]⟩⟩,⟨⟨[83,84,65,84,69,83]⟩⟩,⟨⟨[72,65,76,70,95,79,70,95,83,84,65,84,69,83]⟩⟩,⟨⟨[70,65,67,84,79,82]⟩⟩,⟨⟨[65,68,68,69,68]⟩⟩,⟨⟨[66,105,116,115]⟩⟩,⟨⟨[100,114,97,119,110,95,119,104,111,108,101]⟩⟩,⟨⟨[110,101,120,116,95,115,116,97,116,101]⟩⟩,⟨⟨[98,105,116,115,95,111,102]⟩⟩,⟨⟨[99,111,109,109,111,110,95,100,105,118,105,115,111,114]⟩⟩,⟨⟨[102,114,97,99,116,105,111,110]⟩⟩,⟨⟨[115,105,109,112,108,101,95,101,118,101,110]⟩⟩,⟨⟨[116,97,107,101,95,115,105,109,112,108,101,95,101,118,101,110]⟩⟩,⟨⟨[119,105,100,116,104,95,102,111,114]⟩⟩,⟨⟨[116,97,107,101,95,110,117,109,98,101,114]⟩⟩,⟨⟨[101,118,101,110]⟩⟩,⟨⟨[116,97,107,101,95,101,118,101,110]⟩⟩,⟨⟨[99,104,101,99,107,95,112,108,97,99,101]⟩⟩,⟨⟨[99,111,117,110,116,95,102,105,103,117,114,101,115]⟩⟩,⟨⟨[102,105,103,117,114,101,115,95,97,116]⟩⟩,⟨⟨[114,97,100,105,99,101,115,95,111,102,95,111,114,100,101,114,115]⟩⟩,⟨⟨[111,114,100,101,114,95,97,116]⟩⟩,⟨⟨[112,108,97,99,101,115,95,111,102,95,115,119,97,112,115]⟩⟩,⟨⟨[101,120,99,104,97,110,103,101]⟩⟩,⟨⟨[98,121,95,115,119,97,112,115]⟩⟩,⟨⟨[119,97,121,115]⟩⟩,⟨⟨[99,104,111,105,99,101,95,97,116]⟩⟩,⟨⟨[108,97,115,116,95,111,110,101,115,95,119,105,116,104,105,110]⟩⟩,⟨⟨[112,97,114,116,115,95,97,116]⟩⟩,⟨⟨[115,104,117,102,102,108,101,100]⟩⟩,⟨⟨[116,97,107,101,95,115,104,117,102,102,108,101,100]⟩⟩,⟨⟨[111,114,100,101,114]⟩⟩,⟨⟨[99,104,111,105,99,101]⟩⟩,⟨⟨[99,104,111,105,99,101,95,111,114,100,101,114,115]⟩⟩,⟨⟨[75,101,112,116]⟩⟩,⟨⟨[71,82,69,65,84,69,83,84,95,78,85,77,66,69,82]⟩⟩,⟨⟨[77,79,83,84,95,65,83,75,83]⟩⟩,⟨⟨[65,71,65,73,78]⟩⟩,⟨⟨[112,105,99,107]⟩⟩,⟨⟨[116,97,107,101,95,112,105,99,107]⟩⟩,⟨⟨[99,111,105,110]⟩⟩,⟨⟨[101,110,100,115,95,111,102]⟩⟩,⟨⟨[100,101,101,112]⟩⟩,⟨⟨[110,117,109,98,101,114,101,100,95,101,110,100,115]⟩⟩,⟨⟨[114,111,119,115,95,116,111]⟩⟩,⟨⟨[115,104,97,114,101,115,95,111,102]⟩⟩,⟨⟨[109,101,97,110,95,111,102]⟩⟩,⟨⟨[98,121,95,112,108,97,110]⟩⟩,⟨⟨[116,97,107,101,95,98,121,95,112,108,97,110]⟩⟩,⟨⟨[76,69,65,70]⟩⟩,⟨⟨[80,65,73,82]⟩⟩,⟨⟨[99,111,117,110,116,115,95,117,112,95,116,111]⟩⟩,⟨⟨[99,111,117,110,116,95,116,114,101,101,115]⟩⟩,⟨⟨[98,117,105,108,116]⟩⟩,⟨⟨[116,114,101,101,95,111,102]⟩⟩,⟨⟨[116,114,101,101,95,97,116]⟩⟩,⟨⟨[115,105,100,101,115,95,97,116]⟩⟩,⟨⟨[116,114,101,101]⟩⟩,⟨⟨[103,114,111,119,110]⟩⟩,⟨⟨[101,110,100,95,111,102,95,112,97,114,116]⟩⟩,⟨⟨[103,114,111,119]⟩⟩,⟨⟨[116,97,107,101,95,103,114,111,119,110]⟩⟩,⟨⟨[115,105,122,101,115,95,117,110,100,101,114]⟩⟩,⟨⟨[111,114,100,101,114,95,117,110,100,101,114]⟩⟩,⟨⟨[116,97,107,101,95,111,114,100,101,114,95,117,110,100,101,114]⟩⟩,⟨⟨[68,114,97,119,101,114]⟩⟩,⟨⟨[75,101,101,112,101,114]⟩⟩,⟨⟨[116,97,107,101,95,119,105,116,104,95,114,111,111,109]⟩⟩,⟨⟨[98,121,95,116,97,98,108,101]⟩⟩,⟨⟨[119,114,105,116,116,101,110]⟩⟩,⟨⟨[114,101,97,100]⟩⟩,⟨⟨[114,101,97,100,95,112,97,114,116]⟩⟩,⟨⟨[114,101,97,100,95,110,117,109,98,101,114]⟩⟩,⟨⟨[76,69,84,84,69,82,83]⟩⟩,⟨⟨[108,101,100,95,116,111]⟩⟩,⟨⟨[105,115,95,116,97,107,101,110]⟩⟩,⟨⟨[99,111,117,110,116,115,95,98,121,95,108,101,110,103,116,104]⟩⟩,⟨⟨[99,111,117,110,116,95,102,114,111,109]⟩⟩,⟨⟨[99,111,117,110,116,95,119,111,114,100,115]⟩⟩,⟨⟨[119,111,114,100,95,97,116]⟩⟩,⟨⟨[112,108,97,99,101,95,111,102,95,119,111,114,100]⟩⟩,⟨⟨[119,111,114,100]⟩⟩,⟨⟨[95,108,97,119,95,100,114,97,119]⟩⟩,⟨⟨[95,108,97,119,95,111,110,101]⟩⟩,⟨⟨[95,108,97,119,95,110,97,109,101,115]⟩⟩,⟨⟨[95,108,97,119,95,98,105,116,108,101,115,115]⟩⟩,⟨⟨[95,108,97,119,95,115,101,99,111,110,100]⟩⟩,⟨⟨[95,108,97,119,95,116,104,105,114,100]⟩⟩,⟨⟨[95,108,97,119,95,97,115,107]⟩⟩]
noncomputable abbrev qV:List (Str×PySem.W.WData):=[]
noncomputable abbrev qX (s:Shared):Bool:=PySem.W.xlAt qv qV s&&PySem.W.recOk (PySem.W.RowW.records (PySem.W.OpenRow.toRowW (PySem.W.OpenLaw.row PySem.Challenge.rw_bitdraws_k39_whole_refusals))) s
theorem both {α β γ:Type}{o:Option α}{f:α→β}{g:α→γ}{b:β}{c:γ}(h1:Option.map f o=some b)(h2:Option.map g o=some c):Option.map (fun s=>(f s,g s)) o=some (b,c):=by
 cases o with
 | none=>cases h1
 | some x=>cases h1;cases h2;rfl
theorem left_of {p q:Program}{loose:List Str}{Xt:Shared→Bool}{α:Type}{Yf:Shared→α}{Ya:World→α}{N m₀:Nat}{ann:Option Value}(e:PySem.W.opening p=PySem.W.plainProg p.main.scope.names)(hN:Nat.ble 600 N=true)(f:∀s,fenceModules? p s=some s)
  (size:∀w:World,((PySem.W.boot_heap w.params).isNs mainGlobals,(PySem.W.boot_heap w.params).objs.size,(PySem.W.boot_heap w.params).nsMap mainGlobals "__annotations__")=(true,m₀,ann))
  (run:∀(w:World)(os:OsState),(PySem.W.topRun treeTable p w m₀ ann N ⟨PySem.W.boot_heap w.params,#[],PySem.W.boot_drawn,PySem.W.boot_toks,os⟩ (PySem.W.topStub p)).map (fun s=>((PySem.W.staticsOk (importedModules p.main.body) (PySem.W.boot_heap w.params) s.heap&&PySem.W.namesBound p s.heap&&PySem.W.gensDone s&&PySem.W.laidKept (PySem.W.boot_heap w.params) s.heap),PySem.W.openSeen q loose (importedModules p.main.body) Xt true s,Yf s))=some (true,PySem.W.openGood q loose,Ya w)) :
  PySem.W.LeftO p q loose Xt Yf Ya N:=fun w=>by
 obtain⟨⟨h,gs,d,k,os⟩,e,e'⟩:=Option.map_eq_some_iff.mp (PySem.W.boot_open e hN f w)
 obtain⟨rfl,rfl,rfl,rfl⟩:h=PySem.W.boot_heap w.params∧gs=#[]∧d=PySem.W.boot_drawn∧k=PySem.W.boot_toks:=by simpa using e'
 obtain⟨z1,z2,z3⟩:_∧_∧_:=by simpa only[Prod.mk.injEq]using size w
 obtain⟨s,r1,r2⟩:=Option.map_eq_some_iff.mp (run w os)
 obtain⟨l1,l2,l3⟩:_∧_∧_:=by simpa only[Prod.mk.injEq]using r2
 have t:PySem.W.topFrom treeTable p w N ⟨PySem.W.boot_heap w.params,#[],PySem.W.boot_drawn,PySem.W.boot_toks,os⟩=some s:=by
  unfold PySem.W.topFrom
  dsimp only
  rw[z1,z2,z3,r1]
  show(match PySem.W.staticsOk _ _ s.heap&&_&&_&&_ with|true=>_|false=>_)=_
  rw[l1]
 unfold PySem.W.openEnds
 rw[e]
 show(PySem.W.topFrom treeTable p w N _).map _=_
 rw[t]
 exact congrArg some (Prod.ext l2 l3)
noncomputable def goT (tb:String→Option Builtin)(p:Program)(w:World)(n₀:Nat)(ann:Option Value)(ok:Nat→Option Value→Thread→Bool)(st:(Code→Sem Fin)→Program→World→PySem.W.SharedT→Thread→Option (PySem.W.SharedT×Thread))(dn:(String→Option Builtin)→Code→Sem Fin)(n:Nat):PySem.W.SharedT→Thread→Option PySem.W.SharedT :=
 @Nat.rec (fun _=>PySem.W.SharedT→Thread→Option PySem.W.SharedT) (fun _ _=>none) (fun _ ih s t=>@Bool.rec (fun _=>Option PySem.W.SharedT) (@Bool.rec (fun _=>Option PySem.W.SharedT) none (@Option.rec _ (fun _=>Option PySem.W.SharedT) none (fun r=>@Prod.rec _ _ (fun _=>Option PySem.W.SharedT) (fun s' t'=>ih s' t') r) (st (dn tb) p w s t)) (ok n₀ ann t)) (some s) (PySem.W.through t)) n
theorem goT_of {tb:String→Option Builtin}{p:Program}{w:World}{n₀:Nat}{ann:Option Value}:∀{n:Nat}{s s':PySem.W.SharedT}{t:Thread},goT tb p w n₀ ann PySem.W.stepOk PySem.W.stepT denote n s t=some s'→PySem.W.topRun tb p w n₀ ann n s.abs t=some s'.abs
 | 0,s,s',t,h=>by cases h
 | n+1,s,s',t,h=>by
  unfold PySem.W.topRun
  have h:@Bool.rec (fun _=>Option PySem.W.SharedT) (@Bool.rec (fun _=>Option PySem.W.SharedT) none (@Option.rec _ (fun _=>Option PySem.W.SharedT) none (fun r=>@Prod.rec _ _ (fun _=>Option PySem.W.SharedT) (fun s' t'=>goT tb p w n₀ ann PySem.W.stepOk PySem.W.stepT denote n s' t') r) (PySem.W.stepT (denote tb) p w s t)) (PySem.W.stepOk n₀ ann t)) (some s) (PySem.W.through t)=some s':=h
  cases ht:PySem.W.through t with
  | true=>rw[ht]at h;cases h;rfl
  | false =>
   rw[ht]at h
   cases hk:PySem.W.stepOk n₀ ann t with
   | false=>rw[hk]at h;cases h
   | true =>
    rw[hk]at h
    cases hs:PySem.W.stepT (denote tb) p w s t with
    | none=>rw[hs]at h;cases h
    | some r =>
     obtain⟨s₂,t₂⟩:=r
     rw[hs]at h
     rw[PySem.W.stepT_spec hs]
     exact goT_of h
noncomputable def bt (P:Params):PySem.W.BT:=(List.range 11).foldl (fun t i=>t.ins i ((PySem.W.boot_heap P).objs.toList.getD i default)) .nil
theorem bt_is:∀P:Params,PySem.W.absHeap (bt P) 11 (PySem.W.boot_heap P).life=PySem.W.boot_heap P:=by
 intro P;kernel_rfl
theorem left_ofT {p q:Program}{loose:List Str}{Xt:Shared→Bool}{α:Type}{Yf:Shared→α}{Ya:World→α}{N:Nat}(e:PySem.W.opening p=PySem.W.plainProg p.main.scope.names)(hN:Nat.ble 600 N=true)(f:∀s,fenceModules? p s=some s)
  (size:∀w:World,((PySem.W.boot_heap w.params).isNs mainGlobals,(PySem.W.boot_heap w.params).objs.size,(PySem.W.boot_heap w.params).nsMap mainGlobals "__annotations__")=(true,11,some (.ref 6)))
  (run:∀(w:World)(os:OsState),(goT treeTable p w 11 (some (.ref 6)) PySem.W.stepOk PySem.W.stepT denote N ⟨bt w.params,11,(PySem.W.boot_heap w.params).life,#[],PySem.W.boot_drawn,PySem.W.boot_toks,os⟩ (PySem.W.topStub p)).map (fun s=>((PySem.W.staticsOk (importedModules p.main.body) (PySem.W.boot_heap w.params) s.abs.heap&&PySem.W.namesBound p s.abs.heap&&PySem.W.gensDone s.abs&&PySem.W.laidKept (PySem.W.boot_heap w.params) s.abs.heap),PySem.W.openSeen q loose (importedModules p.main.body) Xt true s.abs,Yf s.abs))=some (true,PySem.W.openGood q loose,Ya w)) :
  PySem.W.LeftO p q loose Xt Yf Ya N:=left_of e hN f size fun w os=>by
 obtain⟨s,r1,r2⟩:=Option.map_eq_some_iff.mp (run w os)
 have h:=goT_of r1
 rw[show PySem.W.SharedT.abs ⟨bt w.params,11,(PySem.W.boot_heap w.params).life,#[],PySem.W.boot_drawn,PySem.W.boot_toks,os⟩=(⟨PySem.W.boot_heap w.params,#[],PySem.W.boot_drawn,PySem.W.boot_toks,os⟩:Shared)from congrArg (fun h=>(⟨h,#[],PySem.W.boot_drawn,PySem.W.boot_toks,os⟩:Shared)) (bt_is w.params)]at h
 rw[h]
 exact congrArg some r2
theorem sizeB:∀w:World,((PySem.W.boot_heap w.params).isNs mainGlobals,(PySem.W.boot_heap w.params).objs.size,(PySem.W.boot_heap w.params).nsMap mainGlobals "__annotations__")=(true,11,some (.ref 6)):=by
 intro w;kernel_rfl
theorem runB1:∀(w:World)(os:OsState),(goT PySem.W.Fast.tw14364793385576792824 PySem.Challenge.pw_bitdraws_k39_whole_refusals w 11 (some (.ref 6)) PySem.W.Fast.tw6613529449190102663 PySem.W.Fast.tw10156331382660048174 PySem.W.Fast.tw11892475500146522536 10574 ⟨bt w.params,11,(PySem.W.boot_heap w.params).life,#[],PySem.W.boot_drawn,PySem.W.boot_toks,os⟩ (PySem.W.topStub PySem.Challenge.pw_bitdraws_k39_whole_refusals)).map (fun s=>(PySem.W.staticsOk (PySem.W.Fast.tw5923862056798008813 PySem.Challenge.pw_bitdraws_k39_whole_refusals.main.body) (PySem.W.boot_heap w.params) s.abs.heap&&PySem.W.namesBound PySem.Challenge.pw_bitdraws_k39_whole_refusals s.abs.heap&&PySem.W.gensDone s.abs&&PySem.W.laidKept (PySem.W.boot_heap w.params) s.abs.heap))=some true:=by
 intro w os;kernel_rfl
theorem runB2:∀(w:World)(os:OsState),(goT PySem.W.Fast.tw14364793385576792824 PySem.Challenge.pw_bitdraws_k39_whole_refusals w 11 (some (.ref 6)) PySem.W.Fast.tw6613529449190102663 PySem.W.Fast.tw10156331382660048174 PySem.W.Fast.tw11892475500146522536 10574 ⟨bt w.params,11,(PySem.W.boot_heap w.params).life,#[],PySem.W.boot_drawn,PySem.W.boot_toks,os⟩ (PySem.W.topStub PySem.Challenge.pw_bitdraws_k39_whole_refusals)).map (fun s=>PySem.W.Fast.tw4187177175401517315 qv qL (PySem.W.Fast.tw5923862056798008813 PySem.Challenge.pw_bitdraws_k39_whole_refusals.main.body) qX true s.abs)=some (PySem.W.openGood qv qL):=by
 intro w os;kernel_rfl
theorem runB3:∀(w:World)(os:OsState),(goT PySem.W.Fast.tw14364793385576792824 PySem.Challenge.pw_bitdraws_k39_whole_refusals w 11 (some (.ref 6)) PySem.W.Fast.tw6613529449190102663 PySem.W.Fast.tw10156331382660048174 PySem.W.Fast.tw11892475500146522536 10574 ⟨bt w.params,11,(PySem.W.boot_heap w.params).life,#[],PySem.W.boot_drawn,PySem.W.boot_toks,os⟩ (PySem.W.topStub PySem.Challenge.pw_bitdraws_k39_whole_refusals)).map (fun s=>KA.map s.abs.heap.get?)=some ((KK w.params).map fun p=>some p.2):=by
 intro w os;kernel_rfl
theorem runB:∀(w:World)(os:OsState),(goT PySem.W.Fast.tw14364793385576792824 PySem.Challenge.pw_bitdraws_k39_whole_refusals w 11 (some (.ref 6)) PySem.W.Fast.tw6613529449190102663 PySem.W.Fast.tw10156331382660048174 PySem.W.Fast.tw11892475500146522536 10574 ⟨bt w.params,11,(PySem.W.boot_heap w.params).life,#[],PySem.W.boot_drawn,PySem.W.boot_toks,os⟩ (PySem.W.topStub PySem.Challenge.pw_bitdraws_k39_whole_refusals)).map (fun s=>((PySem.W.staticsOk (PySem.W.Fast.tw5923862056798008813 PySem.Challenge.pw_bitdraws_k39_whole_refusals.main.body) (PySem.W.boot_heap w.params) s.abs.heap&&PySem.W.namesBound PySem.Challenge.pw_bitdraws_k39_whole_refusals s.abs.heap&&PySem.W.gensDone s.abs&&PySem.W.laidKept (PySem.W.boot_heap w.params) s.abs.heap),PySem.W.Fast.tw4187177175401517315 qv qL (PySem.W.Fast.tw5923862056798008813 PySem.Challenge.pw_bitdraws_k39_whole_refusals.main.body) qX true s.abs,KA.map s.abs.heap.get?))=some (true,PySem.W.openGood qv qL,(KK w.params).map fun p=>some p.2):=fun w os=>both (runB1 w os) (both (runB2 w os) (runB3 w os))
theorem left:PySem.W.LeftO PySem.Challenge.pw_bitdraws_k39_whole_refusals qv qL qX (PySem.W.Hook.obs (PySem.W.kHook KK KA KA_is)) (PySem.W.Hook.val (PySem.W.kHook KK KA KA_is)) 10574:=by
 refine left_ofT (by kernel_rfl) (by decide) (fun s=>rfl) sizeB fun w os=>?_
 have h:=runB w os
 rw[←PySem.W.Fast.te5923862056798008813,←PySem.W.Fast.te4187177175401517315,←PySem.W.Fast.te14364793385576792824,←PySem.W.Fast.te6613529449190102663,←PySem.W.Fast.te10156331382660048174,←PySem.W.Fast.te11892475500146522536]at h
 exact h
end Lw
open PySem PySem.W PyProof.Rows
noncomputable abbrev PySem.W.Fast.tw9744301307309907388:PySem.Program:=PySem.Challenge.pw_bitdraws_k39_whole_refusals
theorem PySem.W.Fast.te9744301307309907388:PySem.Challenge.pw_bitdraws_k39_whole_refusals=PySem.W.Fast.tw9744301307309907388:=rfl
set_option maxRecDepth 100000 in
set_option maxHeartbeats 0 in
theorem PySem.Challenge.cw_bitdraws_k39_whole_refusals_holds : PySem.Challenge.rw_bitdraws_k39_whole_refusals.Holds := by
 w_on;o_law
 refine holds_open (q:=Lw.qv) (loose:=Lw.qL) (Xt:=Lw.qX) (XP:=XL Lw.qv Lw.qV) (Yf:=Hook.obs (kHook Lw.KK Lw.KA Lw.KA_is)) (Ya:=Hook.val (kHook Lw.KK Lw.KA Lw.KA_is)) (YP:=Hook.says (kHook Lw.KK Lw.KA Lw.KA_is)) (N:=10574) Lw.left (Hook.of _) (Hook.keeps _) (fun s e=>xl_of s (Bool.and_eq_true_iff.mp e).1) XL.keeps (by rfl) (by rfl) (by rfl) (fun s e=>recFacts_of (Bool.and_eq_true_iff.mp e).2) (by rfl) (by assumption) (by decide +kernel) ⟨rfl,rfl,rfl,rfl,rfl,by decide +kernel⟩ ?hw ?hc
 (case hw=>w_witness2)
 k_fill
 refine Lw.walk (l:=PySem.Challenge.rw_bitdraws_k39_whole_refusals) rfl rfl (fun w h Y=>PySem.W.kIn_of Y) ?F
 case F =>
  intro w mg fa h KX G hmg
  refine' Lw.all_mk KX G hmg ?a1 ?l1 ?c1 ?k1 ?a2 ?l2 ?c2 ?k2 ?a3 ?l3 ?c3 ?k3 ?a4 ?l4 ?c4 ?k4 ?a5 ?l5 ?c5 ?k5 ?a6 ?l6 ?c6 ?k6 ?a7 ?l7 ?c7 ?k7 ?a8 ?l8 ?c8 ?k8 ?a9 ?l9 ?c9 ?k9 ?a10 ?l10 ?c10 ?k10 ?a11 ?l11 ?c11 ?k11 ?a12 ?l12 ?c12 ?k12 ?a13 ?l13 ?c13 ?k13 ?a14 ?l14 ?c14 ?k14 ?a15 ?l15 ?c15 ?k15 ?a16 ?l16 ?c16 ?k16 ?a17 ?l17 ?c17 ?k17 ?a18 ?l18 ?c18 ?k18 ?a19 ?l19 ?c19 ?k19 ?a20 ?l20 ?c20 ?k20 ?a21 ?l21 ?c21 ?k21 ?a22 ?l22 ?c22 ?k22 ?a23 ?l23 ?c23 ?k23 ?a24 ?l24 ?c24 ?k24 ?a25 ?l25 ?c25 ?k25 ?a26 ?l26 ?c26 ?k26 ?a27 ?l27 ?c27 ?k27 ?a28 ?l28 ?c28 ?k28 ?a29 ?l29 ?c29 ?k29 ?a30 ?l30 ?c30 ?k30 ?a31 ?l31 ?c31 ?k31 ?a32 ?l32 ?c32 ?k32 ?a33 ?l33 ?c33 ?k33 ?a34 ?l34 ?c34 ?k34 ?a35 ?l35 ?c35 ?k35 ?a36 ?l36 ?c36 ?k36 ?a37 ?l37 ?c37 ?k37 ?a38 ?l38 ?c38 ?k38 ?a39 ?l39 ?c39 ?k39 ?a40 ?l40 ?c40 ?k40 ?a41 ?l41 ?c41 ?k41 ?a42 ?l42 ?c42 ?k42 ?a43 ?l43 ?c43 ?k43 ?a44 ?l44 ?c44 ?k44 ?a45 ?l45 ?c45 ?k45 ?a46 ?l46 ?c46 ?k46 ?a47 ?l47 ?c47 ?k47 ?a48 ?l48 ?c48 ?k48 ?a49 ?l49 ?c49 ?k49 ?a50 ?l50 ?c50 ?k50 ?a51 ?l51 ?c51 ?k51 ?a52 ?l52 ?c52 ?k52 ?a53 ?l53 ?c53 ?k53 ?a54 ?l54 ?c54 ?k54 ?a55 ?l55 ?c55 ?k55 ?a56 ?l56 ?c56 ?k56 ?a57 ?l57 ?c57 ?k57 ?a58 ?l58 ?c58 ?k58 ?a59 ?l59 ?c59 ?k59 ?a60 ?l60 ?c60 ?k60 ?a61 ?l61 ?c61 ?k61 ?a62 ?l62 ?c62 ?k62 ?a63 ?l63 ?c63 ?k63 ?a64 ?l64 ?c64 ?k64 ?a65 ?l65 ?c65 ?k65 ?z1 ?z2 ?z3 ?z4 ?z5 ?z6 ?z7 ?z8 ?z9 ?z10 ?z11 ?z12 ?v1 ?v2 ?v3 ?v4 ?v5 ?v6 ?v7 ?u7 ?v8 ?ca_Bits ?pg_Bits ?hd_Bits ?po_Bits ?sa_Bits ?mk_Bits ?kc_Bits ?n_Bits_row ?n_Bits_place ?ca_E6 ?pg_E6 ?hd_E6 ?po_E6 ?sa_E6 ?mk_E6 ?kc_E6 ?n_Drawer_bits ?n_Drawer_steps ?ca_E7 ?pg_E7 ?hd_E7 ?po_E7 ?sa_E7 ?mk_E7 ?kc_E7 ?n_Keeper_bits ?n_Keeper_most ?n_Keeper_number ?n_Keeper_size ?ca_Kept ?pg_Kept ?hd_Kept ?po_Kept ?sa_Kept ?mk_Kept ?kc_Kept ?n_Kept_bits ?n_Kept_most ?n_Kept_things ?n_Kept_came ?a66 ?i66 ?l66 ?c66 ?k66 ?a67 ?i67 ?l67 ?c67 ?k67 ?a68 ?i68 ?l68 ?c68 ?k68 ?a69 ?i69 ?l69 ?c69 ?k69 ?a70 ?i70 ?l70 ?c70 ?k70 ?a71 ?i71 ?l71 ?c71 ?k71 ?a72 ?i72 ?l72 ?c72 ?k72 ?a73 ?i73 ?l73 ?c73 ?k73 ?a74 ?i74 ?l74 ?c74 ?k74 ?a75 ?i75 ?l75 ?c75 ?k75 ?a76 ?i76 ?l76 ?c76 ?k76 ?a77 ?i77 ?l77 ?c77 ?k77 ?a78 ?i78 ?l78 ?c78 ?k78 ?a79 ?i79 ?l79 ?c79 ?k79 ?a80 ?i80 ?l80 ?c80 ?k80 ?a81 ?i81 ?l81 ?c81 ?k81 ?a82 ?i82 ?l82 ?c82 ?k82 ?xa_E0 ?xl_E0 ?xi_E0 ?xa_E1 ?xl_E1 ?xi_E1 ?xa_E2 ?xl_E2 ?xi_E2 ?xa_E3 ?xl_E3 ?xi_E3 ?xa_E4 ?xl_E4 ?xi_E4 ?xa_E5 ?xl_E5 ?xi_E5 ?xm_E0_E0 ?xm_E0_E1 ?xm_E0_E2 ?xm_E0_E3 ?xm_E0_E4 ?xm_E0_E5 ?xm_E1_E0 ?xm_E1_E1 ?xm_E1_E2 ?xm_E1_E3 ?xm_E1_E4 ?xm_E1_E5 ?xm_E2_E0 ?xm_E2_E1 ?xm_E2_E2 ?xm_E2_E3 ?xm_E2_E4 ?xm_E2_E5 ?xm_E3_E0 ?xm_E3_E1 ?xm_E3_E2 ?xm_E3_E3 ?xm_E3_E4 ?xm_E3_E5 ?xm_E4_E0 ?xm_E4_E1 ?xm_E4_E2 ?xm_E4_E3 ?xm_E4_E4 ?xm_E4_E5 ?xm_E5_E0 ?xm_E5_E1 ?xm_E5_E2 ?xm_E5_E3 ?xm_E5_E4 ?xm_E5_E5 ?ex_xok
  (case a1=>k_is)
  (case l1=>k_is)
  (case c1=>k_is)
  (case k1=>k_is)
  (case a2=>k_is)
  (case l2=>k_is)
  (case c2=>k_is)
  (case k2=>k_is)
  (case a3=>k_is)
  (case l3=>k_is)
  (case c3=>k_is)
  (case k3=>k_is)
  (case a4=>k_is)
  (case l4=>k_is)
  (case c4=>k_is)
  (case k4=>k_is)
  (case a5=>k_is)
  (case l5=>k_is)
  (case c5=>k_is)
  (case k5=>k_is)
  (case a6=>k_is)
  (case l6=>k_is)
  (case c6=>k_is)
  (case k6=>k_is)
  (case a7=>k_is)
  (case l7=>k_is)
  (case c7=>k_is)
  (case k7=>k_is)
  (case a8=>k_is)
  (case l8=>k_is)
  (case c8=>k_is)
  (case k8=>k_is)
  (case a9=>k_is)
  (case l9=>k_is)
  (case c9=>k_is)
  (case k9=>k_is)
  (case a10=>k_is)
  (case l10=>k_is)
  (case c10=>k_is)
  (case k10=>k_is)
  (case a11=>k_is)
  (case l11=>k_is)
  (case c11=>k_is)
  (case k11=>k_is)
  (case a12=>k_is)
  (case l12=>k_is)
  (case c12=>k_is)
  (case k12=>k_is)
  (case a13=>k_is)
  (case l13=>k_is)
  (case c13=>k_is)
  (case k13=>k_is)
  (case a14=>k_is)
  (case l14=>k_is)
  (case c14=>k_is)
  (case k14=>k_is)
  (case a15=>k_is)
  (case l15=>k_is)
  (case c15=>k_is)
  (case k15=>k_is)
  (case a16=>k_is)
  (case l16=>k_is)
  (case c16=>k_is)
  (case k16=>k_is)
  (case a17=>k_is)
  (case l17=>k_is)
  (case c17=>k_is)
  (case k17=>k_is)
  (case a18=>k_is)
  (case l18=>k_is)
  (case c18=>k_is)
  (case k18=>k_is)
  (case a19=>k_is)
  (case l19=>k_is)
  (case c19=>k_is)
  (case k19=>k_is)
  (case a20=>k_is)
  (case l20=>k_is)
  (case c20=>k_is)
  (case k20=>k_is)
  (case a21=>k_is)
  (case l21=>k_is)
  (case c21=>k_is)
  (case k21=>k_is)
  (case a22=>k_is)
  (case l22=>k_is)
  (case c22=>k_is)
  (case k22=>k_is)
  (case a23=>k_is)
  (case l23=>k_is)
  (case c23=>k_is)
  (case k23=>k_is)
  (case a24=>k_is)
  (case l24=>k_is)
  (case c24=>k_is)
  (case k24=>k_is)
  (case a25=>k_is)
  (case l25=>k_is)
  (case c25=>k_is)
  (case k25=>k_is)
  (case a26=>k_is)
  (case l26=>k_is)
  (case c26=>k_is)
  (case k26=>k_is)
  (case a27=>k_is)
  (case l27=>k_is)
  (case c27=>k_is)
  (case k27=>k_is)
  (case a28=>k_is)
  (case l28=>k_is)
  (case c28=>k_is)
  (case k28=>k_is)
  (case a29=>k_is)
  (case l29=>k_is)
  (case c29=>k_is)
  (case k29=>k_is)
  (case a30=>k_is)
  (case l30=>k_is)
  (case c30=>k_is)
  (case k30=>k_is)
  (case a31=>k_is)
  (case l31=>k_is)
  (case c31=>k_is)
  (case k31=>k_is)
  (case a32=>k_is)
  (case l32=>k_is)
  (case c32=>k_is)
  (case k32=>k_is)
  (case a33=>k_is)
  (case l33=>k_is)
  (case c33=>k_is)
  (case k33=>k_is)
  (case a34=>k_is)
  (case l34=>k_is)
  (case c34=>k_is)
  (case k34=>k_is)
  (case a35=>k_is)
  (case l35=>k_is)
  (case c35=>k_is)
  (case k35=>k_is)
  (case a36=>k_is)
  (case l36=>k_is)
  (case c36=>k_is)
  (case k36=>k_is)
  (case a37=>k_is)
  (case l37=>k_is)
  (case c37=>k_is)
  (case k37=>k_is)
  (case a38=>k_is)
  (case l38=>k_is)
  (case c38=>k_is)
  (case k38=>k_is)
  (case a39=>k_is)
  (case l39=>k_is)
  (case c39=>k_is)
  (case k39=>k_is)
  (case a40=>k_is)
  (case l40=>k_is)
  (case c40=>k_is)
  (case k40=>k_is)
  (case a41=>k_is)
  (case l41=>k_is)
  (case c41=>k_is)
  (case k41=>k_is)
  (case a42=>k_is)
  (case l42=>k_is)
  (case c42=>k_is)
  (case k42=>k_is)
  (case a43=>k_is)
  (case l43=>k_is)
  (case c43=>k_is)
  (case k43=>k_is)
  (case a44=>k_is)
  (case l44=>k_is)
  (case c44=>k_is)
  (case k44=>k_is)
  (case a45=>k_is)
  (case l45=>k_is)
  (case c45=>k_is)
  (case k45=>k_is)
  (case a46=>k_is)
  (case l46=>k_is)
  (case c46=>k_is)
  (case k46=>k_is)
  (case a47=>k_is)
  (case l47=>k_is)
  (case c47=>k_is)
  (case k47=>k_is)
  (case a48=>k_is)
  (case l48=>k_is)
  (case c48=>k_is)
  (case k48=>k_is)
  (case a49=>k_is)
  (case l49=>k_is)
  (case c49=>k_is)
  (case k49=>k_is)
  (case a50=>k_is)
  (case l50=>k_is)
  (case c50=>k_is)
  (case k50=>k_is)
  (case a51=>k_is)
  (case l51=>k_is)
  (case c51=>k_is)
  (case k51=>k_is)
  (case a52=>k_is)
  (case l52=>k_is)
  (case c52=>k_is)
  (case k52=>k_is)
  (case a53=>k_is)
  (case l53=>k_is)
  (case c53=>k_is)
  (case k53=>k_is)
  (case a54=>k_is)
  (case l54=>k_is)
  (case c54=>k_is)
  (case k54=>k_is)
  (case a55=>k_is)
  (case l55=>k_is)
  (case c55=>k_is)
  (case k55=>k_is)
  (case a56=>k_is)
  (case l56=>k_is)
  (case c56=>k_is)
  (case k56=>k_is)
  (case a57=>k_is)
  (case l57=>k_is)
  (case c57=>k_is)
  (case k57=>k_is)
  (case a58=>k_is)
  (case l58=>k_is)
  (case c58=>k_is)
  (case k58=>k_is)
  (case a59=>k_is)
  (case l59=>k_is)
  (case c59=>k_is)
  (case k59=>k_is)
  (case a60=>k_is)
  (case l60=>k_is)
  (case c60=>k_is)
  (case k60=>k_is)
  (case a61=>k_is)
  (case l61=>k_is)
  (case c61=>k_is)
  (case k61=>k_is)
  (case a62=>k_is)
  (case l62=>k_is)
  (case c62=>k_is)
  (case k62=>k_is)
  (case a63=>k_is)
  (case l63=>k_is)
  (case c63=>k_is)
  (case k63=>k_is)
  (case a64=>k_is)
  (case l64=>k_is)
  (case c64=>k_is)
  (case k64=>k_is)
  (case a65=>k_is)
  (case l65=>k_is)
  (case c65=>k_is)
  (case k65=>k_is)
  (case z1=>k_is)
  (case z2=>k_is)
  (case z3=>k_is)
  (case z4=>k_is)
  (case z5=>k_is)
  (case z6=>k_is)
  (case z7=>k_is)
  (case z8=>k_is)
  (case z9=>k_is)
  (case z10=>k_is)
  (case z11=>k_is)
  (case z12=>k_is)
  (case v1=>k_is)
  (case v2=>k_is)
  (case v3=>k_is)
  (case v4=>k_is)
  (case v5=>k_is)
  (case v6=>k_is)
  (case v7=>k_is)
  (case u7=>k_is)
  (case v8=>k_is)
  (case ca_Bits=>k_is)
  (case pg_Bits=>k_is)
  (case hd_Bits=>k_is)
  (case po_Bits=>k_is)
  (case sa_Bits=>k_is)
  (case mk_Bits=>k_is)
  (case kc_Bits=>k_is)
  (case n_Bits_row=>k_is)
  (case n_Bits_place=>k_is)
  (case ca_E6=>k_is)
  (case pg_E6=>k_is)
  (case hd_E6=>k_is)
  (case po_E6=>k_is)
  (case sa_E6=>k_is)
  (case mk_E6=>k_is)
  (case kc_E6=>k_is)
  (case n_Drawer_bits=>k_is)
  (case n_Drawer_steps=>k_is)
  (case ca_E7=>k_is)
  (case pg_E7=>k_is)
  (case hd_E7=>k_is)
  (case po_E7=>k_is)
  (case sa_E7=>k_is)
  (case mk_E7=>k_is)
  (case kc_E7=>k_is)
  (case n_Keeper_bits=>k_is)
  (case n_Keeper_most=>k_is)
  (case n_Keeper_number=>k_is)
  (case n_Keeper_size=>k_is)
  (case ca_Kept=>k_is)
  (case pg_Kept=>k_is)
  (case hd_Kept=>k_is)
  (case po_Kept=>k_is)
  (case sa_Kept=>k_is)
  (case mk_Kept=>k_is)
  (case kc_Kept=>k_is)
  (case n_Kept_bits=>k_is)
  (case n_Kept_most=>k_is)
  (case n_Kept_things=>k_is)
  (case n_Kept_came=>k_is)
  (case a66=>k_is)
  (case i66=>k_is)
  (case l66=>k_is)
  (case c66=>k_is)
  (case k66=>k_is)
  (case a67=>k_is)
  (case i67=>k_is)
  (case l67=>k_is)
  (case c67=>k_is)
  (case k67=>k_is)
  (case a68=>k_is)
  (case i68=>k_is)
  (case l68=>k_is)
  (case c68=>k_is)
  (case k68=>k_is)
  (case a69=>k_is)
  (case i69=>k_is)
  (case l69=>k_is)
  (case c69=>k_is)
  (case k69=>k_is)
  (case a70=>k_is)
  (case i70=>k_is)
  (case l70=>k_is)
  (case c70=>k_is)
  (case k70=>k_is)
  (case a71=>k_is)
  (case i71=>k_is)
  (case l71=>k_is)
  (case c71=>k_is)
  (case k71=>k_is)
  (case a72=>k_is)
  (case i72=>k_is)
  (case l72=>k_is)
  (case c72=>k_is)
  (case k72=>k_is)
  (case a73=>k_is)
  (case i73=>k_is)
  (case l73=>k_is)
  (case c73=>k_is)
  (case k73=>k_is)
  (case a74=>k_is)
  (case i74=>k_is)
  (case l74=>k_is)
  (case c74=>k_is)
  (case k74=>k_is)
  (case a75=>k_is)
  (case i75=>k_is)
  (case l75=>k_is)
  (case c75=>k_is)
  (case k75=>k_is)
  (case a76=>k_is)
  (case i76=>k_is)
  (case l76=>k_is)
  (case c76=>k_is)
  (case k76=>k_is)
  (case a77=>k_is)
  (case i77=>k_is)
  (case l77=>k_is)
  (case c77=>k_is)
  (case k77=>k_is)
  (case a78=>k_is)
  (case i78=>k_is)
  (case l78=>k_is)
  (case c78=>k_is)
  (case k78=>k_is)
  (case a79=>k_is)
  (case i79=>k_is)
  (case l79=>k_is)
  (case c79=>k_is)
  (case k79=>k_is)
  (case a80=>k_is)
  (case i80=>k_is)
  (case l80=>k_is)
  (case c80=>k_is)
  (case k80=>k_is)
  (case a81=>k_is)
  (case i81=>k_is)
  (case l81=>k_is)
  (case c81=>k_is)
  (case k81=>k_is)
  (case a82=>k_is)
  (case i82=>k_is)
  (case l82=>k_is)
  (case c82=>k_is)
  (case k82=>k_is)
  (case xa_E0=>k_is)
  (case xl_E0=>k_is)
  (case xi_E0=>first|kernel_rfl|rfl|decide +kernel|k_is)
  (case xa_E1=>k_is)
  (case xl_E1=>k_is)
  (case xi_E1=>first|kernel_rfl|rfl|decide +kernel|k_is)
  (case xa_E2=>k_is)
  (case xl_E2=>k_is)
  (case xi_E2=>first|kernel_rfl|rfl|decide +kernel|k_is)
  (case xa_E3=>k_is)
  (case xl_E3=>k_is)
  (case xi_E3=>first|kernel_rfl|rfl|decide +kernel|k_is)
  (case xa_E4=>k_is)
  (case xl_E4=>k_is)
  (case xi_E4=>first|kernel_rfl|rfl|decide +kernel|k_is)
  (case xa_E5=>k_is)
  (case xl_E5=>k_is)
  (case xi_E5=>first|kernel_rfl|rfl|decide +kernel|k_is)
  (case xm_E0_E0=>first|kernel_rfl|rfl|decide +kernel|k_is)
  (case xm_E0_E1=>first|kernel_rfl|rfl|decide +kernel|k_is)
  (case xm_E0_E2=>first|kernel_rfl|rfl|decide +kernel|k_is)
  (case xm_E0_E3=>first|kernel_rfl|rfl|decide +kernel|k_is)
  (case xm_E0_E4=>first|kernel_rfl|rfl|decide +kernel|k_is)
  (case xm_E0_E5=>first|kernel_rfl|rfl|decide +kernel|k_is)
  (case xm_E1_E0=>first|kernel_rfl|rfl|decide +kernel|k_is)
  (case xm_E1_E1=>first|kernel_rfl|rfl|decide +kernel|k_is)
  (case xm_E1_E2=>first|kernel_rfl|rfl|decide +kernel|k_is)
  (case xm_E1_E3=>first|kernel_rfl|rfl|decide +kernel|k_is)
  (case xm_E1_E4=>first|kernel_rfl|rfl|decide +kernel|k_is)
  (case xm_E1_E5=>first|kernel_rfl|rfl|decide +kernel|k_is)
  (case xm_E2_E0=>first|kernel_rfl|rfl|decide +kernel|k_is)
  (case xm_E2_E1=>first|kernel_rfl|rfl|decide +kernel|k_is)
  (case xm_E2_E2=>first|kernel_rfl|rfl|decide +kernel|k_is)
  (case xm_E2_E3=>first|kernel_rfl|rfl|decide +kernel|k_is)
  (case xm_E2_E4=>first|kernel_rfl|rfl|decide +kernel|k_is)
  (case xm_E2_E5=>first|kernel_rfl|rfl|decide +kernel|k_is)
  (case xm_E3_E0=>first|kernel_rfl|rfl|decide +kernel|k_is)
  (case xm_E3_E1=>first|kernel_rfl|rfl|decide +kernel|k_is)
  (case xm_E3_E2=>first|kernel_rfl|rfl|decide +kernel|k_is)
  (case xm_E3_E3=>first|kernel_rfl|rfl|decide +kernel|k_is)
  (case xm_E3_E4=>first|kernel_rfl|rfl|decide +kernel|k_is)
  (case xm_E3_E5=>first|kernel_rfl|rfl|decide +kernel|k_is)
  (case xm_E4_E0=>first|kernel_rfl|rfl|decide +kernel|k_is)
  (case xm_E4_E1=>first|kernel_rfl|rfl|decide +kernel|k_is)
  (case xm_E4_E2=>first|kernel_rfl|rfl|decide +kernel|k_is)
  (case xm_E4_E3=>first|kernel_rfl|rfl|decide +kernel|k_is)
  (case xm_E4_E4=>first|kernel_rfl|rfl|decide +kernel|k_is)
  (case xm_E4_E5=>first|kernel_rfl|rfl|decide +kernel|k_is)
  (case xm_E5_E0=>first|kernel_rfl|rfl|decide +kernel|k_is)
  (case xm_E5_E1=>first|kernel_rfl|rfl|decide +kernel|k_is)
  (case xm_E5_E2=>first|kernel_rfl|rfl|decide +kernel|k_is)
  (case xm_E5_E3=>first|kernel_rfl|rfl|decide +kernel|k_is)
  (case xm_E5_E4=>first|kernel_rfl|rfl|decide +kernel|k_is)
  (case xm_E5_E5=>first|kernel_rfl|rfl|decide +kernel|k_is)
  (case ex_xok=>first|kernel_rfl|rfl|decide +kernel|k_is)
