import PyProof.Rows.All
import Wide.All
import OpenK.AllK
import Wide.FinOn
import Lean
import PyProof.EqAt
import PyProof.EqKinds
import PyProof.TupleCall
import KE.KRevIter
import PyProof.ListRange
import PyProof.TupleOfGen
import PyProof.Draws
import PyProof.EnumMake
import PyProof.EnumFor
import PyProof.NeKinds
import KE.KDictList
import PyProof.Rows.TupDisplay
import PyProof.ZipIter
import PyProof.Rows.ZipGen
import KE.KItemsList
import PyProof.Rows.SumAny
import PyProof.StrWalks
import PyProof.StrCalls
import PyProof.StrCalls3
import PyProof.StrLawsFirst
import PyProof.StrLawsIn
import PyProof.SliceStr2
import PyProof.StrBlockI
import PyProof.Rows.StrWeight2
import PyProof.ListNew
import PyProof.DictRoadsH
import PyProof.WalkInts
import PyProof.Rows.MinMaxN
import KE.KDictLaws
import PyProof.StrCalls2
import PyProof.StrLawsChain
import KE.KIntText
import KE.KxText
import KE.KMinKey
import KE.KPairComp
import PyProof.MaxThree
import PyProof.DictValues
import OpenK.KCls
import PyProof.Rows.SortShellK
import KE.KSortTup
import KE.KLam
import KE.KNestM
import PySem.Challenge.RW_guessroom_k22_suite_words
set_option Elab.async false
set_option linter.all false
set_option maxRecDepth 100000
namespace L2
open PySem PySem.Spec PyProof.Rows
abbrev Key:=Sum Int Str
def keyIs:Key->Value->Bool
 |.inl k,v=>Value.isInt k v
 |.inr x,v=>Value.isStrOf x v
def keyH (w:World):Key->Int
 |.inl k=>hashInt k
 |.inr x=>hashStr w x
theorem keyIs_shape:∀{k:Key} {v:Value},keyIs k v=true->(∃i t,k=Sum.inl i/\v=Value.int i t)\/(∃x t,k=Sum.inr x/\v=Value.str x t)
 |.inl i,v,h=>by
  obtain⟨t,e⟩:=Value.isInt_shape (k:=i) (v:=v) h
  exact .inl ⟨i,t,rfl,e⟩
 |.inr x,v,h=>by
  obtain⟨t,e⟩:=Value.isStrOf_shape (x:=x) (v:=v) h
  exact .inr ⟨x,t,rfl,e⟩
theorem keyIs_int (i:Int)(t:Tok):keyIs (.inl i) (.int i t)=true:=by simp[keyIs,Value.isInt]
theorem keyIs_str (x:Str)(t:Tok):keyIs (.inr x) (.str x t)=true:=by simp[keyIs,Value.isStrOf]
theorem key_ll (a b:Int):decide ((Sum.inl a:Key)=Sum.inl b)=(a==b):=by
 by_cases e:a=b
 ·subst e;simp
 ·have h:¬ (Sum.inl a:Key)=Sum.inl b:=fun q=>e (Sum.inl.inj q)
  rw[decide_eq_false h]
  exact (beq_eq_false_iff_ne.mpr e).symm
theorem key_rr (a b:Str):decide ((Sum.inr a:Key)=Sum.inr b)=decide (a=b):=by
 by_cases e:a=b
 ·subst e;simp
 ·have h:¬ (Sum.inr a:Key)=Sum.inr b:=fun q=>e (Sum.inr.inj q)
  rw[decide_eq_false h,decide_eq_false e]
theorem key_lr (a:Int)(b:Str):decide ((Sum.inl a:Key)=Sum.inr b)=false:=decide_eq_false (fun q=>nomatch q)
theorem key_rl (a:Str)(b:Int):decide ((Sum.inr a:Key)=Sum.inl b)=false:=decide_eq_false (fun q=>nomatch q)
def mixKind (prog:Program)(w:World):PySem.KeyKind prog w Key where
 is:=keyIs
 hash:=keyH w
 inj:=fun v a b ha hb=>by
  rcases keyIs_shape ha with ⟨i,t,rfl,rfl⟩|⟨x,t,rfl,rfl⟩
  ·rcases keyIs_shape hb with ⟨j,u,rfl,e⟩|⟨y,u,rfl,e⟩
   ·injection e with e1 _;rw[e1]
   ·exact nomatch e
  ·rcases keyIs_shape hb with ⟨j,u,rfl,e⟩|⟨y,u,rfl,e⟩
   ·exact nomatch e
   ·injection e with e1 _;rw[e1]
 byValue:=fun k v h=>by
  rcases keyIs_shape h with ⟨i,t,rfl,rfl⟩|⟨x,t,rfl,rfl⟩<;>rfl
 pyHash:=fun hv h=>by
  rcases keyIs_shape hv with ⟨i,t,rfl,rfl⟩|⟨x,t,rfl,rfl⟩
  ·exact wpAny_pyHash_int h
  ·exact wpAny_pyHash_str h
 eqBool:=fun hu hv h=>by
  rcases keyIs_shape hu with ⟨i,t,rfl,rfl⟩|⟨x,t,rfl,rfl⟩
  ·rcases keyIs_shape hv with ⟨j,u,rfl,rfl⟩|⟨y,u,rfl,rfl⟩
   ·rw[key_ll]at h;exact wpAny_eqBool_int h
   ·rw[key_lr]at h;exact SeqAt.EqAt.int_str i t y u _ _ _ _ h
  ·rcases keyIs_shape hv with ⟨j,u,rfl,rfl⟩|⟨y,u,rfl,rfl⟩
   ·rw[key_rl]at h;exact SeqAt.EqAt.str_int x t j u _ _ _ _ h
   ·rw[key_rr]at h;exact wpAny_eqBool_str h
 «strs» := fun k x t v h=>by
  rcases keyIs_shape h with ⟨i,u,rfl,e⟩|⟨y,u,rfl,e⟩
  ·exact nomatch e
  ·injection e with e1 _
   subst e1
   cases v<;>rfl
theorem mixKind_int (prog:Program)(w:World)(i:Int)(t:Tok):(mixKind prog w).is (.inl i) (.int i t)=true:=keyIs_int i t
theorem mixKind_str (prog:Program)(w:World)(x:Str)(t:Tok):(mixKind prog w).is (.inr x) (.str x t)=true:=keyIs_str x t
inductive V where
 | non|bl (b:Bool)|int (i:Int)|str (x:Str)|byt (b:Array UInt8)|flt (b:UInt64)|ref (a:Addr)|ty (n:String)
 deriving DecidableEq
def RelV:V->Value->Prop
 |.non,u=>u=Value.none
 |.bl b,u=>u=Value.bool b
 |.int i,u=>∃t,u=Value.int i t
 |.str x,u=>∃t,u=Value.str x t
 |.byt b,u=>∃t,u=Value.bytes b t
 |.flt b,u=>∃t,u=Value.float b t
 |.ref a,u=>u=Value.ref a
 |.ty n,u=>u=Value.type n
abbrev Vals:List V->List Value->Prop:=Paired RelV
theorem Vals.length {xs:List V}{us:List Value}(r:Vals xs us):xs.length=us.length:=Paired.length r
theorem Vals.get:∀{xs:List V} {us:List Value} {i:Nat} {x:V},Vals xs us->xs[i]?=some x->∃u,us[i]?=some u/\RelV x u
 |_,_,_,_,.nil,e=>by simp at e
 |_,_,0,_,.cons r _,e=>by simp at e;subst e;exact⟨_,rfl,r⟩
 |_,_,i+1,x,.cons _ t,e=>by
  obtain⟨u,h1,h2⟩:=Vals.get (i:=i) (x:=x) t (by simpa using e)
  exact⟨u,by simpa using h1,h2⟩
theorem Vals.set {x:V}{u:Value}(r:RelV x u):∀{xs:List V} {us:List Value} (i:Nat),Vals xs us->Vals (xs.set i x) (us.set i u)
 |_,_,_,.nil=>.nil
 |_,_,0,.cons _ t=>.cons r t
 |_,_,i+1,.cons q t=>.cons q (Vals.set r i t)
theorem Vals.append:∀{xs ys:List V} {us ws:List Value},Vals xs us->Vals ys ws->Vals (xs++ys) (us++ws)
 |_,_,_,_,.nil,s=>s
 |_,_,_,_,.cons r t,s=>.cons r (Vals.append t s)
theorem Vals.take:∀{xs:List V} {us:List Value} (n:Nat),Vals xs us->Vals (xs.take n) (us.take n)
 |_,_,0,_=>.nil
 |_,_,_+1,.nil=>.nil
 |_,_,n+1,.cons r t=>.cons r (Vals.take n t)
theorem Vals.drop:∀{xs:List V} {us:List Value} (n:Nat),Vals xs us->Vals (xs.drop n) (us.drop n)
 |_,_,0,r=>r
 |_,_,_+1,.nil=>.nil
 |_,_,n+1,.cons _ t=>Vals.drop n t
def RelO:Option V->Option Value->Prop
 |some v,some u=>RelV v u
 |none,none=>True
 |_,_=>False
def KV {κ:Type}:List (κ×V)->List (κ×Value)->Prop:=Paired fun (p:κ×V) (q:κ×Value)=>p.1=q.1/\RelV p.2 q.2
def kV:Key->V
 |.inl i=>.int i
 |.inr x=>.str x
inductive HO where
 | lst (xs:List V)
 | tup (xs:List V)
 | dK (kvs:List (Key×V))|dT (kvs:List (List Key×V))
 | set (S:Int->Bool) (n:Nat)
 | ins (C dx:Addr) (fs:List (Str×V))
 | own (x:Addr)
 | xd (fs:List (Str×V))
 | met (f x:Addr)
 | rng (lo hi:Int)
 | frz (o:Obj) (u:HO)
 | tbl (ps:Array Value)
 | ext (φ:Heap->Prop)
abbrev Hp:=Addr->Option HO
def upd (H:Hp)(a:Addr)(o:HO):Hp:=fun b=>if b=a then some o else H b
theorem upd_same {H:Hp}{a:Addr}{o:HO}:upd H a o a=some o:=by unfold upd;rw[if_pos rfl]
theorem upd_ne {H:Hp}{a b:Addr}{o:HO}(h:b≠a):upd H a o b=H b:=by unfold upd;rw[if_neg h]
theorem ne_of {H:Hp}{a b:Addr}{o u:HO}(h:H a=some o)(h':H b=some u)(d:o≠u):a≠b:=by
 intro e;subst e;rw[h]at h';exact d (Option.some.inj h')
theorem ne_of_none {H:Hp}{a b:Addr}{o:HO}(h:H a=some o)(h':H b=none):a≠b:=by
 intro e;subst e;rw[h]at h';cases h'
section
variable (P:Program) (w:World)
def ObjOk (H:Hp)(h:Heap)(a:Addr):HO->Prop
 |.lst xs=>xs.length<=sizeLine/\∃(its:List Value) (n:Nat),Vals xs its/\h.get? a=some {cls:=.type "list",data:=.seq its.toArray n}
 |.tup xs=>xs.length<=sizeLine/\∃its:List Value,Vals xs its/\IsTup h a its.toArray
 |.dK kvs=>kvs.length<=sizeLine/\(a==sysModules)=false/\∃vs,KV kvs vs/\h.DictOf (mixKind P w) a vs
 |.dT kvs=>kvs.length<=sizeLine/\(a==sysModules)=false/\∃xs:List (List Key×Addr×Value),
   Paired (fun (p:List Key×V) (q:List Key×Addr×Value)=>p.1=q.1/\H q.2.1=some (.tup (p.1.map kV))/\RelV p.2 q.2.2) kvs xs /\
   ∃o es ep,h.get? a=some o/\o.ExactDict/\o.data=.dict es ep/\es.toList=xs.map (entryOfKey (tupleKind (mixKind P w)))/\(xs.map (·.1)).Nodup
 |.set S n=>h.SetOf (intKind P w) a S n
 |.ins C dx fs=>H dx=some (.own a)/\fs.length<=1000/\dx≠a/\h.get? a=some (PySem.W.instObj C dx) /\
   ∃mA,h.Ns1 dx mA/\(∀f,RelO (fs.lookup f) (mA f))/\PySem.Within mA (fs.map (·.1))
 |.own _=>∃o,h.get? a=some o
 |.xd fs=>∃mA,h.Ns1 a mA/\∀f,RelO (fs.lookup f) (mA f)
 |.rng lo hi=>∃t u v,h.get? a=some {cls:=.type "range",data:=.fields #[.int lo t,.int hi u,.int 1 v]}
 |.frz o u=>h.get? a=some o/\ObjOk H h a u
 |.tbl ps=>h.get? a=some {cls:=.none,data:=.fields ps}
 |.met f x=>h.get? a=some (PySem.W.methodObj (.ref f) (.ref x))
 |.ext φ=>φ h/\(∃o,h.get? a=some o)/\∀h1 h2:Heap,φ h1->(∀o,h1.get? a=some o->h2.get? a=some o)->φ h2
def HOk (H:Hp)(h:Heap):Prop:=∀a o,H a=some o->ObjOk P w H h a o
end
section
variable {P:Program} {w:World} {H H':Hp} {h h':Heap} {a:Addr} {o:HO}
theorem ObjOk.lt (x:ObjOk P w H h a o):a<h.objs.size:=by
 cases o with
 |lst xs=>obtain⟨_,_,_,_,e⟩:=x;exact Heap.lt_size e
 |tup xs=>obtain⟨_,_,_,p⟩:=x;exact p.lt
 |dK kvs=>obtain⟨_,_,_,_,o,_,_,e,_⟩:=x;exact Heap.lt_size e
 |dT kvs=>obtain⟨_,_,_,_,o,_,_,e,_⟩:=x;exact Heap.lt_size e
 |set S n=>obtain⟨o,_,_,_,e,_⟩:=x;exact Heap.lt_size e
 |ins C dx fs=>obtain⟨_,_,_,e,_⟩:=x;exact Heap.lt_size e
 |own y=>obtain⟨_,e⟩:=x;exact Heap.lt_size e
 |xd fs=>obtain⟨_,⟨_,_,_,e,_⟩,_⟩:=x;exact Heap.lt_size e
 |rng lo hi=>obtain⟨_,_,_,e⟩:=x;exact Heap.lt_size e
 |frz ob u=>obtain⟨e,_⟩:=x;exact Heap.lt_size e
 |tbl ps=>exact Heap.lt_size (show h.get? a=some _ from x)
 |met f y=>exact Heap.lt_size (show h.get? a=some _ from x)
 |ext φ=>obtain⟨_,⟨_,e⟩,_⟩:=x;exact Heap.lt_size e
theorem Paired.mapP {α β:Type}{F G:α->β->Prop}:∀{l₁:List α} {l₂:List β},Paired F l₁ l₂->(∀a b,F a b->G a b)->Paired G l₁ l₂
 |_,_,.nil,_=>.nil
 |_,_,.cons r t,f=>.cons (f _ _ r) (Paired.mapP t f)
theorem ObjOk.stay (x:ObjOk P w H h a o)(k:∀b u,(b=a\/H b=some (.own a))->h.get? b=some u->h'.get? b=some u)
  (ho:∀b,H b=some (.own a)->H' b=some (.own a)) (ht:∀b xs,H b=some (.tup xs)->H' b=some (.tup xs)):ObjOk P w H' h' a o:=by
 induction o with
 |lst xs=>obtain⟨z,its,n,r,e⟩:=x;exact⟨z,its,n,r,k _ _ (.inl rfl) e⟩
 |tup xs=>obtain⟨z,its,r,ob,e,c⟩:=x;exact⟨z,its,r,ob,k _ _ (.inl rfl) e,c⟩
 |dK kvs=>obtain⟨z,y,vs,r,ob,es,ep,e,c⟩:=x;exact⟨z,y,vs,r,ob,es,ep,k _ _ (.inl rfl) e,c⟩
 |dT kvs=>
  obtain⟨z,y,xs,r,ob,es,ep,e,c⟩:=x
  exact⟨z,y,xs,Paired.mapP r fun p q z=>⟨z.1,ht _ _ z.2.1,z.2.2⟩,ob,es,ep,k _ _ (.inl rfl) e,c⟩
 |set S n=>obtain⟨ob,es,ep,t,e,c⟩:=x;exact⟨ob,es,ep,t,k _ _ (.inl rfl) e,c⟩
 |ins C dx fs=>
  obtain⟨d,z,ne,e,mA,⟨od,es,ep,e2,c⟩,r⟩:=x
  exact⟨ho _ d,z,ne,k _ _ (.inl rfl) e,mA,⟨od,es,ep,k _ _ (.inr d) e2,c⟩,r⟩
 |own y=>obtain⟨ob,e⟩:=x;exact⟨ob,k _ _ (.inl rfl) e⟩
 |xd fs=>obtain⟨mA,⟨od,es,ep,e,c⟩,r⟩:=x;exact⟨mA,⟨od,es,ep,k _ _ (.inl rfl) e,c⟩,r⟩
 |rng lo hi=>obtain⟨t,u,v,e⟩:=x;exact⟨t,u,v,k _ _ (.inl rfl) e⟩
 |frz ob u ih=>obtain⟨e,q⟩:=x;exact⟨k _ _ (.inl rfl) e,ih q⟩
 |tbl ps=>
  have e:h.get? a=some {cls:=.none,data:=.fields ps}:=x
  show h'.get? a=some {cls:=.none,data:=.fields ps}
  exact k a _ (.inl rfl) e
 |met f y=>
  have e:h.get? a=some (PySem.W.methodObj (.ref f) (.ref y)):=x
  show h'.get? a=some (PySem.W.methodObj (.ref f) (.ref y))
  exact k a _ (.inl rfl) e
 |ext φ=>obtain⟨p,⟨o,e⟩,st⟩:=x;exact⟨st _ _ p fun o q=>k _ _ (.inl rfl) q,⟨o,k _ _ (.inl rfl) e⟩,st⟩
theorem HOk.lt (x:HOk P w H h)(e:H a=some o):a<h.objs.size:=(x a o e).lt
theorem HOk.fresh (x:HOk P w H h)(e:h.objs.size<=a):H a=none:=by
 cases q:H a with
 |none=>rfl
 |some u=>exact absurd (Nat.lt_of_lt_of_le (x.lt q) e) (Nat.lt_irrefl _)
theorem HOk.kept (x:HOk P w H h)(k:∀b u,h.get? b=some u->h'.get? b=some u):HOk P w H h':=fun a o e=>
 (x a o e).stay (fun b u _ q=>k b u q) (fun _ q=>q) fun _ _ q=>q
theorem HOk.laid (x:HOk P w H h)(k:∀b u,h.get? b=some u->h'.get? b=some u)(hp:h.objs.size<=a)(new:ObjOk P w (upd H a o) h' a o):HOk P w (upd H a o) h':=fun b u e=>by
 have hn:=x.fresh hp
 by_cases hb:b=a
 ·subst hb;rw[upd_same]at e;cases e;exact new
 ·rw[upd_ne hb]at e
  exact (x b u e).stay (fun c v _ q=>k c v q) (fun c q=>by rw[upd_ne (ne_of_none q hn)];exact q) fun c xs q=>by rw[upd_ne (ne_of_none q hn)];exact q
end
def Rd (H:Hp)(a:Addr)(u:HO):Prop:=H a=some u \/ ∃o,H a=some (.frz o u)
theorem Rd.ok {P:Program}{w:World}{H:Hp}{h:Heap}{a:Addr}{u:HO}(r:Rd H a u)(x:HOk P w H h):ObjOk P w H h a u:=by
 rcases r with r|⟨o,r⟩
 ·exact x a u r
 ·obtain⟨_,q⟩:=x a _ r
  exact q
def Mut:Option HO->Prop
 |some (.lst _)=>True
 |some (.dK _)=>True
 |some (.dT _)=>True
 |some (.set _ _)=>True
 |some (.ins _ _ _)=>True
 |some (.ext _)=>True
 |_=>False
section
variable {P:Program} {w:World} {H:Hp} {h h':Heap} {x e:Addr} {o':HO}
theorem HOk.write (ok:HOk P w H h)(mu:Mut (H x))(he:e=x\/H e=some (.own x))(k:∀b u,b≠e->h.get? b=some u->h'.get? b=some u)(heo:∃u,h'.get? e=some u)
  (new:ObjOk P w (upd H x o') h' x o'):HOk P w (upd H x o') h':=fun b u q=>by
 have nown:∀c y,H c=some (.own y)->c≠x:=fun c y r z=>by subst z;rw[r]at mu;exact mu
 have ntup:∀c xs,H c=some (.tup xs)->c≠x:=fun c xs r z=>by subst z;rw[r]at mu;exact mu
 by_cases hb:b=x
 ·subst hb;rw[upd_same]at q;cases q;exact new
 ·rw[upd_ne hb]at q
  by_cases hbe:b=e
  ·have q':H b=some (.own x):=by
    rcases he with z|z
    ·exact absurd (hbe.trans z) hb
    ·rw[hbe];exact z
   rw[q]at q';cases q'
   obtain⟨v,hv⟩:=heo
   exact⟨v,by rw[hbe];exact hv⟩
  ·refine (ok b u q).stay (fun c v hc r=>k c v ?_ r) (fun c r=>by rw[upd_ne (nown c b r)];exact r) fun c xs r=>by rw[upd_ne (ntup c xs r)];exact r
   rcases hc with rfl|hc
   ·exact hbe
   ·rintro rfl
    rcases he with z|z
    ·exact nown c b hc z
    ·rw[hc]at z;cases z;exact hb rfl
end
structure Un (fs ex:List Addr)(H H':Hp)(h h':Heap):Prop where
 keep:∀b o,h.get? b=some o->H b=none->b∉fs->b∉ex->h'.get? b=some o
 slot:∀b o,h.get? b=some o->H b=none->b∈fs->b∉ex->∃sl,h'.get? b=some {o with slots:=sl}
 free:∀b o,h.get? b=some o->H b=none->b∉ex->H' b=none
 there:∀b o,h.get? b=some o->b∉ex->∃o',h'.get? b=some o'
 tups:∀b xs,H b=some (.tup xs)->H' b=some (.tup xs)
 frzs:∀b o u,H b=some (.frz o u)->H' b=some (.frz o u)
 tbls:∀b ps,H b=some (.tbl ps)->∃more,H' b=some (.tbl (ps++more))
section
variable {fs fs' ex ex':List Addr} {H H1 H2:Hp} {h h1 h2 h':Heap} {a x e:Addr} {o:HO}
theorem Un.any (u:Un fs ex H H1 h h1){b:Addr}{ob:Obj}(q:h.get? b=some ob)(n:H b=none)(hx:b∉ex):∃sl,h1.get? b=some {ob with slots:=sl}:=by
 by_cases hb:b∈fs
 ·exact u.slot b ob q n hb hx
 ·exact⟨ob.slots,u.keep b ob q n hb hx⟩
theorem Un.kept (k:∀b u,h.get? b=some u->h'.get? b=some u):Un fs ex H H h h' :=
 ⟨fun b ob q _ _ _=>k b ob q,fun b ob q _ _ _=>⟨ob.slots,k b ob q⟩,fun _ _ _ n _=>n,fun b ob q _=>⟨ob,k b ob q⟩,fun _ _ q=>q,fun _ _ _ q=>q,fun _ ps q=>⟨#[],by rw[q];simp⟩⟩
theorem Un.refl:Un fs ex H H h h:=Un.kept fun _ _ q=>q
theorem Un.laid (k:∀b u,h.get? b=some u->h'.get? b=some u)(hp:h.objs.size<=a)(hn:H a=none):Un fs ex H (upd H a o) h h' where
 keep:=fun b u q _ _ _=>k b u q
 slot:=fun b u q _ _ _=>⟨u.slots,k b u q⟩
 free:=fun b u q n _=>by rw[upd_ne (Nat.ne_of_lt (Nat.lt_of_lt_of_le (Heap.lt_size q) hp))];exact n
 there:=fun b u q _=>⟨u,k b u q⟩
 tups:=fun b xs q=>by rw[upd_ne (ne_of_none q hn)];exact q
 frzs:=fun b u xs q=>by rw[upd_ne (ne_of_none q hn)];exact q
 tbls:=fun b ps q=>⟨#[],by rw[upd_ne (ne_of_none q hn),q];simp⟩
theorem Un.write (mu:Mut (H x))(he:e=x\/H e=some (.own x))(k:∀b u,b≠e->h.get? b=some u->h'.get? b=some u)(heo:∃u,h'.get? e=some u):Un fs ex H (upd H x o) h h':=by
 have hx:∀b,H b=none->b≠x:=fun b n z=>by subst z;rw[n]at mu;exact mu
 have hb:∀b,H b=none->b≠e:=fun b n z=>by
  subst z
  rcases he with r|r
  ·exact hx b n r
  ·rw[n]at r;cases r
 have hm:∀b u,H b=some u->¬ Mut (some u)->b≠x:=fun b u q nm z=>by subst z;rw[q]at mu;exact nm mu
 refine⟨fun b u q n _ _=>k b u (hb b n) q,fun b u q n _ _=>⟨u.slots,k b u (hb b n) q⟩,fun b u q n _=>by rw[upd_ne (hx b n)];exact n,fun b u q _=>?_,
  fun b xs q=>by rw[upd_ne (hm b _ q fun z=>z)];exact q,fun b u xs q=>by rw[upd_ne (hm b _ q fun z=>z)];exact q,fun b ps q=>⟨#[],by rw[upd_ne (hm b _ q fun z=>z),q];simp⟩⟩
 by_cases hbe:b=e
 ·subst hbe;exact heo
 ·exact⟨u,k b u hbe q⟩
end
def trk (h:Heap)(H:Hp):List Addr:=(List.range h.objs.size).filter fun a=>(H a).isSome
def hidT (h:Heap)(H:Hp):Heap:=PySem.W.hideAll h (trk h H)
theorem hidT_size (h:Heap)(H:Hp):(hidT h H).objs.size=h.objs.size:=PySem.W.hideAll_size _ _
theorem hidT_get {h:Heap}{H:Hp}{b:Addr}{o:Obj}(e:h.get? b=some o)(n:H b=none):(hidT h H).get? b=some o:=
 PySem.W.hideAll_get _ e fun hm=>by
  have q:(H b).isSome=true:=(List.mem_filter.mp hm).2
  rw[n]at q;simp at q
theorem of_hidT {h:Heap}{H:Hp}{b:Addr}{o:Obj}(e:(hidT h H).get? b=some o):h.get? b=some o/\H b=none:=by
 have e':h.get? b=some o:=PySem.W.of_hideAll (trk h H) e
 refine⟨e',?_⟩
 cases q:H b with
 |none=>rfl
 |some x=>
  have hm:b∈trk h H:=List.mem_filter.mpr ⟨List.mem_range.mpr (Heap.lt_size e'),by simp[q]⟩
  have z:(hidT h H).get? b=none:=PySem.W.hideAll_none (trk h H) hm
  rw[z]at e;cases e
def allNews (g h:Heap)(L:Addr):List (Addr×Obj):=(List.range h.objs.size).filterMap fun a=>if a=L\/(g.get? a).isSome=true then none else (h.get? a).map fun o=>(a,o)
def rest (g h:Heap)(L d:Addr):List (Addr×Obj):=(allNews g h L).filter fun p=>decide (p.1≠d)
end L2
namespace L2
open PySem PySem.Spec PyProof.Rows
structure Mod (K:PySem.W.Frag)(mg:Str->Option Value)(base:Heap):Prop where
 kin:K.In base
 glob:base.Ns mainGlobals mg
 blt:∃mb,base.Ns builtinsNs mb/\∀x:Str,x ≠ "__name__" -> mb x=bootBuiltins x
 nolimit:base.NoLimit
structure Cx where
 prog:Program
 w:World
 K:PySem.W.Frag
 mg:Str->Option Value
 base:Heap
 A:Around
 N:List Str
 s₀:Shared
 H₀:Hp
 env:Env
 outer:List Env
 stack:List Env
 ex:List Addr
 fn:Str->Bool
 calm:Bool
 pn:List (Addr×Obj)
 xe:Value->Shared->Prop
def frs (l:List Env):List Addr:=l.filterMap (·.frame)
abbrev Cx.fs (X:Cx):List Addr:=frs X.outer
def Vis (sc:Scope)(x:Str):Prop:=sc.names.lookup x=some .local\/sc.names.lookup x=some .cell\/sc.names.lookup x=some .free
def Loc (sc:Scope)(x:Str):Prop:=sc.names.lookup x=some .local\/sc.names.lookup x=some .cell
def Look (env:Env)(h:Heap)(m:Str->Option Value)(x:Str)(u:Value):Prop:=
 (env.kindOf x=some .local/\m x=some u)\/((env.kindOf x=some .cell\/env.kindOf x=some .free)/\∃c,env.cells.lookup x=some c/\h.IsCell c (some u))
structure Cx.Ok (X:Cx):Prop where
 mod:Mod X.K X.mg X.base
 kind:X.env.scope.kind=.function
 glob:X.env.globals=mainGlobals
 blt:X.env.builtins=builtinsNs
 above:X.s₀.heap.objs.size<=X.env.locals
 inj:∀x y c,X.env.cells.lookup x=some c->X.env.cells.lookup y=some c->x=y
 has:∀x,(X.env.kindOf x=some .cell\/X.env.kindOf x=some .free)->∃c,X.env.cells.lookup x=some c
 cab:∀x c,X.fn x=true->X.env.cells.lookup x=some c->X.s₀.heap.objs.size<=c
 hd:X.calm=true->X.A.handled=none
 frames:X.A.frames=some X.stack
 stk:X.stack=X.outer\/(X.stack=X.env::X.outer/\X.env.frame=some X.env.locals)
 exf:∀b∈X.ex,b≠X.env.locals/\∀x c,X.env.cells.lookup x=some c->c≠b
 bs:∀b o,X.base.get? b=some o->X.s₀.heap.get? b=some o/\X.H₀ b=none
 bsz:X.base.objs.size<=X.s₀.heap.objs.size
 noex:∀b o,X.base.get? b=some o->b∉X.ex
 exfs:∀b∈X.ex,b∉X.fs
 funs:X.s₀.heap.FunFrames X.base X.outer
 frf:∀b∈X.fs,X.H₀ b=none
structure Inv (X:Cx)(pins:List (Addr×Obj))(σ:List (Option V))(H:Hp)(s:Shared):Prop where
 ok:X.Ok
 os:s.os=X.s₀.os
 bare:AllBare s.gens
 base:Un X.fs X.ex X.H₀ H X.s₀.heap s.heap
 loc:∃m,s.heap.Ns X.env.locals m/\∀(i:Nat) (x:Str) (v:V),X.N[i]?=some x->σ[i]?=some (some v)->Vis X.env.scope x->∃u,RelV v u/\Look X.env s.heap m x u
 cell:∀x c,X.env.cells.lookup x=some c->∃v,s.heap.IsCell c v
 free:H X.env.locals=none
 freeC:∀x c,X.env.cells.lookup x=some c->H c=none
 pin:∀p∈X.pn++pins,s.heap.get? p.1=some p.2/\H p.1=none/\p.1≠X.env.locals/\p.1∉X.fs/\∀v,p.2.data ≠ .cell v
 hok:HOk X.prog X.w H s.heap
 len:σ.length=X.N.length
section
variable {X:Cx} {pins:List (Addr×Obj)} {σ:List (Option V)} {H H':Hp} {s:Shared} {h':Heap}
theorem Cx.Ok.nofr (ok:X.Ok){b:Addr}{o:Obj}(e:X.base.get? b=some o):b∉X.fs:=fun hb=>by
 have:=(ok.funs.mem hb).1
 rw[e]at this;cases this
theorem Inv.bs (I:Inv X pins σ H s):∀b o,X.base.get? b=some o->s.heap.get? b=some o/\H b=none:=fun b o e=>
 ⟨I.base.keep b o (I.ok.bs b o e).1 (I.ok.bs b o e).2 (I.ok.nofr e) (I.ok.noex b o e),I.base.free b o (I.ok.bs b o e).1 (I.ok.bs b o e).2 (I.ok.noex b o e)⟩
theorem Inv.bk (I:Inv X pins σ H s):∀b o,X.base.get? b=some o->s.heap.get? b=some o:=fun b o e=>(I.bs b o e).1
theorem Inv.mod (I:Inv X pins σ H s):Mod X.K X.mg X.base:=I.ok.mod
theorem Inv.kIn (I:Inv X pins σ H s):X.K.In s.heap:=I.ok.mod.kin.keeps I.bk
theorem Inv.lt (I:Inv X pins σ H s):X.env.locals<s.heap.objs.size:=let ⟨_,hn,_⟩:=I.loc;hn.lt
theorem Inv.sz (I:Inv X pins σ H s):X.s₀.heap.objs.size<=s.heap.objs.size:=Nat.le_trans I.ok.above (Nat.le_of_lt I.lt)
theorem Inv.nofs (I:Inv X pins σ H s){a:Addr}(h:s.heap.objs.size<=a):a∉X.fs:=fun hb=>by
 obtain⟨_,o,ho,_⟩:=I.ok.funs.mem hb
 exact absurd (Nat.lt_of_lt_of_le (Heap.lt_size ho) (Nat.le_trans I.sz h)) (Nat.lt_irrefl _)
theorem Inv.cne (I:Inv X pins σ H s):∀x c,X.env.cells.lookup x=some c->c≠X.env.locals:=fun x c e z=>by
 obtain⟨v,o,ho,hd⟩:=I.cell x c e
 obtain⟨m,⟨o',es,ep,ho',hd',_⟩,_⟩:=I.loc
 rw[z,ho']at ho;cases ho;rw[hd']at hd;cases hd
theorem Inv.funs (I:Inv X pins σ H s):s.heap.FunFrames X.base X.outer:=by
 have all:∀(l:List Env),(∀b∈frs l,b∈X.fs)->X.s₀.heap.FunFrames X.base l->s.heap.FunFrames X.base l:=by
  intro l
  induction l with
  |nil=>intro _ _;trivial
  |cons env r ih=>
   intro hs hl
   obtain⟨hk,⟨L,o,hf,hn,ho,hd⟩,hr⟩:=hl
   have hL:L∈X.fs:=hs L (by unfold frs;rw[List.filterMap_cons,hf];exact List.mem_cons_self)
   obtain⟨sl,e⟩:=I.base.slot L o ho (I.ok.frf L hL) hL fun z=>I.ok.exfs L z hL
   exact⟨hk,⟨L,_,hf,hn,e,hd⟩,ih (fun b hb=>hs b (by unfold frs;rw[List.filterMap_cons,hf];exact List.mem_cons_of_mem _ hb)) hr⟩
 exact all X.outer (fun _ hb=>hb) I.ok.funs
theorem Inv.stack (I:Inv X pins σ H s):s.heap.FunFrames X.base X.stack:=by
 rcases I.ok.stk with e|⟨e,hf⟩
 ·rw[e];exact I.funs
 ·rw[e]
  obtain⟨m,hn,_⟩:=I.loc
  refine .cons (by rw[I.ok.kind];decide) hf hn ?_ I.funs
  exact Heap.get?_none_of_le (Nat.le_trans I.ok.bsz I.ok.above)
theorem Inv.stkSub (I:Inv X pins σ H s):∀b∈frs X.stack,b∈X.env.locals::X.fs:=fun b hb=>by
 rcases I.ok.stk with e|⟨e,hf⟩
 ·rw[e]at hb;exact List.mem_cons_of_mem _ hb
 ·rw[e]at hb
  unfold frs at hb
  rw[List.filterMap_cons,hf]at hb
  exact hb
theorem Inv.stkFree (I:Inv X pins σ H s):∀b∈frs X.stack,H b=none:=fun b hb=>by
 rcases List.mem_cons.mp (I.stkSub b hb) with e|hb
 ·rw[e];exact I.free
 ·obtain⟨_,o,ho,_⟩:=I.ok.funs.mem hb
  exact I.base.free b o ho (I.ok.frf b hb) fun z=>I.ok.exfs b z hb
theorem Inv.step {g':Array GenState}{t':Nat}{d':Drawn}{ch:List Addr}(I:Inv X pins σ H s)
  (hch:∀b∈ch,(b∈X.ex\/X.s₀.heap.objs.size<=b)/\b≠X.env.locals/\(∀x c,X.env.cells.lookup x=some c->c≠b)/\∀p∈X.pn++pins,p.1≠b)
  (keep:∀b o,b≠X.env.locals->b∉X.fs->b∉ch->s.heap.get? b=some o->H b=none->h'.get? b=some o)
  (slot:∀b o,b≠X.env.locals->b∈X.fs->b∉ch->s.heap.get? b=some o->H b=none->∃sl,h'.get? b=some {o with slots:=sl}) (free:∀b o,b∉ch->s.heap.get? b=some o->H b=none->H' b=none)
  (there:∀b o,b∉ch->s.heap.get? b=some o->∃o',h'.get? b=some o')
  (tups:∀b xs,H b=some (.tup xs)->H' b=some (.tup xs)) (frzs:∀b o u,H b=some (.frz o u)->H' b=some (.frz o u)) (tbls:∀b ps,H b=some (.tbl ps)->∃more,H' b=some (.tbl (ps++more)))
  (ns:∀m,s.heap.Ns X.env.locals m->h'.Ns X.env.locals m) (hok:HOk X.prog X.w H' h') (hg:AllBare g'):
  Inv X pins σ H' {s with heap:=h',gens:=g',drawn:=d',toks:=t' }:=by
 have neL:∀b o,X.s₀.heap.get? b=some o->b≠X.env.locals:=fun b o e=>Nat.ne_of_lt (Nat.lt_of_lt_of_le (Heap.lt_size e) I.ok.above)
 have neC:∀b o,X.s₀.heap.get? b=some o->b∉X.ex->b∉ch:=fun b o e hx hb=>by
  rcases (hch b hb).1 with z|z
  ·exact hx z
  ·exact absurd (Nat.lt_of_lt_of_le (Heap.lt_size e) z) (Nat.lt_irrefl _)
 have cellK:∀x c,X.env.cells.lookup x=some c->∀v,s.heap.IsCell c v->h'.IsCell c v:=fun x c e v ⟨o,ho,hd⟩=>by
  have nch:c∉ch:=fun z=>(hch c z).2.2.1 x c e rfl
  by_cases hc:c∈X.fs
  ·obtain⟨sl,q⟩:=slot c o (I.cne x c e) hc nch ho (I.freeC x c e)
   exact⟨_,q,hd⟩
  ·exact⟨o,keep c o (I.cne x c e) hc nch ho (I.freeC x c e),hd⟩
 refine⟨I.ok,I.os,hg,⟨fun b o e n hb hx=>?_,fun b o e n hb hx=>?_,fun b o e n hx=>?_,fun b o e hx=>?_,fun b xs e=>tups b xs (I.base.tups b xs e),fun b o xs e=>frzs b o xs (I.base.frzs b o xs e),fun b ps e=>?_⟩,?_,fun x c e=>?_,?_,fun x c e=>?_,fun p hp=>?_,hok,I.len⟩
 ·exact keep b o (neL b o e) hb (neC b o e hx) (I.base.keep b o e n hb hx) (I.base.free b o e n hx)
 ·obtain⟨sl,e1⟩:=I.base.slot b o e n hb hx
  obtain⟨sl',e2⟩:=slot b _ (neL b o e) hb (neC b o e hx) e1 (I.base.free b o e n hx)
  exact⟨sl',e2⟩
 ·obtain⟨o',e1⟩:=I.base.there b o e hx
  exact free b o' (neC b o e hx) e1 (I.base.free b o e n hx)
 ·obtain⟨o',e1⟩:=I.base.there b o e hx
  exact there b o' (neC b o e hx) e1
 ·obtain⟨m1,e1⟩:=I.base.tbls b ps e
  obtain⟨m2,e2⟩:=tbls b _ e1
  exact⟨m1++m2,by rw[e2,Array.append_assoc]⟩
 ·obtain⟨m,hn,hl⟩:=I.loc
  refine⟨m,ns m hn,fun i x v e1 e2 e3=>?_⟩
  obtain⟨u,r,l⟩:=hl i x v e1 e2 e3
  refine⟨u,r,?_⟩
  rcases l with l|⟨k,c,e,z⟩
  ·exact .inl l
  ·exact .inr ⟨k,c,e,cellK x c e _ z⟩
 ·obtain⟨v,z⟩:=I.cell x c e
  exact⟨v,cellK x c e v z⟩
 ·obtain⟨m,⟨o,_,_,ho,_⟩,_⟩:=I.loc
  exact free _ o (fun z=>(hch _ z).2.1 rfl) ho I.free
 ·obtain⟨v,o,ho,hd⟩:=I.cell x c e
  exact free c o (fun z=>(hch c z).2.2.1 x c e rfl) ho (I.freeC x c e)
 ·obtain⟨e,n,ne,nf,d⟩:=I.pin p hp
  have nch:p.1∉ch:=fun z=>(hch p.1 z).2.2.2 p hp rfl
  exact⟨keep p.1 p.2 ne nf nch e n,free p.1 p.2 nch e n,ne,nf,d⟩
theorem Inv.un {t':Nat}(I:Inv X pins σ H s)(u:Un X.fs [] H H' s.heap h')(hok:HOk X.prog X.w H' h'):Inv X pins σ H' {s with heap:=h',toks:=t' }:=by
 obtain⟨m,⟨o,es,ep,ho,r⟩,_⟩:=id I.loc
 obtain⟨sl,hL⟩:=u.any ho I.free (by simp)
 exact I.step (g':=s.gens) (d':=s.drawn) (ch:=[]) (fun _ z=>nomatch z) (fun b o _ hb _ e n=>u.keep b o e n hb (by simp)) (fun b o _ hb _ e n=>u.slot b o e n hb (by simp)) (fun b o _ e n=>u.free b o e n (by simp)) (fun b o _ e=>u.there b o e (by simp)) u.tups u.frzs u.tbls (fun m' hm=>by
  obtain⟨o',es',ep',ho',r'⟩:=hm
  rw[ho]at ho';cases ho'
  exact⟨_,es',ep',hL,r'⟩) hok I.bare
theorem Inv.call {g':Array GenState}{t':Nat}{d':Drawn}{ch:List Addr}(I:Inv X pins σ H s)(u:Un (frs X.stack) ch H H' s.heap h')(hok:HOk X.prog X.w H' h')(hg:AllBare g')
  (hch:∀b∈ch,(b∈X.ex\/X.s₀.heap.objs.size<=b)/\b≠X.env.locals/\(∀x c,X.env.cells.lookup x=some c->c≠b)/\∀p∈X.pn++pins,p.1≠b):
  Inv X pins σ H' {s with heap:=h',gens:=g',drawn:=d',toks:=t' }:=by
 obtain⟨m,⟨o,es,ep,ho,r⟩,_⟩:=id I.loc
 obtain⟨sl,hL⟩:=u.any ho I.free fun z=>(hch _ z).2.1 rfl
 exact I.step (ch:=ch) hch (fun b o hL hb hc e n=>u.keep b o e n (fun z=>(List.mem_cons.mp (I.stkSub b z)).elim hL hb) hc) (fun b o _ _ hc e n=>u.any e n hc) (fun b o hc e n=>u.free b o e n hc) (fun b o hc e=>u.there b o e hc) u.tups u.frzs u.tbls (fun m' hm=>by
  obtain⟨o',es',ep',ho',r'⟩:=hm
  rw[ho]at ho';cases ho'
  exact⟨_,es',ep',hL,r'⟩) hok hg
theorem Inv.turned {t':Nat}{it:Addr}(I:Inv X pins σ H s)(k:∀b o,b≠it->s.heap.get? b=some o->h'.get? b=some o)(hn:H it=none)(hL:it≠X.env.locals)
  (h1:it∈X.ex\/X.s₀.heap.objs.size<=it) (h2:∀x c,X.env.cells.lookup x=some c->c≠it) (h3:∀p∈X.pn++pins,p.1≠it):Inv X pins σ H {s with heap:=h',toks:=t' }:=by
 have nit:∀b u,H b=some u->b≠it:=fun b u e z=>by rw[z,hn]at e;cases e
 refine I.step (g':=s.gens) (d':=s.drawn) (ch:=[it]) (fun b hb=>?_) (fun b o _ _ hc e _=>k b o (fun z=>hc (by simp[z])) e) (fun b o _ _ hc e _=>⟨o.slots,k b o (fun z=>hc (by simp[z])) e⟩) (fun _ _ _ _ n=>n)
  (fun b o hc e=>⟨o,k b o (fun z=>hc (by simp[z])) e⟩) (fun _ _ e=>e) (fun _ _ _ e=>e) (fun b ps e=>⟨#[],by rw[e];simp⟩) (fun m hm=>?_) (fun b u e=>?_) I.bare
 ·have e:b=it:=by simpa using hb
  subst e
  exact⟨h1,hL,h2,h3⟩
 ·obtain⟨o,es,ep,ho,r⟩:=hm
  exact⟨o,es,ep,k _ o (Ne.symm hL) ho,r⟩
 ·refine (I.hok b u e).stay (fun c v hc q=>k c v ?_ q) (fun _ q=>q) fun _ _ q=>q
  rcases hc with z|z
  ·rw[z];exact nit b u e
  ·exact nit c _ z
theorem Inv.tok (I:Inv X pins σ H s)(t:Nat):Inv X pins σ H {s with toks:=t}:=I.un (h':=s.heap) (t':=t) Un.refl I.hok
theorem Inv.kept {t':Nat}(I:Inv X pins σ H s)(k:∀b u,s.heap.get? b=some u->h'.get? b=some u):Inv X pins σ H {s with heap:=h',toks:=t' }:=I.un (Un.kept k) (I.hok.kept k)
theorem Inv.laid {a:Addr}{o:HO}{t':Nat}(I:Inv X pins σ H s)(k:∀b u,s.heap.get? b=some u->h'.get? b=some u)(hp:s.heap.objs.size<=a)(new:ObjOk X.prog X.w (upd H a o) h' a o):
  Inv X pins σ (upd H a o) {s with heap:=h',toks:=t' }:=I.un (Un.laid k hp (I.hok.fresh hp)) (I.hok.laid k hp new)
theorem Inv.write {x e:Addr}{o:HO}{t':Nat}(I:Inv X pins σ H s)(mu:Mut (H x))(he:e=x\/H e=some (.own x))(k:∀b u,b≠e->s.heap.get? b=some u->h'.get? b=some u)(heo:∃u,h'.get? e=some u)
  (new:ObjOk X.prog X.w (upd H x o) h' x o):Inv X pins σ (upd H x o) {s with heap:=h',toks:=t' }:=I.un (Un.write mu he k heo) (I.hok.write mu he k heo new)
theorem Inv.pins_of {pins':List (Addr×Obj)}(I:Inv X pins σ H s)(h:∀p∈pins',s.heap.get? p.1=some p.2/\H p.1=none/\p.1≠X.env.locals/\p.1∉X.fs/\∀v,p.2.data ≠ .cell v):Inv X pins' σ H s:=
 ⟨I.ok,I.os,I.bare,I.base,I.loc,I.cell,I.free,I.freeC,fun p hp=>(List.mem_append.mp hp).elim (fun z=>I.pin p (List.mem_append_left _ z)) (h p),I.hok,I.len⟩
theorem nodup_ix {N:List Str}(hN:N.Nodup){i j:Nat}{x:Str}(a:N[i]?=some x)(b:N[j]?=some x):i=j:=by
 obtain⟨h1,e1⟩:=List.getElem?_eq_some_iff.mp a
 obtain⟨h2,e2⟩:=List.getElem?_eq_some_iff.mp b
 exact (List.getElem_inj hN).mp (e1.trans e2.symm)
theorem store_ok2 {M:Model}{A:Around}{E:Value->Shared->Prop}{i:Nat}{x:Str}{v:V}{u:Value}{Q:Unit->Shared->Prop}(I:Inv X pins σ H s)(hN:X.N.Nodup)(hi:X.N[i]?=some x)(hx:Loc X.env.scope x)(r:RelV v u)
  (h:∀s',Inv X pins (σ.set i (some v)) H s'->(∃a,Heap.SameBut a s.heap s'.heap/\(a=X.env.locals\/X.env.cells.lookup x=some a))->Q () s') (hf:X.fn x=true\/X.env.scope.names.lookup x=some .local:=by first|exact .inl rfl|exact .inr rfl|assumption):wpAny M A (storeName X.env x u) Q E s:=by
 obtain⟨m,hn,hl⟩:=id I.loc
 have hcls:(X.env.scope.kind == .class||(X.env.scope.kind == .module&&X.env.locals != X.env.globals))=false:=by rw[I.ok.kind];rfl
 have hiσ:i<σ.length:=by rw[I.len];exact (List.getElem?_eq_some_iff.mp hi).1
 have cne:=I.cne
 have tracked:∀{a:Addr} {h':Heap},(∃o,s.heap.get? a=some o/\H a=none)->Heap.SameBut a s.heap h'->HOk X.prog X.w H h':=fun {a h'} ha hs b ob e=>by
  obtain⟨_,_,hfree⟩:=ha
  refine (I.hok b ob e).stay (fun c w' hc q=>(hs.2 c ?_).trans q) (fun _ q=>q) fun _ _ q=>q
  rintro rfl
  rcases hc with rfl|hc
  ·rw[hfree]at e;cases e
  ·rw[hfree]at hc;cases hc
 rcases hx with hk|hk
 ·refine wpAny_storeName_local hk hn (fun h' hn' hs=>?_) hcls
  obtain⟨oL,_,_,hoL,_⟩:=id hn
  refine h _ ⟨I.ok,I.os,I.bare,⟨fun b o e n hb hx=>?_,fun b o e n hb hx=>?_,I.base.free,fun b o e hx=>?_,I.base.tups,I.base.frzs,I.base.tbls⟩,⟨_,hn',fun j y v' e1 e2 e3=>?_⟩,fun y c e=>?_,I.free,I.freeC,fun p hp=>?_,tracked ⟨oL,hoL,I.free⟩ hs,by simpa using I.len⟩ ⟨_,hs,.inl rfl⟩
  ·exact (hs.2 b (Nat.ne_of_lt (Nat.lt_of_lt_of_le (Heap.lt_size e) I.ok.above))).trans (I.base.keep b o e n hb hx)
  ·obtain⟨sl,e1⟩:=I.base.slot b o e n hb hx
   exact⟨sl,(hs.2 b (Nat.ne_of_lt (Nat.lt_of_lt_of_le (Heap.lt_size e) I.ok.above))).trans e1⟩
  ·obtain⟨o',e1⟩:=I.base.there b o e hx
   exact⟨o',(hs.2 b (Nat.ne_of_lt (Nat.lt_of_lt_of_le (Heap.lt_size e) I.ok.above))).trans e1⟩
  ·by_cases hj:j=i
   ·subst hj
    rw[hi]at e1;cases e1
    rw[List.getElem?_set_self hiσ]at e2
    cases e2
    exact⟨u,r,.inl ⟨hk,by simp⟩⟩
   ·rw[List.getElem?_set_ne (Ne.symm hj)]at e2
    obtain⟨u',r',q⟩:=hl j y v' e1 e2 e3
    refine⟨u',r',?_⟩
    rcases q with ⟨k,e⟩|⟨k,c,e,z⟩
    ·refine .inl ⟨k,?_⟩
     have:y≠x:=fun e=>hj (nodup_ix hN e1 (e ▸ hi))
     simp[this,e]
    ·exact .inr ⟨k,c,e,z.sameBut hs (cne y c e)⟩
  ·obtain⟨w',z⟩:=I.cell y c e
   exact⟨w',z.sameBut hs (cne y c e)⟩
  ·obtain⟨e,n,ne,nf,d⟩:=I.pin p hp
   exact⟨(hs.2 p.1 ne).trans e,n,ne,nf,d⟩
 ·have hfn:X.fn x=true:=by
   rcases hf with z|z
   ·exact z
   ·rw[z]at hk;cases hk
  obtain⟨c,hc⟩:=I.ok.has x (.inl hk)
  obtain⟨w',z⟩:=I.cell x c hc
  refine wpAny_storeName_cell I.ok.kind hk hc z (fun h' hc' hs=>?_)
  obtain⟨oc,hoc,hocd⟩:=id z
  refine h {s with heap:=h' } ⟨I.ok,I.os,I.bare,⟨fun b o e n hb hx=>?_,fun b o e n hb hx=>?_,I.base.free,fun b o e hx=>?_,I.base.tups,I.base.frzs,I.base.tbls⟩,⟨m,hn.sameBut hs (Ne.symm (cne x c hc)),fun j y v' e1 e2 e3=>?_⟩,fun y c' e=>?_,I.free,I.freeC,fun p hp=>?_,tracked ⟨oc,hoc,I.freeC x c hc⟩ hs,by simpa using I.len⟩ ⟨c,hs,.inr hc⟩
  ·exact (hs.2 b (Nat.ne_of_lt (Nat.lt_of_lt_of_le (Heap.lt_size e) (I.ok.cab x c hfn hc)))).trans (I.base.keep b o e n hb hx)
  ·obtain⟨sl,e1⟩:=I.base.slot b o e n hb hx
   exact⟨sl,(hs.2 b (Nat.ne_of_lt (Nat.lt_of_lt_of_le (Heap.lt_size e) (I.ok.cab x c hfn hc)))).trans e1⟩
  ·obtain⟨o',e1⟩:=I.base.there b o e hx
   exact⟨o',(hs.2 b (Nat.ne_of_lt (Nat.lt_of_lt_of_le (Heap.lt_size e) (I.ok.cab x c hfn hc)))).trans e1⟩
  ·by_cases hj:j=i
   ·subst hj
    rw[hi]at e1;cases e1
    rw[List.getElem?_set_self hiσ]at e2
    cases e2
    exact⟨u,r,.inr ⟨.inl hk,c,hc,hc'⟩⟩
   ·rw[List.getElem?_set_ne (Ne.symm hj)]at e2
    obtain⟨u',r',q⟩:=hl j y v' e1 e2 e3
    refine⟨u',r',?_⟩
    rcases q with q|⟨k,c',e,z'⟩
    ·exact .inl q
    ·refine .inr ⟨k,c',e,z'.sameBut hs ?_⟩
     rintro rfl
     exact hj (nodup_ix hN e1 (I.ok.inj _ _ _ e hc ▸ hi))
  ·by_cases hcc:c'=c
   ·subst hcc;exact⟨_,hc'⟩
   ·obtain⟨w2,z2⟩:=I.cell y c' e
    exact⟨w2,z2.sameBut hs hcc⟩
  ·obtain⟨e,n,ne,nf,d⟩:=I.pin p hp
   refine⟨(hs.2 p.1 ?_).trans e,n,ne,nf,d⟩
   intro q
   rw[q,hoc]at e
   have q':oc=p.2:=Option.some.inj e
   exact d w' (by rw[<-q'];exact hocd)
theorem store_ok {M:Model}{A:Around}{E:Value->Shared->Prop}{i:Nat}{x:Str}{v:V}{u:Value}{Q:Unit->Shared->Prop}(I:Inv X pins σ H s)(hN:X.N.Nodup)(hi:X.N[i]?=some x)(hx:Loc X.env.scope x)(r:RelV v u)
  (h:∀s',Inv X pins (σ.set i (some v)) H s'->Q () s') (hf:X.fn x=true\/X.env.scope.names.lookup x=some .local:=by first|exact .inl rfl|exact .inr rfl|assumption):wpAny M A (storeName X.env x u) Q E s:=
 store_ok2 I hN hi hx r (fun s' I' _=>h s' I') hf
theorem Inv.call' {s':Shared}{ch:List Addr}(I:Inv X pins σ H s)(ho:s'.os=s.os)(u:Un (frs X.stack) ch H H' s.heap s'.heap)(hok:HOk X.prog X.w H' s'.heap)(hg:AllBare s'.gens)
  (hch:∀b∈ch,(b∈X.ex\/X.s₀.heap.objs.size<=b)/\b≠X.env.locals/\(∀x c,X.env.cells.lookup x=some c->c≠b)/\∀p∈X.pn++pins,p.1≠b):Inv X pins σ H' s':=by
 obtain⟨h',g',d',t',o'⟩:=s'
 have e:o'=s.os:=ho
 subst e
 exact I.call (g':=g') (t':=t') (d':=d') u hok hg hch
end
abbrev XK:=Value->Option Addr->Hp->Prop
abbrev St:=List (Option V)
abbrev VK:=V->Hp->Prop
abbrev TE:=St->Hp->VK->Prop
abbrev TT:=St->Hp->(Bool->Hp->Prop)->Prop
abbrev TA:=St->Hp->(List V->Hp->Prop)->Prop
structure Ends where
 nx:St->Hp->Prop
 rt:VK
 bk:St->Hp->Prop:=fun _ _=>False
 ct:St->Hp->Prop:=fun _ _=>False
abbrev TS:=Ends->St->Hp->Prop
def EP (X:Cx)(pins:List (Addr×Obj))(σ:St)(Q:VK)(u:Value)(s':Shared):Prop:=∃v H',Inv X pins σ H' s'/\RelV v u/\Q v H'
def TP (X:Cx)(pins:List (Addr×Obj))(σ:St)(Q:Bool->Hp->Prop)(b:Bool)(s':Shared):Prop:=∃H',Inv X pins σ H' s'/\Q b H'
def AP (X:Cx)(pins:List (Addr×Obj))(σ:St)(Q:List V->Hp->Prop)(us:List Value)(s':Shared):Prop:=∃vs H',Inv X pins σ H' s'/\Vals vs us/\Q vs H'
def SP (X:Cx)(pins:List (Addr×Obj))(D:Ends)(f:Flow)(s':Shared):Prop:=
 match f with
 |.next=>∃σ' H',Inv X pins σ' H' s'/\D.nx σ' H'
 |.brk=>∃σ' H',Inv X pins σ' H' s'/\D.bk σ' H'
 |.cont=>∃σ' H',Inv X pins σ' H' s'/\D.ct σ' H'
 |.ret u=>∃v σ' H',Inv X pins σ' H' s'/\RelV v u/\D.rt v H'
def PE (X:Cx)(e:Expr)(t:TE):Prop:=
 ∀(pins:List (Addr×Obj)) (s:Shared) (σ:St) (H:Hp) (Q:VK),Inv X pins σ H s->t σ H Q->wpAny (model X.prog X.w) X.A (eval e X.env) (EP X pins σ Q) X.xe s
def PT (X:Cx)(e:Expr)(t:TT):Prop:=
 ∀(pins:List (Addr×Obj)) (s:Shared) (σ:St) (H:Hp) (Q:Bool->Hp->Prop),Inv X pins σ H s->t σ H Q->wpAny (model X.prog X.w) X.A (isTrue e X.env (eval e X.env)) (TP X pins σ Q) X.xe s
def PW (X:Cx)(e:Expr)(t:TT):Prop:=
 ∀(whole:Sem Value) (pins:List (Addr×Obj)) (s:Shared) (σ:St) (H:Hp) (Q:Bool->Hp->Prop),Inv X pins σ H s->t σ H Q->wpAny (model X.prog X.w) X.A (isTrue e X.env whole) (TP X pins σ Q) X.xe s
theorem PW.pt {X:Cx}{e:Expr}{t:TT}(h:PW X e t):PT X e t:=h _
def PA (X:Cx)(es:List Expr)(t:TA):Prop:=
 ∀(pos:Pos) (pins:List (Addr×Obj)) (s:Shared) (σ:St) (H:Hp) (Q:List V->Hp->Prop),Inv X pins σ H s->t σ H Q->wpAny (model X.prog X.w) X.A (spliced (backTo pos (starEach es X.env))) (AP X pins σ Q) X.xe s
def PS (X:Cx)(st:Stmt)(t:TS):Prop:=
 ∀(pins:List (Addr×Obj)) (s:Shared) (σ:St) (H:Hp) (D:Ends),Inv X pins σ H s->t D σ H->wpAny (model X.prog X.w) X.A (exec st X.env) (SP X pins D) X.xe s
def PSs (X:Cx)(st:List Stmt)(t:TS):Prop:=
 ∀(pins:List (Addr×Obj)) (s:Shared) (σ:St) (H:Hp) (D:Ends),Inv X pins σ H s->t D σ H->wpAny (model X.prog X.w) X.A (execs st X.env) (SP X pins D) X.xe s
theorem thn {α:Type}{t:Sem α}{Q Q':α->Shared->Prop}{M:Model}{A:Around}{E:Value->Shared->Prop}{s:Shared}(h:wpAny M A t Q E s)(hQ:∀a s,Q a s->Q' a s):wpAny M A t Q' E s:=wpAny_mono h hQ fun _ _ x=>x
end L2
namespace L2
open PySem PySem.Spec PyProof.Rows
section
variable {X:Cx}
def tVar (i:Nat):TE:=fun σ H Q=>∃v,σ[i]?=some (some v)/\Q v H
def tC (v:V):TE:=fun _ H Q=>Q v H
theorem pe_var {i:Nat}{x:Str}{pos:Pos}(hN:X.N[i]?=some x)(hv:Vis X.env.scope x)(hd:(x==("__debug__" : Str))=false:=by decide)(hcd:(x==("__classdict__" : Str))=false:=by decide):PE X (.Name x pos) (tVar i):=by
 intro pins s σ H Q I h
 obtain⟨v,e,h⟩:=h
 obtain⟨m,hn,hl⟩:=I.loc
 obtain⟨u,r,l⟩:=hl i x v hN e hv
 have fin:EP X pins σ Q u s:=⟨v,H,I,r,h⟩
 rcases l with ⟨hk,hm⟩|⟨hk,c,hc,hcell⟩
 ·exact wpAny_Name (wpAny_loadName_local I.ok.kind hk hn hm fin) hd
 ·rcases hk with hk|hk
  ·exact wpAny_Name (wpAny_loadName_cell I.ok.kind hk hc hcell fin) hd
  ·exact wpAny_Name (wpAny_loadName_free I.ok.kind hk hc hcell fin hcd) hd
theorem pe_int {i j pos}:PE X (.Constant (.int i) j pos) (tC (.int i)):=fun _ _ _ H _ I h=>wpAny_Constant_int ⟨.int i,H,I.tok _,⟨_,rfl⟩,h⟩
theorem pe_bl {b j pos}:PE X (.Constant (.bool b) j pos) (tC (.bl b)):=fun _ _ _ H _ I h=>Constant_bool ⟨.bl b,H,I,rfl,h⟩
theorem pe_non {j pos}:PE X (.Constant .none j pos) (tC .non):=fun _ _ _ H _ I h=>Constant_none ⟨.non,H,I,rfl,h⟩
theorem pe_str {x j pos}:PE X (.Constant (.str x) j pos) (tC (.str x)):=fun _ _ _ H _ I h=>Calls.Constant_str ⟨.str x,H,I.tok _,⟨_,rfl⟩,h⟩
def Gl (X:Cx)(x:Str):Prop:=X.env.kindOf x=some .globalImplicit
theorem ld_glob {E:Value->Shared->Prop}{pins:List (Addr×Obj)}{s:Shared}{σ:St}{H:Hp}{x:Str}{u:Value}{pos:Pos}{Q:Value->Shared->Prop}(I:Inv X pins σ H s)(hg:Gl X x)(hm:X.mg x=some u)(h:Q u s)
  (hd:(x==("__debug__" : Str))=false:=by decide):wpAny (model X.prog X.w) X.A (eval (.Name x pos) X.env) Q E s:=
 Calls.Name_function_global I.ok.kind hg (Calls.loadGlobal_global (by rw[I.ok.glob];exact I.mod.glob.keeps I.bk) hm h) hd
theorem ld_blt {E:Value->Shared->Prop}{pins:List (Addr×Obj)}{s:Shared}{σ:St}{H:Hp}{x:Str}{u:Value}{pos:Pos}{Q:Value->Shared->Prop}(I:Inv X pins σ H s)(hg:Gl X x)(hm:X.mg x=none)(hv:bootBuiltins x=some u)(h:Q u s)
  (hn:x ≠ "__name__" := by decide) (hd:(x==("__debug__" : Str))=false:=by decide):wpAny (model X.prog X.w) X.A (eval (.Name x pos) X.env) Q E s:=by
 obtain⟨mb,h1,h2⟩:=I.mod.blt
 exact Calls.Name_function_global I.ok.kind hg (Calls.loadGlobal_builtin (by rw[I.ok.glob];exact I.mod.glob.keeps I.bk) hm (by rw[I.ok.blt];exact h1.keeps I.bk) ((h2 x hn).trans hv) h) hd
theorem pe_bltn {x:Str}{v:V}{u:Value}{pos:Pos}(hg:Gl X x)(hm:X.mg x=none)(hv:bootBuiltins x=some u)(r:RelV v u)(hn:x ≠ "__name__" := by decide)(hd:(x==("__debug__" : Str))=false:=by decide):PE X (.Name x pos) (tC v):=
 fun _ _ _ H _ I h=>ld_blt I hg hm hv ⟨v,H,I,r,h⟩ hn hd
variable {a b:Expr} {ta tb:TE} {pos:Pos}
def PC (X:Cx)(op:CmpOp)(a b:Expr)(t:TE):Prop:=
 ∀(pins:List (Addr×Obj)) (s:Shared) (σ:St) (H:Hp) (Q:VK),Inv X pins σ H s->t σ H Q ->
  wpAny (model X.prog X.w) X.A (eval a X.env) (fun v s₁=>wpAny (model X.prog X.w) X.A (eval b X.env) (fun u s₂=>wpAny (model X.prog X.w) X.A (compareOp op v u) (EP X pins σ Q) X.xe s₂) X.xe s₁) X.xe s
theorem nobehind (b:Expr){op:CmpOp}(h:op ≠ .In)(h2:op ≠ .NotIn):behindInMarks op b=false:=by
 have e1:(op==CmpOp.In)=false:=by cases op<;>first|rfl|exact absurd rfl h
 have e2:(op==CmpOp.NotIn)=false:=by cases op<;>first|rfl|exact absurd rfl h2
 cases b<;>simp[behindInMarks,e1,e2]
def tB (t:TE):TT:=fun σ H Q=>t σ H fun x H1=>∃c,x=.bl c/\Q c H1
theorem pt_cmp {op:CmpOp}{t:TE}(h:PC X op a b t)(h1:behindInMarks op b=false:=by first|exact nobehind _ (by decide) (by decide)|rfl):PT X (.Compare a [op] [b] pos) (tB t):=by
 intro pins s σ H Q I hw
 refine wpAny_isTrue_Compare1 (thn (h pins s σ H _ I hw) fun v s1 h1=>thn h1 fun u s2 h2=>thn h2 fun c s3 ⟨x,H1,I1,r1,q1⟩=>?_) h1
 obtain⟨d,rfl,q⟩:=q1
 cases r1
 exact wpAny_truthy_bool ⟨H1,I1,q⟩
theorem pt_val {e:Expr}{t:TE}(h:PE X e t)(he:∀whole,isTrue e X.env whole=(do let v <- whole;standAt e.pos;holding [v] (truthy v)):=by intro _;rfl):PT X e (tB t):=by
 intro pins s σ H Q I hw
 refine isTrue_plain (thn (h pins s σ H _ I hw) fun v s1 ⟨x,H1,I1,r1,q1⟩=>?_) (he _)
 obtain⟨d,rfl,q⟩:=q1
 cases r1
 exact wpAny_truthy_bool ⟨H1,I1,q⟩
variable {tA tB':TT} {rest:List Expr}
def tAnd (t u:TT):TT:=fun σ H Q=>t σ H fun c H1=>if c=true then u σ H1 Q else Q false H1
def tOr (t u:TT):TT:=fun σ H Q=>t σ H fun c H1=>if c=true then Q true H1 else u σ H1 Q
def tNot (t:TT):TT:=fun σ H Q=>t σ H fun c H1=>Q (!c) H1
theorem pw_and1 (ha:PT X a tA):PW X (.BoolOp .And [a] pos) tA:=by
 intro wh pins s σ H Q I h
 refine isTrue_and (thn (ha pins s σ H Q I h) fun c s1 e=>?_)
 cases c with
 |true=>exact isTrue_and_nil e
 |false=>exact e
theorem pw_or1 (ha:PT X a tA):PW X (.BoolOp .Or [a] pos) tA:=by
 intro wh pins s σ H Q I h
 refine isTrue_or (thn (ha pins s σ H Q I h) fun c s1 e=>?_)
 cases c with
 |false=>exact isTrue_or_nil e
 |true=>exact e
theorem pw_and (ha:PT X a tA)(hb:PW X (.BoolOp .And (b::rest) pos) tB'):PW X (.BoolOp .And (a::b::rest) pos) (tAnd tA tB'):=by
 intro wh pins s σ H Q I h
 refine isTrue_and (thn (ha pins s σ H _ I h) fun c s1 ⟨H1,I1,q1⟩=>?_)
 cases c with
 |true=>exact hb wh pins s1 σ H1 Q I1 q1
 |false=>exact⟨H1,I1,q1⟩
theorem pw_or (ha:PT X a tA)(hb:PW X (.BoolOp .Or (b::rest) pos) tB'):PW X (.BoolOp .Or (a::b::rest) pos) (tOr tA tB'):=by
 intro wh pins s σ H Q I h
 refine isTrue_or (thn (ha pins s σ H _ I h) fun c s1 ⟨H1,I1,q1⟩=>?_)
 cases c with
 |true=>exact⟨H1,I1,q1⟩
 |false=>exact hb wh pins s1 σ H1 Q I1 q1
theorem pt_not (ha:PT X a tA):PT X (.UnaryOp .Not a pos) (tNot tA):=by
 intro pins s σ H Q I h
 exact isTrue_not (ha pins s σ H (fun c H1=>Q (!c) H1) I h)
end
end L2
namespace L2
open PySem PySem.Spec PyProof.Rows
def SqL (K:PySem.W.Frag)(H:Hp)(a:Addr)(xs:List V):Prop:=
 Rd H a (.lst xs) \/
  ∃(o:Obj) (its:Array Value) (n:Nat),K.lookup a=some o/\o.cls=.type "list" /\ o.dict=none/\o.data=.seq its n/\its.size<=sizeLine/\Vals xs its.toList
def SqT (K:PySem.W.Frag)(H:Hp)(a:Addr)(xs:List V):Prop:=
 Rd H a (.tup xs) \/
  ∃(o:Obj) (its:Array Value) (n:Nat),K.lookup a=some o/\o.cls=.type "tuple" /\ o.data=.seq its n/\its.size<=sizeLine/\Vals xs its.toList
def absV:Value->Option V
 |.none=>some .non
 |.bool b=>some (.bl b)
 |.int i _=>some (.int i)
 |.str x _=>some (.str x)
 |.bytes b _=>some (.byt b)
 |.float b _=>some (.flt b)
 |.ref a=>some (.ref a)
 |.type n=>some (.ty n)
 |_=>none
theorem RelV.abs {x:V}{u:Value}(r:RelV x u):absV u=some x:=by
 cases x with
 |non=>cases r;rfl
 |bl _=>cases r;rfl
 |int _=>obtain⟨t,rfl⟩:=r;rfl
 |str _=>obtain⟨t,rfl⟩:=r;rfl
 |byt _=>obtain⟨t,rfl⟩:=r;rfl
 |flt _=>obtain⟨t,rfl⟩:=r;rfl
 |ref _=>cases r;rfl
 |ty _=>cases r;rfl
theorem RelV.inj {x y:V}{u:Value}(r:RelV x u)(q:RelV y u):x=y:=Option.some.inj (r.abs.symm.trans q.abs)
theorem Vals.inj:∀{xs ys:List V} {us:List Value},Vals xs us->Vals ys us->xs=ys
 |_,_,_,.nil,.nil=>rfl
 |_,_,_,.cons r t,.cons r' t'=>by rw[r.inj r',Vals.inj t t']
section
variable {X:Cx} {pins:List (Addr×Obj)} {σ:St} {H:Hp} {s:Shared} {a:Addr} {xs ys:List V}
theorem SqL.of {K:PySem.W.Frag}(h:H a=some (.lst xs)):SqL K H a xs:=.inl (.inl h)
theorem SqT.of {K:PySem.W.Frag}(h:H a=some (.tup xs)):SqT K H a xs:=.inl (.inl h)
theorem Inv.list (I:Inv X pins σ H s)(h:SqL X.K H a xs):∃its:List Value,Vals xs its/\PlainL s.heap a its.toArray/\xs.length<=sizeLine:=by
 rcases h with h|⟨o,its,n,hk,hc,hd,hs,hz,r⟩
 ·obtain⟨z,its,n,r,e⟩:=h.ok I.hok
  exact⟨its,r,⟨_,n,e,rfl,rfl,rfl⟩,z⟩
 ·refine⟨its.toList,r,⟨o,n,I.kIn a o hk,hc,hd,by simpa using hs⟩,?_⟩
  have e:=r.length
  simp only[Array.length_toList]at e
  omega
theorem Inv.tuple (I:Inv X pins σ H s)(h:SqT X.K H a xs):∃its:List Value,Vals xs its/\IsTup s.heap a its.toArray/\xs.length<=sizeLine:=by
 rcases h with h|⟨o,its,n,hk,hc,hs,hz,r⟩
 ·obtain⟨z,its,r,p⟩:=h.ok I.hok
  exact⟨its,r,p,z⟩
 ·refine⟨its.toList,r,⟨o,I.kIn a o hk,hc,n,by simpa using hs⟩,?_⟩
  have e:=r.length
  simp only[Array.length_toList]at e
  omega
theorem Inv.list_inj (I:Inv X pins σ H s)(h:SqL X.K H a xs)(h':SqL X.K H a ys):xs=ys:=by
 obtain⟨its,r,⟨o,n,e,_,_,d⟩,_⟩:=I.list h
 obtain⟨its',r',⟨o',n',e',_,_,d'⟩,_⟩:=I.list h'
 rw[e]at e';cases e'
 rw[d]at d'
 injection d' with d1 _
 have:its=its':=by simpa using congrArg Array.toList d1
 subst this
 exact r.inj r'
theorem Inv.tuple_inj (I:Inv X pins σ H s)(h:SqT X.K H a xs)(h':SqT X.K H a ys):xs=ys:=by
 obtain⟨its,r,⟨o,e,_,n,d⟩,_⟩:=I.tuple h
 obtain⟨its',r',⟨o',e',_,n',d'⟩,_⟩:=I.tuple h'
 rw[e]at e';cases e'
 rw[d]at d'
 injection d' with d1 _
 have:its=its':=by simpa using congrArg Array.toList d1
 subst this
 exact r.inj r'
end
abbrev Cx.wish (X:Cx)(E:Value->Shared->Prop):Cx:={X with xe:=E}
abbrev Cx.nox (X:Cx):Cx:=X.wish fun _ _=>False
theorem Cx.Ok.wish {X:Cx}(ok:X.Ok)(E:Value->Shared->Prop):(X.wish E).Ok:=
 ⟨ok.mod,ok.kind,ok.glob,ok.blt,ok.above,ok.inj,ok.has,ok.cab,ok.hd,ok.frames,ok.stk,ok.exf,ok.bs,ok.bsz,ok.noex,ok.exfs,ok.funs,ok.frf⟩
theorem Cx.Ok.unwish {X:Cx}{E:Value->Shared->Prop}(ok:(X.wish E).Ok):X.Ok:=
 ⟨ok.mod,ok.kind,ok.glob,ok.blt,ok.above,ok.inj,ok.has,ok.cab,ok.hd,ok.frames,ok.stk,ok.exf,ok.bs,ok.bsz,ok.noex,ok.exfs,ok.funs,ok.frf⟩
section
variable {X:Cx} {pins:List (Addr×Obj)} {σ:St} {H:Hp} {s:Shared} {E:Value->Shared->Prop}
theorem Inv.wish (I:Inv X pins σ H s)(E:Value->Shared->Prop):Inv (X.wish E) pins σ H s:=⟨I.ok.wish E,I.os,I.bare,I.base,I.loc,I.cell,I.free,I.freeC,I.pin,I.hok,I.len⟩
theorem Inv.unwish (I:Inv (X.wish E) pins σ H s):Inv X pins σ H s:=⟨I.ok.unwish,I.os,I.bare,I.base,I.loc,I.cell,I.free,I.freeC,I.pin,I.hok,I.len⟩
theorem SP.unwish {D:Ends}{f:Flow}{s':Shared}(h:SP (X.wish E) pins D f s'):SP X pins D f s':=by
 cases f with
 |next=>obtain⟨σ',H',I,q⟩:=h;exact⟨σ',H',I.unwish,q⟩
 |brk=>obtain⟨σ',H',I,q⟩:=h;exact⟨σ',H',I.unwish,q⟩
 |cont=>obtain⟨σ',H',I,q⟩:=h;exact⟨σ',H',I.unwish,q⟩
 |ret u=>obtain⟨v,σ',H',I,r,q⟩:=h;exact⟨v,σ',H',I.unwish,r,q⟩
theorem PSs.nox {st:List Stmt}{t:TS}(h:PSs X.nox st t):PSs X st t:=fun pins s σ H D I hw=>
 wpAny_mono (h pins s σ H D (I.wish _) hw) (fun _ _ q=>q.unwish) fun _ _ z=>False.elim z
end
section
variable {X:Cx} {st:Stmt} {rest:List Stmt} {t u:TS} {e:Expr} {te:TE} {pos:Pos}
def tNext:TS:=fun D σ H=>D.nx σ H
def tSeq (t u:TS):TS:=fun D σ H=>t {D with nx:=u D} σ H
theorem pss_nil:PSs X [] tNext:=fun _ _ σ H _ I h=>wpAny_execs_nil ⟨σ,H,I,h⟩
theorem pss_cons (h1:PS X st t)(h2:PSs X rest u):PSs X (st::rest) (tSeq t u):=by
 intro pins s σ H D I h
 refine wpAny_execs_cons (thn (h1 pins s σ H {D with nx:=u D} I h) fun f s1 q=>?_)
 cases f with
 |next=>
  obtain⟨σ',H',I',q⟩:=q
  exact h2 pins s1 σ' H' D I' q
 |ret v=>exact q
 |brk=>exact q
 |cont=>exact q
theorem pss_one (h1:PS X st t):PSs X [st] t:=by
 intro pins s σ H D I h
 refine wpAny_execs_cons (thn (h1 pins s σ H D I h) fun f s1 q=>?_)
 cases f with
 |next=>exact wpAny_execs_nil q
 |ret v=>exact q
 |brk=>exact q
 |cont=>exact q
theorem Inv.quiet {pins:List (Addr×Obj)}{σ:St}{H:Hp}{s:Shared}(I:Inv X pins σ H s):interactive X.env=false:=by simp[interactive,I.ok.kind]
def tDrop (te:TE):TS:=fun D σ H=>te σ H fun _ H1=>D.nx σ H1
theorem ps_expr (he:PE X e te)(hs:swapsWith e none pos.line X.env=pure false:=by rfl):PS X (.Expr e pos) (tDrop te):=by
 intro pins s σ H D I h
 exact wpAny_Expr_any (thn (he pins s σ H _ I h) fun v s1 ⟨x,H1,I1,r1,q1⟩=>⟨σ,H1,I1,q1⟩) I.quiet hs
def tRet (te:TE):TS:=fun D σ H=>te σ H D.rt
theorem ps_ret (he:PE X e te):PS X (.Return (some e) pos) (tRet te):=by
 intro pins s σ H D I h
 exact wpAny_Return_some (thn (he pins s σ H _ I h) fun v s1 ⟨x,H1,I1,r1,q1⟩=>⟨x,σ,H1,I1,r1,q1⟩)
def tIfS (c:TT)(t u:TS):TS:=fun D σ H=>c σ H fun b H1=>if b=true then t D σ H1 else u D σ H1
theorem ps_if {c:Expr}{a b:List Stmt}{tc:TT}(hc:PT X c tc)(ha:PSs X a t)(hb:PSs X b u):PS X (.If c a b pos) (tIfS tc t u):=by
 intro pins s σ H D I h
 refine wpAny_If (thn (hc pins s σ H _ I h) fun d s1 ⟨H1,I1,q1⟩=>?_)
 cases d with
 |true=>exact ha pins s1 σ H1 D I1 q1
 |false=>exact hb pins s1 σ H1 D I1 q1
end
abbrev TG:=V->St->Hp->(St->Hp->Prop)->Prop
abbrev TGs:=List V->St->Hp->(St->Hp->Prop)->Prop
def PG (X:Cx)(target:Expr)(t:TG):Prop:=
 ∀(pins:List (Addr×Obj)) (s:Shared) (σ:St) (H:Hp) (v:V) (u:Value) (Q:St->Hp->Prop),Inv X pins σ H s->RelV v u->t v σ H Q ->
  wpAny (model X.prog X.w) X.A (assign target X.env u) (fun _ s'=>∃σ' H',Inv X pins σ' H' s'/\Q σ' H') X.xe s
def PGs (X:Cx)(ts:List Expr)(t:TGs):Prop:=
 ∀(pins:List (Addr×Obj)) (s:Shared) (σ:St) (H:Hp) (vs:List V) (us:List Value) (Q:St->Hp->Prop),Inv X pins σ H s->Vals vs us->t vs σ H Q ->
  wpAny (model X.prog X.w) X.A (assignInOrder ((assignEach ts X.env).map (·.2)) us) (fun _ s'=>∃σ' H',Inv X pins σ' H' s'/\Q σ' H') X.xe s
abbrev TSet:=V->V->V->Hp->(Hp->Prop)->Prop
def PSet (X:Cx)(t:TSet):Prop:=
 ∀(pins:List (Addr×Obj)) (s:Shared) (σ:St) (H:Hp) (o i v:V) (ov iv u:Value) (Q:Hp->Prop),Inv X pins σ H s->RelV o ov->RelV i iv->RelV v u->t o i v H Q ->
  wpAny (model X.prog X.w) X.A (setItem ov iv u) (fun _ s'=>∃H',Inv X pins σ H' s'/\Q H') X.xe s
abbrev TIp:=V->V->Hp->VK->Prop
def PIp (X:Cx)(op:Operator)(t:TIp):Prop:=
 ∀(pins:List (Addr×Obj)) (s:Shared) (σ:St) (H:Hp) (x y:V) (v u:Value) (Q:VK),Inv X pins σ H s->RelV x v->RelV y u->t x y H Q ->
  wpAny (model X.prog X.w) X.A (inplaceOp op v u) (EP X pins σ Q) X.xe s
section
variable {X:Cx} {pos:Pos}
def gName (i:Nat):TG:=fun v σ H Q=>Q (σ.set i (some v)) H
theorem pg_name {i:Nat}{x:Str}(hN:X.N.Nodup)(hi:X.N[i]?=some x)(hx:Loc X.env.scope x)(hf:X.fn x=true\/X.env.scope.names.lookup x=some .local:=by first|exact .inl rfl|exact .inr rfl|assumption):PG X (.Name x pos) (gName i):=by
 intro pins s σ H v u Q I r h
 exact wpAny_assign_Name (store_ok I hN hi hx r (fun s' I'=>⟨_,H,I',h⟩) hf)
def gNil:TGs:=fun vs σ H Q=>vs=[]/\Q σ H
def gCons (t:TG)(u:TGs):TGs:=fun vs σ H Q=>∃v r,vs=v::r/\t v σ H fun σ' H'=>u r σ' H' Q
theorem pgs_nil:PGs X [] gNil:=by
 intro pins s σ H vs us Q I r h
 obtain⟨e,h⟩:=h
 subst e
 cases r
 exact assignInOrder_nil ⟨σ,H,I,h⟩
theorem pgs_cons {e:Expr}{es:List Expr}{t:TG}{u:TGs}(h1:PG X e t)(h2:PGs X es u)
  (hs:(assignEach (e::es) X.env).map (·.2)=assign e X.env::(assignEach es X.env).map (·.2):=by rfl):PGs X (e::es) (gCons t u):=by
 intro pins s σ H vs us Q I r h
 obtain⟨v,vr,e1,h⟩:=h
 subst e1
 cases r with
 |cons r rr=>
  rw[hs]
  refine assignInOrder_cons (thn (h1 pins s σ H _ _ _ I r h) fun _ s1 ⟨σ1,H1,I1,q1⟩=>?_)
  exact h2 pins s1 σ1 H1 _ _ Q I1 rr q1
def gTup (K:PySem.W.Frag)(n:Nat)(t:TGs):TG:=fun v σ H Q=>∃a xs,v=.ref a/\SqT K H a xs/\xs.length=n/\t xs σ H Q
theorem pg_tup {es:List Expr}{k:Nat}{t:TGs}{n:Nat}(hc:X.calm=true)(h:PGs X es t)
  (hn:(assignEach es X.env).length=n:=by rfl) (hst:(assignEach es X.env).findIdx? (·.1)=none:=by rfl):PG X (.Tuple es k pos) (gTup X.K n t):=by
 intro pins s σ H v u Q I r hw
 obtain⟨a,xs,e1,hq,hl,hw⟩:=hw
 subst e1
 cases r
 obtain⟨its,rv,ht,hz⟩:=I.tuple hq
 refine assign_Tuple_tuple (I.ok.hd hc) ht (by simp[hn,<-hl,rv.length]) hst fun h' hx=>?_
 have I1:Inv X pins σ H {s with heap:=h' }:=I.kept (t':=s.toks) fun b o e=>hx b o (Nat.ne_of_lt (Heap.lt_size e)) e
 exact h pins _ σ H xs _ Q I1 (by simpa using rv) hw
def gSub (to ti:TE)(t:TSet):TG:=fun v σ H Q=>to σ H fun o H1=>ti σ H1 fun i H2=>t o i v H2 fun H3=>Q σ H3
theorem pg_sub {o i:Expr}{to ti:TE}{t:TSet}(ho:PE X o to)(hi:PE X i ti)(hs:PSet X t)
  (ha:∀v,assign (.Subscript o i pos) X.env v=(do
   let ov <- holding [v] (eval o X.env)
   let iv <- holding [v,ov] (eval i X.env)
   standAt pos
   holding [v,ov,iv] (setItem ov iv v)
   release [v,ov,iv] []):=by intro _;rfl):PG X (.Subscript o i pos) (gSub to ti t):=by
 intro pins s σ H v u Q I r h
 rw[ha]
 refine wpAny_bind (wpAny_holding (thn (ho pins s σ H _ I h) fun ov s1 ⟨x,H1,I1,r1,q1⟩=>?_))
 refine wpAny_bind (wpAny_holding (thn (hi pins s1 σ H1 _ I1 q1) fun iv s2 ⟨y,H2,I2,r2,q2⟩=>?_))
 refine wpAny_bind (wpAny_standAt (wpAny_bind (wpAny_holding (thn (hs pins s2 σ H2 x y v ov iv u _ I2 r1 r2 r q2) fun _ s3 ⟨H3,I3,q3⟩=>?_))))
 exact wpAny_release ⟨σ,H3,I3,q3⟩
def tAsg (te:TE)(g:TG):TS:=fun D σ H=>te σ H fun x H1=>g x σ H1 D.nx
theorem ps_asg {tg e:Expr}{te:TE}{g:TG}(he:PE X e te)(hg:PG X tg g)(hs:swapsWithSole [tg] e pos.line X.env=pure false:=by rfl)(hw:swappedStores [tg] e X.env=pure none:=by rfl)
  (h1:(assignEach [tg] X.env).map (·.2)=[assign tg X.env]:=by rfl):PS X (.Assign [tg] e pos) (tAsg te g):=by
 intro pins s σ H D I h
 refine wpAny_Assign_stores (thn (he pins s σ H _ I h) fun v s1 ⟨x,H1,I1,r1,q1⟩=>?_) hs hw
 rw[h1]
 exact thn (hg pins s1 σ H1 x v _ I1 r1 q1) fun _ s2 q=>q
theorem ps_set {i:Nat}{x:Str}{e:Expr}{te:TE}{pos':Pos}(hN:X.N.Nodup)(hi:X.N[i]?=some x)(hx:Loc X.env.scope x)(he:PE X e te)(hs:swapsWith e (some (.Name x pos')) pos.line X.env=pure false:=by rfl)(hf:X.fn x=true\/X.env.scope.names.lookup x=some .local:=by first|exact .inl rfl|exact .inr rfl|assumption):
  PS X (.Assign [.Name x pos'] e pos) (tAsg te (gName i)):=by
 intro pins s σ H D I h
 refine wpAny_Assign_Name (thn (he pins s σ H _ I h) fun v s1 ⟨y,H1,I1,r1,q1⟩=>?_) hs
 exact store_ok I1 hN hi hx r1 (fun s2 I2=>⟨_,H1,I2,q1⟩) hf
def tAug (i:Nat)(te:TE)(ti:TIp):TS:=fun D σ H=>∃x,σ[i]?=some (some x)/\te σ H fun y H1=>ti x y H1 fun z H2=>D.nx (σ.set i (some z)) H2
theorem ps_aug {i:Nat}{x:Str}{e:Expr}{te:TE}{op:Operator}{ti:TIp}{pos':Pos}(hN:X.N.Nodup)(hi:X.N[i]?=some x)(hx:Loc X.env.scope x)(he:PE X e te)(ho:PIp X op ti)(hf:X.fn x=true\/X.env.scope.names.lookup x=some .local:=by first|exact .inl rfl|exact .inr rfl|assumption):
  PS X (.AugAssign (.Name x pos') op e pos) (tAug i te ti):=by
 intro pins s σ H D I h
 obtain⟨v,e1,h⟩:=h
 obtain⟨m,hn,hl⟩:=I.loc
 have vis:Vis X.env.scope x:=by rcases hx with k|k;exact .inl k;exact .inr (.inl k)
 obtain⟨u,r,l⟩:=hl i x v hi e1 vis
 refine wpAny_AugAssign_Name ?_
 have go:wpAny (model X.prog X.w) X.A (eval e X.env) (fun w s₂=>wpAny (model X.prog X.w) X.A (inplaceOp op u w) (fun r s₃=>wpAny (model X.prog X.w) X.A (storeName X.env x r) (fun _=>SP X pins D .next) X.xe s₃) X.xe s₂) X.xe s:=by
  refine thn (he pins s σ H _ I h) fun w s1 ⟨y,H1,I1,r1,q1⟩=>?_
  refine thn (ho pins s1 σ H1 v y u w _ I1 r r1 q1) fun z s2 ⟨zv,H2,I2,r2,q2⟩=>?_
  exact store_ok I2 hN hi hx r2 (fun s3 I3=>⟨_,H2,I3,q2⟩) hf
 rcases l with ⟨hk,hm⟩|⟨hk,c,hc,hcell⟩
 ·exact wpAny_loadName_local I.ok.kind hk hn hm go
 ·rcases hk with hk|hk
  ·exact wpAny_loadName_cell I.ok.kind hk hc hcell go
  ·rcases hx with k|k
   ·have:X.env.scope.names.lookup x=some .free:=hk
    rw[k]at this;cases this
   ·have:X.env.scope.names.lookup x=some .free:=hk
    rw[k]at this;cases this
def ipI (f:Int->Int->Int):TIp:=fun x y H Q=>∃i j,x=.int i/\y=.int j/\Q (.int (f i j)) H
theorem ip_add:PIp X .Add (ipI fun i j=>i+j):=by
 intro pins s σ H x y v u Q I r1 r2 h
 obtain⟨i,j,e1,e2,q⟩:=h
 subst e1;subst e2
 obtain⟨t,rfl⟩:=r1
 obtain⟨t',rfl⟩:=r2
 exact iadd_int ⟨.int _,H,I.tok _,⟨_,rfl⟩,q⟩
theorem ip_sub:PIp X .Sub (ipI fun i j=>i-j):=by
 intro pins s σ H x y v u Q I r1 r2 h
 obtain⟨i,j,e1,e2,q⟩:=h
 subst e1;subst e2
 obtain⟨t,rfl⟩:=r1
 obtain⟨t',rfl⟩:=r2
 exact isub_int ⟨.int _,H,I.tok _,⟨_,rfl⟩,q⟩
end
section
variable {X:Cx} {pos:Pos}
def tWhile (c:TT)(tb:TS):TS:=fun D σ H=>∃W:Nat->St->Hp->Prop,(∃m,W m σ H)/\∀m σ H,W m σ H ->
 c σ H fun b H1=>if b=true then ∃N:St->Hp->Prop,(∀σ' H',N σ' H'->∃m',m'<m/\W m' σ' H')/\tb {D with nx:=N,ct:=N,bk:=D.nx} σ H1 else D.nx σ H1
theorem ps_while {c:Expr}{body:List Stmt}{tc:TT}{tb:TS}(hp:PassesOwn (model X.prog X.w) X.A X.env X.xe)(hc:PT X c tc)(hb:PSs X body tb):PS X (.While c body [] pos) (tWhile tc tb):=by
 intro pins s σ H D I h
 obtain⟨W,⟨m0,w0⟩,turn⟩:=h
 refine wpAny_While (codeAny_whileLoop (fun n s'=>∃σ' H',Inv X pins σ' H' s'/\W n σ' H') ?_ m0 ⟨σ,H,I,w0⟩)
 rintro n s1 ⟨σ1,H1,I1,w1⟩
 refine wpAny_passesOwn hp (thn (hc pins s1 σ1 H1 _ I1 (turn n σ1 H1 w1)) fun b s2 ⟨H2,I2,q2⟩=>?_)
 cases b with
 |true=>
  obtain⟨N,hN,q2⟩:=q2
  rw[if_pos rfl]
  refine wpAny_passesOwn hp (thn (hb pins s2 σ1 H2 _ I2 q2) fun f s3 q3=>?_)
  cases f with
  |next=>
   obtain⟨σ3,H3,I3,n3⟩:=q3
   obtain⟨m',hm,w3⟩:=hN σ3 H3 n3
   exact⟨m',hm,σ3,H3,I3,w3⟩
  |cont=>
   obtain⟨σ3,H3,I3,n3⟩:=q3
   obtain⟨m',hm,w3⟩:=hN σ3 H3 n3
   exact⟨m',hm,σ3,H3,I3,w3⟩
  |brk=>exact q3
  |ret v=>exact q3
 |false=>
  rw[if_neg Bool.false_ne_true]
  exact wpAny_execs_nil ⟨σ1,H2,I2,q2⟩
end
structure It where
 go:Nat->Hp->Prop
 yld:Nat->Hp->V->Hp->Prop
 stop:Nat->Hp->Prop
def FpOk (X:Cx)(pins:List (Addr×Obj))(H:Hp)(b:Addr):Prop:=
 H b=none/\b≠X.env.locals/\b∉X.fs/\(b∈X.ex\/X.s₀.heap.objs.size<=b)/\(∀x c,X.env.cells.lookup x=some c->c≠b)/\∀p∈X.pn++pins,p.1≠b
theorem Inv.fpOk {X:Cx}{pins:List (Addr×Obj)}{σ:St}{H H':Hp}{s:Shared}{b:Addr}(I:Inv X pins σ H s)(hb:s.heap.objs.size<=b)(hn:H' b=none):FpOk X pins H' b:=by
 refine⟨hn,Nat.ne_of_gt (Nat.lt_of_lt_of_le I.lt hb),I.nofs hb,.inr (Nat.le_trans I.sz hb),fun x c e z=>?_,fun p hp z=>?_⟩
 ·obtain⟨v,q⟩:=I.cell x c e
  exact absurd (Nat.lt_of_lt_of_le q.lt (by rw[z];exact hb)) (Nat.lt_irrefl _)
 ·exact absurd (Nat.lt_of_lt_of_le (Heap.lt_size (I.pin p hp).1) (by rw[z];exact hb)) (Nat.lt_irrefl _)
structure Turn (P:Program)(w:World)(K:PySem.W.Frag)(tg:Expr)(J:It)(fp:List Addr)(it:Addr)(tn:Nat->Heap->Prop):Prop where
 mem:it∈fp
 obj:∀i h,tn i h->∀b∈fp,∃o,h.get? b=some o/\∀v,o.data ≠ .cell v
 keep:∀i h h',tn i h->(∀b∈fp,∀o,h.get? b=some o->h'.get? b=some o)->tn i h'
 item:∀(X:Cx),X.prog=P->X.w=w->X.K=K->X.calm=true->∀(i:Nat) (pins:List (Addr×Obj)) (s:Shared) (σ:St) (H:Hp) (E:Value->Shared->Prop),Inv X pins σ H s->(∀b∈fp,FpOk X pins H b)->tn i s.heap->J.go i H ->
  wpAny (model P w) X.A (pyNext (.ref it)) (fun r s1=>∃u,r=some u /\
   wpAny (model P w) X.A (letOwnedTupleGo tg (.ref it) u) (fun _ s2=>∃x H',Inv X pins σ H' s2/\RelV x u/\J.yld i H x H'/\tn (i+1) s2.heap/\∀b∈fp,H' b=none) E s1) E s
 done:∀(X:Cx),X.prog=P->X.w=w->X.K=K->X.calm=true->∀(i:Nat) (pins:List (Addr×Obj)) (s:Shared) (σ:St) (H:Hp) (E:Value->Shared->Prop),Inv X pins σ H s->(∀b∈fp,FpOk X pins H b)->tn i s.heap->J.stop i H ->
  wpAny (model P w) X.A (pyNext (.ref it)) (fun r s1=>r=none/\Inv X pins σ H s1) E s
 self:∀(A:Around) (i:Nat) (s:Shared) (Q:Value->Shared->Prop) (E:Value->Shared->Prop),tn i s.heap->Q (.ref it) s->wpAny (model P w) A (pyIter (.ref it)) Q E s
abbrev TI:=St->Hp->(It->Hp->Prop)->Prop
def PIE (X:Cx)(pins:List (Addr×Obj))(σ:St)(tg:Expr)(R:It->Hp->Prop)(itv:Value)(s2:Shared):Prop:=
 ∃(it:Addr) (fp:List Addr) (tn:Nat->Heap->Prop) (J:It) (H':Hp),itv=.ref it/\Inv X pins σ H' s2/\Turn X.prog X.w X.K tg J fp it tn/\tn 0 s2.heap/\(∀b∈fp,FpOk X pins H' b)/\R J H'
def PI (X:Cx)(tg iter:Expr)(wi:TI):Prop:=
 ∀(pins:List (Addr×Obj)) (s:Shared) (σ:St) (H:Hp) (R:It->Hp->Prop),Inv X pins σ H s->wi σ H R ->
  wpAny (model X.prog X.w) X.A (eval iter X.env) (fun v s1=>wpAny (model X.prog X.w) X.A (pyIter v) (PIE X pins σ tg R) X.xe s1) X.xe s
theorem go_of {M:Model}{A:Around}{E:Value->Shared->Prop}{s:Shared}{tg:Expr}{it:Addr}{u:Value}{o:Obj}{n:String}{vs:Array Value}{Q:Unit->Shared->Prop}(ho:s.heap.get? it=some o)(hc:o.cls=.type n)(hd:o.data=.fields vs)
    (hn:["enumerate","zip","dict_itemiterator","dict_reverseitemiterator","odict_iterator","itertools.zip_longest","itertools.pairwise"].contains n=false) (hQ:Q () s):wpAny M A (letOwnedTupleGo tg (.ref it) u) Q E s:=by
  unfold letOwnedTupleGo
  cases tg<;>first
    | exact wpAny_pure hQ
    | (cases u<;>first
        | exact wpAny_pure hQ
        | (refine wpAny_bind (wpAny_load ho ?_)
           rw[hc,hd]
           show wpAny M A (if (["enumerate","zip","dict_itemiterator","dict_reverseitemiterator","odict_iterator","itertools.zip_longest","itertools.pairwise"].contains n&&vs[0]? == some (rawInt _))=true then _ else _) Q E s
           rw[if_neg (by intro h;rw[hn,Bool.false_and]at h;cases h)]
           exact wpAny_pure hQ))
def Itl (K:PySem.W.Frag)(a:Addr):It:=
 ⟨fun i H=>∃xs x,SqL K H a xs/\xs[i]?=some x,fun i H x H'=>H'=H/\∀xs,SqL K H a xs->xs[i]?=some x,fun i H=>∃xs,SqL K H a xs/\xs.length<=i⟩
def Itt (K:PySem.W.Frag)(a:Addr):It:=
 ⟨fun i H=>∃xs x,SqT K H a xs/\xs[i]?=some x,fun i H x H'=>H'=H/\∀xs,SqT K H a xs->xs[i]?=some x,fun i H=>∃xs,SqT K H a xs/\xs.length<=i⟩
def Itr (lo:Int)(n:Nat):It:=⟨fun i _=>i<n,fun i H x H'=>H'=H/\x=.int (lo+i),fun i _=>n<=i⟩
theorem turn_list {P:Program}{w:World}{K:PySem.W.Frag}{tg:Expr}(a it:Addr):Turn P w K tg (Itl K a) [it] it (fun i h=>h.IsListIter it a i) where
 mem:=by simp
 obj:=fun i h st b hb=>by
  have e:b=it:=by simpa using hb
  subst e
  obtain⟨o,e,c,d⟩:=st
  exact⟨o,e,fun v z=>by rw[d]at z;cases z⟩
 keep:=fun i h h' st k=>st.at fun o e=>k it (by simp) o e
 item:=by
  intro X hP hw hK hc i pins s σ H E I hf st hg
  subst hP hw hK
  obtain⟨xs,x,hq,hx⟩:=hg
  obtain⟨its,rv,p,hz⟩:=I.list hq
  obtain⟨u,hu,ru⟩:=rv.get hx
  obtain⟨f0,f1,f2,f3,f4,f5⟩:=hf it (by simp)
  refine wpAny_pyNext_list_item st p.isList (x:=u) (by simpa using hu) fun h' st' sb=>?_
  have I1:Inv X pins σ H {s with heap:=h' }:=I.turned (t':=s.toks) (fun b o hb e=>(sb.2 b hb).trans e) f0 f1 f3 f4 f5
  obtain⟨o,e,c,d⟩:=id st'
  exact⟨u,rfl,go_of (s:={s with heap:=h' }) e c d (by decide) ⟨x,H,I1,ru,⟨rfl,fun ys hy=>by rw[I.list_inj hy hq];exact hx⟩,st',fun b hb=>(hf b hb).1⟩⟩
 done:=by
  intro X hP hw hK hc i pins s σ H E I hf st hg
  subst hP hw hK
  obtain⟨xs,hq,hx⟩:=hg
  obtain⟨its,rv,p,hz⟩:=I.list hq
  obtain⟨f0,f1,f2,f3,f4,f5⟩:=hf it (by simp)
  have hl:=rv.length
  exact wpAny_pyNext_list_end (I.ok.hd hc) st p.isList (by simp;omega) fun h' eb=>⟨rfl,I.turned (t':=s.toks) (fun b o hb e=>eb b o hb e) f0 f1 f3 f4 f5⟩
 self:=fun _ _ _ _ _ st h=>wpAny_pyIter_listiter st h
theorem turn_tuple {P:Program}{w:World}{K:PySem.W.Frag}{tg:Expr}(a it:Addr):Turn P w K tg (Itt K a) [it] it (fun i h=>h.IsTupleIter it a i) where
 mem:=by simp
 obj:=fun i h st b hb=>by
  have e:b=it:=by simpa using hb
  subst e
  obtain⟨o,e,c,d⟩:=st
  exact⟨o,e,fun v z=>by rw[d]at z;cases z⟩
 keep:=fun i h h' st k=>st.at fun o e=>k it (by simp) o e
 item:=by
  intro X hP hw hK hc i pins s σ H E I hf st hg
  subst hP hw hK
  obtain⟨xs,x,hq,hx⟩:=hg
  obtain⟨its,rv,p,hz⟩:=I.tuple hq
  obtain⟨u,hu,ru⟩:=rv.get hx
  obtain⟨f0,f1,f2,f3,f4,f5⟩:=hf it (by simp)
  refine wpAny_pyNext_tuple_item st (show s.heap.IsTuple a its.toArray from p) (x:=u) (by simpa using hu) fun h' st' sb=>?_
  have I1:Inv X pins σ H {s with heap:=h' }:=I.turned (t':=s.toks) (fun b o hb e=>(sb.2 b hb).trans e) f0 f1 f3 f4 f5
  obtain⟨o,e,c,d⟩:=id st'
  exact⟨u,rfl,go_of (s:={s with heap:=h' }) e c d (by decide) ⟨x,H,I1,ru,⟨rfl,fun ys hy=>by rw[I.tuple_inj hy hq];exact hx⟩,st',fun b hb=>(hf b hb).1⟩⟩
 done:=by
  intro X hP hw hK hc i pins s σ H E I hf st hg
  subst hP hw hK
  obtain⟨xs,hq,hx⟩:=hg
  obtain⟨its,rv,p,hz⟩:=I.tuple hq
  obtain⟨f0,f1,f2,f3,f4,f5⟩:=hf it (by simp)
  have hl:=rv.length
  exact wpAny_pyNext_tuple_end (I.ok.hd hc) st (show s.heap.IsTuple a its.toArray from p) (by simp;omega) fun h' eb=>⟨rfl,I.turned (t':=s.toks) (fun b o hb e=>eb b o hb e) f0 f1 f3 f4 f5⟩
 self:=fun _ _ _ _ _ st h=>wpAny_pyIter_tupleiter st h
theorem turn_range {P:Program}{w:World}{K:PySem.W.Frag}{tg:Expr}(it:Addr)(lo:Int)(n:Nat):Turn P w K tg (Itr lo n) [it] it (fun i h=>IsRangeIter h it (lo+(i:Nat)*1) ((n:Int)-(i:Nat)) 1) where
 mem:=by simp
 obj:=fun i h st b hb=>by
  have e:b=it:=by simpa using hb
  subst e
  exact⟨_,st,fun v z=>by
   have z':Data.fields _=Data.cell v:=z
   cases z'⟩
 keep:=fun i h h' st k=>k it (by simp) _ st
 item:=by
  intro X hP hw hK hc i pins s σ H E I hf st hg
  subst hP hw hK
  obtain⟨f0,f1,f2,f3,f4,f5⟩:=hf it (by simp)
  have W:=Walks.range (prog:=X.prog) (w:=X.w) (I.ok.hd hc) it lo 1 n
  refine W.item i s _ _ hg st fun v h' tk hv st' kk=>?_
  obtain⟨t,rfl⟩:=hv
  have I1:Inv X pins σ H {s with heap:=h',toks:=tk}:=I.turned (fun b o hb e=>kk b o (by simpa using hb) e) f0 f1 f3 f4 f5
  refine⟨_,rfl,go_of (s:={s with heap:=h',toks:=tk}) (n := "range_iterator") st' rfl rfl (by decide) ⟨.int (lo+i),H,I1,⟨t,?_⟩,⟨rfl,rfl⟩,st',fun b hb=>(hf b hb).1⟩⟩
  rw[Int.mul_one]
 done:=by
  intro X hP hw hK hc i pins s σ H E I hf st hg
  subst hP hw hK
  obtain⟨f0,f1,f2,f3,f4,f5⟩:=hf it (by simp)
  exact wpAny_pyNext_range_end (I.ok.hd hc) st (by have:n<=i:=hg;omega) fun h' eb=>⟨rfl,I.turned (t':=s.toks) (fun b o hb e=>eb b o hb e) f0 f1 f3 f4 f5⟩
 self:=fun _ _ _ _ _ st h=>wpAny_pyIter_rangeiter st h
end L2
namespace L2
open PySem PySem.Spec PyProof.Rows
section
variable {X:Cx} {tg:Expr}
def iList (K:PySem.W.Frag)(tl:TE):TI:=fun σ H R=>tl σ H fun x H1=>∃a,x=.ref a/\(∃xs,SqL K H1 a xs)/\R (Itl K a) H1
def iTup (K:PySem.W.Frag)(tl:TE):TI:=fun σ H R=>tl σ H fun x H1=>∃a,x=.ref a/\(∃xs,SqT K H1 a xs)/\R (Itt K a) H1
theorem pi_list {l:Expr}{tl:TE}(hl:PE X l tl):PI X tg l (iList X.K tl):=by
 intro pins s σ H R I h
 refine thn (hl pins s σ H _ I h) fun v s1 ⟨x,H1,I1,r1,q1⟩=>?_
 obtain⟨a,e,⟨xs,hq⟩,q⟩:=q1
 subst e
 cases r1
 obtain⟨its,rv,p,hz⟩:=I1.list hq
 refine wpAny_pyIter_list p.isList ?_
 refine⟨s1.heap.objs.size,[s1.heap.objs.size],_,_,H1,rfl,I1.kept (t':=s1.toks) fun b o e=>Heap.get?_push_of_some _ e,turn_list a _,⟨_,Heap.get?_push_size _ rfl,rfl,rfl⟩,fun b hb=>?_,q⟩
 have e:b=s1.heap.objs.size:=by simpa using hb
 subst e
 exact I1.fpOk (Nat.le_refl _) (I1.hok.fresh (Nat.le_refl _))
theorem pi_tup {l:Expr}{tl:TE}(hl:PE X l tl):PI X tg l (iTup X.K tl):=by
 intro pins s σ H R I h
 refine thn (hl pins s σ H _ I h) fun v s1 ⟨x,H1,I1,r1,q1⟩=>?_
 obtain⟨a,e,⟨xs,hq⟩,q⟩:=q1
 subst e
 cases r1
 obtain⟨its,rv,p,hz⟩:=I1.tuple hq
 refine wpAny_pyIter_tuple (show s1.heap.IsTuple a its.toArray from p) ?_
 refine⟨s1.heap.objs.size,[s1.heap.objs.size],_,_,H1,rfl,I1.kept (t':=s1.toks) fun b o e=>Heap.get?_push_of_some _ e,turn_tuple a _,⟨_,Heap.get?_push_size _ rfl,rfl,rfl⟩,fun b hb=>?_,q⟩
 have e:b=s1.heap.objs.size:=by simpa using hb
 subst e
 exact I1.fpOk (Nat.le_refl _) (I1.hok.fresh (Nat.le_refl _))
theorem range_it {pins:List (Addr×Obj)}{σ:St}{H:Hp}{s:Shared}{R:It->Hp->Prop}{E:Value->Shared->Prop}{lo hi:Int}{t u v:Tok}{tk:Nat}(I:Inv X pins σ H s)(h1 : -(2 ^ 62)<=lo)(h2:lo<2 ^ 62)(h3 : -(2 ^ 62)<=hi)(h4:hi<2 ^ 62)
  (q:R (Itr lo (hi-lo).toNat) H):wpAny (model X.prog X.w) X.A (pyIter (.ref s.heap.objs.size)) (PIE X pins σ tg R) E {s with heap:=s.heap.push {cls:=.type "range",data:=.fields #[.int lo t,.int hi u,.int 1 v]},toks:=tk}:=by
 refine wpAny_pyIter_range (IsRange.new ..) (small_one h1 h2 h3 h4) ?_
 have I1:Inv X pins σ H {s with heap:=s.heap.push {cls:=.type "range",data:=.fields #[.int lo t,.int hi u,.int 1 v]},toks:=tk}:=I.kept fun b o e=>Heap.get?_push_of_some _ e
 refine⟨(s.heap.push {cls:=.type "range",data:=.fields #[.int lo t,.int hi u,.int 1 v]}).objs.size,[(s.heap.push {cls:=.type "range",data:=.fields #[.int lo t,.int hi u,.int 1 v]}).objs.size],_,_,H,rfl,
  I1.kept (t':=tk) fun b o e=>Heap.get?_push_of_some _ e,turn_range _ lo (hi-lo).toNat,?_,fun b hb=>?_,q⟩
 ·have e1:lo+((0:Nat):Int)*1=lo:=by simp
  have e2:(((hi-lo).toNat:Nat):Int)-((0:Nat):Int)=Builtin.Range.rangeSize lo hi 1:=by rw[rangeSize_one];split<;>omega
  show IsRangeIter _ _ (lo+((0:Nat):Int)*1) ((((hi-lo).toNat:Nat):Int)-((0:Nat):Int)) 1
  rw[e1,e2]
  exact Heap.get?_push_size _ rfl
 ·have e:b=(s.heap.push {cls:=.type "range",data:=.fields #[.int lo t,.int hi u,.int 1 v]}).objs.size:=by simpa using hb
  subst e
  exact I1.fpOk (Nat.le_refl _) (I1.hok.fresh (Nat.le_refl _))
def iRng1 (ta:TA):TI:=fun σ H R=>ta σ H fun vs H1=>∃j:Int,vs=[.int j] /\ -(2 ^ 62)<=j/\j<2 ^ 62/\R (Itr 0 j.toNat) H1
theorem pi_range1 {a:Expr}{ta:TA}{p pos:Pos}(hg:Gl X "range")(hm:X.mg "range"=none)(ha:PA X [a] ta)(hs:starEach [a] X.env=[(false,eval a X.env)]:=by rfl):PI X tg (.Call (.Name "range" p) [a] [] pos) (iRng1 ta):=by
 intro pins s σ H R I h
 refine Call_ (ld_blt I hg hm boot_range (PyProof.Rows.callWith_type1 (thn (ha pos pins s σ H _ I h) fun us s1 ⟨vs,H1,I1,r1,q1⟩=>?_) hs rfl))
 obtain⟨j,e,q1,q2,q⟩:=q1
 subst e
 cases r1 with
 |cons r rr=>
  cases rr
  obtain⟨t,rfl⟩:=r
  exact call_range_1 (range_it I1 (by omega) (by omega) q1 q2 (by simpa using q))
def tFor (wi:TI)(g:TG)(tb:TS):TS:=fun D σ H=>wi σ H fun J H1=>∃W:Nat->Nat->St->Hp->Prop,(∃m,W 0 m σ H1)/\∀i m σ H,W i m σ H ->
 (J.stop i H/\D.nx σ H)\/(J.go i H/\∃N:St->Hp->Prop,(∀σ' H',N σ' H'->∃m',m'<m/\W (i+1) m' σ' H')/\∀x H',J.yld i H x H'->g x σ H' fun σ2 H2=>tb {D with nx:=N,ct:=N,bk:=D.nx} σ2 H2)
def pinsAt (fp:List Addr)(h:Heap):List (Addr×Obj):=fp.filterMap fun b=>(h.get? b).map fun o=>(b,o)
theorem mem_pinsAt {fp:List Addr}{h:Heap}{b:Addr}{o:Obj}(hb:b∈fp)(e:h.get? b=some o):(b,o)∈pinsAt fp h:=List.mem_filterMap.mpr ⟨b,hb,by rw[e];rfl⟩
theorem of_pinsAt {fp:List Addr}{h:Heap}{p:Addr×Obj}(hp:p∈pinsAt fp h):p.1∈fp/\h.get? p.1=some p.2:=by
 obtain⟨b,hb,e⟩:=List.mem_filterMap.mp hp
 cases q:h.get? b with
 |none=>rw[q]at e;cases e
 |some o=>
  rw[q]at e
  have e':(b,o)=p:=Option.some.inj e
  subst e'
  exact⟨hb,q⟩
theorem Inv.pinned {pins:List (Addr×Obj)}{σ:St}{H:Hp}{s:Shared}{fp:List Addr}(I:Inv X pins σ H s)(hf:∀b∈fp,FpOk X pins H b)(ho:∀b∈fp,∃o,s.heap.get? b=some o/\∀v,o.data ≠ .cell v):Inv X (pins++pinsAt fp s.heap) σ H s:=
 I.pins_of fun p hp=>(List.mem_append.mp hp).elim (fun z=>I.pin p (List.mem_append_right _ z)) fun z=>by
  obtain⟨hb,e⟩:=of_pinsAt z
  obtain⟨f0,f1,f2,_⟩:=hf p.1 hb
  obtain⟨o,e',d⟩:=ho p.1 hb
  rw[e]at e';cases e'
  exact⟨e,f0,f1,f2,d⟩
theorem Inv.unpinned {pins pl:List (Addr×Obj)}{σ:St}{H:Hp}{s:Shared}(I:Inv X (pins++pl) σ H s):Inv X pins σ H s:=I.pins_of fun p hp=>I.pin p (List.mem_append_right _ (List.mem_append_left _ hp))
theorem ps_for {iter:Expr}{body:List Stmt}{wi:TI}{g:TG}{tb:TS}{pos:Pos}(hp:PassesOwn (model X.prog X.w) X.A X.env X.xe)(hc:X.calm=true)(hi:PI X tg iter wi)(hg:PG X tg g)(hb:PSs X body tb)
  (hs:∀x,foldedSetIterable iter X.env x=pure x:=by intro _;rfl):PS X (.For tg iter body [] pos) (tFor wi g tb):=by
 intro pins s σ H D I h
 refine wpAny_For (thn (hi pins s σ H _ I h) fun v s1 h1=>thn h1 fun itv s2 h2=>?_) hs
 obtain⟨it,fp,tn,J,H2,e,I2,T,st2,f2,W,⟨m0,w0⟩,turn⟩:=h2
 subst e
 -- what stays true of the iterator's objects through the loop
 have stat:∀{H':Hp},(∀b∈fp,H' b=none)->∀b∈fp,FpOk X pins H' b:=fun hn b hb=>⟨hn b hb,(f2 b hb).2⟩
 refine codeAny_forLoop_any (fun n s'=>∃i σ' H',Inv X pins σ' H' s'/\tn i s'.heap/\(∀b∈fp,H' b=none)/\W i n σ' H') ?_ m0 ⟨0,σ,H2,I2,st2,fun b hb=>(f2 b hb).1,w0⟩
 rintro n s3 ⟨i,σ3,H3,I3,st3,fr3,w3⟩
 rcases turn i n σ3 H3 w3 with ⟨stop,qn⟩|⟨go,N,hN,step⟩
 ·refine wpAny_passesOwn hp (thn (T.done X rfl rfl rfl hc i pins s3 σ3 H3 X.xe I3 (stat fr3) st3 stop) fun r s4 ⟨hr,I4⟩=>?_)
  subst hr
  exact wpAny_execs_nil ⟨σ3,H3,I4,qn⟩
 ·refine wpAny_passesOwn hp (thn (T.item X rfl rfl rfl hc i pins s3 σ3 H3 X.xe I3 (stat fr3) st3 go) fun r s4 ⟨u,hr,h4⟩=>?_)
  subst hr
  refine wpAny_passesOwn hp (thn h4 fun _ s5 ⟨x,H5,I5,r5,y5,st5,fr5⟩=>?_)
  have I5':=I5.pinned (stat fr5) (T.obj _ _ st5)
  refine wpAny_passesOwn hp (thn (hg _ s5 σ3 H5 x u _ I5' r5 (step x H5 y5)) fun _ s6 ⟨σ6,H6,I6,q6⟩=>?_)
  refine wpAny_passesOwn hp (thn (hb _ s6 σ6 H6 _ I6 q6) fun f s7 q7=>?_)
  have again:∀{σ7:St} {H7:Hp},Inv X (pins++pinsAt fp s5.heap) σ7 H7 s7->N σ7 H7->∃m,m<n/\∃i σ' H',Inv X pins σ' H' s7/\tn i s7.heap/\(∀b∈fp,H' b=none)/\W i m σ' H':=fun {σ7 H7} I7 n7=>by
   obtain⟨m',hm,w7⟩:=hN σ7 H7 n7
   refine⟨m',hm,i+1,σ7,H7,I7.unpinned,T.keep _ _ _ st5 fun b hb o e=>(I7.pin (b,o) (List.mem_append_right _ (List.mem_append_right _ (mem_pinsAt hb e)))).1,fun b hb=>?_,w7⟩
   obtain⟨o,e,d⟩:=T.obj _ _ st5 b hb
   exact (I7.pin (b,o) (List.mem_append_right _ (List.mem_append_right _ (mem_pinsAt hb e)))).2.1
  cases f with
  |next=>obtain⟨σ7,H7,I7,n7⟩:=q7;exact again I7 n7
  |cont=>obtain⟨σ7,H7,I7,n7⟩:=q7;exact again I7 n7
  |brk=>obtain⟨σ7,H7,I7,q7⟩:=q7;exact⟨σ7,H7,I7.unpinned,q7⟩
  |ret v=>obtain⟨x7,σ7,H7,I7,r7,q7⟩:=q7;exact⟨x7,σ7,H7,I7.unpinned,r7,q7⟩
end
theorem for_list {K:PySem.W.Frag}{a:Addr}{xs:List V}{g:TG}{tb:TS}{D:Ends}{σ:St}{H:Hp}(Pv:Nat->St->Hp->Prop)(h0:Pv 0 σ H)(hl:∀i σ H,i<=xs.length->Pv i σ H->SqL K H a xs)
  (hs:∀i x σ H,xs[i]?=some x->Pv i σ H->g x σ H fun σ2 H2=>tb {D with nx:=Pv (i+1),ct:=Pv (i+1),bk:=D.nx} σ2 H2) (hd:∀σ H,Pv xs.length σ H->D.nx σ H):
  ∃W:Nat->Nat->St->Hp->Prop,(∃m,W 0 m σ H)/\∀i m σ H,W i m σ H ->
   ((Itl K a).stop i H/\D.nx σ H)\/((Itl K a).go i H/\∃N:St->Hp->Prop,(∀σ' H',N σ' H'->∃m',m'<m/\W (i+1) m' σ' H')/\∀x H',(Itl K a).yld i H x H'->g x σ H' fun σ2 H2=>tb {D with nx:=N,ct:=N,bk:=D.nx} σ2 H2):=by
 refine⟨fun i m σ H=>m=xs.length-i/\i<=xs.length/\Pv i σ H,⟨xs.length,by simp,Nat.zero_le _,h0⟩,?_⟩
 rintro i m σ H ⟨rfl,hi,p⟩
 have q:=hl i σ H hi p
 by_cases hlt:i<xs.length
 ·refine .inr ⟨⟨xs,xs[i],q,by simp[hlt]⟩,Pv (i+1),fun σ' H' p'=>⟨xs.length-(i+1),by omega,rfl,hlt,p'⟩,fun x H' y=>?_⟩
  obtain⟨e,y⟩:=y
  subst e
  exact hs i x σ _ (y xs q) p
 ·have e:i=xs.length:=by omega
  subst e
  exact .inl ⟨⟨xs,q,Nat.le_refl _⟩,hd σ H p⟩
theorem for_tup {K:PySem.W.Frag}{a:Addr}{xs:List V}{g:TG}{tb:TS}{D:Ends}{σ:St}{H:Hp}(Pv:Nat->St->Hp->Prop)(h0:Pv 0 σ H)(hl:∀i σ H,i<=xs.length->Pv i σ H->SqT K H a xs)
  (hs:∀i x σ H,xs[i]?=some x->Pv i σ H->g x σ H fun σ2 H2=>tb {D with nx:=Pv (i+1),ct:=Pv (i+1),bk:=D.nx} σ2 H2) (hd:∀σ H,Pv xs.length σ H->D.nx σ H):
  ∃W:Nat->Nat->St->Hp->Prop,(∃m,W 0 m σ H)/\∀i m σ H,W i m σ H ->
   ((Itt K a).stop i H/\D.nx σ H)\/((Itt K a).go i H/\∃N:St->Hp->Prop,(∀σ' H',N σ' H'->∃m',m'<m/\W (i+1) m' σ' H')/\∀x H',(Itt K a).yld i H x H'->g x σ H' fun σ2 H2=>tb {D with nx:=N,ct:=N,bk:=D.nx} σ2 H2):=by
 refine⟨fun i m σ H=>m=xs.length-i/\i<=xs.length/\Pv i σ H,⟨xs.length,by simp,Nat.zero_le _,h0⟩,?_⟩
 rintro i m σ H ⟨rfl,hi,p⟩
 have q:=hl i σ H hi p
 by_cases hlt:i<xs.length
 ·refine .inr ⟨⟨xs,xs[i],q,by simp[hlt]⟩,Pv (i+1),fun σ' H' p'=>⟨xs.length-(i+1),by omega,rfl,hlt,p'⟩,fun x H' y=>?_⟩
  obtain⟨e,y⟩:=y
  subst e
  exact hs i x σ _ (y xs q) p
 ·have e:i=xs.length:=by omega
  subst e
  exact .inl ⟨⟨xs,q,Nat.le_refl _⟩,hd σ H p⟩
theorem for_range {lo:Int}{n:Nat}{g:TG}{tb:TS}{D:Ends}{σ:St}{H:Hp}(Pv:Nat->St->Hp->Prop)(h0:Pv 0 σ H)
  (hs:∀i σ H,i<n->Pv i σ H->g (.int (lo+i)) σ H fun σ2 H2=>tb {D with nx:=Pv (i+1),ct:=Pv (i+1),bk:=D.nx} σ2 H2) (hd:∀σ H,Pv n σ H->D.nx σ H):
  ∃W:Nat->Nat->St->Hp->Prop,(∃m,W 0 m σ H)/\∀i m σ H,W i m σ H ->
   ((Itr lo n).stop i H/\D.nx σ H)\/((Itr lo n).go i H/\∃N:St->Hp->Prop,(∀σ' H',N σ' H'->∃m',m'<m/\W (i+1) m' σ' H')/\∀x H',(Itr lo n).yld i H x H'->g x σ H' fun σ2 H2=>tb {D with nx:=N,ct:=N,bk:=D.nx} σ2 H2):=by
 refine⟨fun i m σ H=>m=n-i/\i<=n/\Pv i σ H,⟨n,by simp,Nat.zero_le _,h0⟩,?_⟩
 rintro i m σ H ⟨rfl,hi,p⟩
 by_cases hlt:i<n
 ·refine .inr ⟨hlt,Pv (i+1),fun σ' H' p'=>⟨n-(i+1),by omega,rfl,hlt,p'⟩,fun x H' y=>?_⟩
  obtain⟨e,y⟩:=y
  subst e y
  exact hs i σ _ hlt p
 ·have e:i=n:=by omega
  subst e
  exact .inl ⟨Nat.le_refl _,hd σ H p⟩
end L2
namespace L2
open PySem PySem.Spec PyProof.Rows
abbrev R2:=V->V->Hp->VK->Prop
def OpR (X:Cx)(f:Value->Value->Sem Value)(r:R2):Prop:=
 ∀(pins:List (Addr×Obj)) (s:Shared) (σ:St) (H:Hp) (x y:V) (v u:Value) (Q:VK),Inv X pins σ H s->RelV x v->RelV y u->r x y H Q ->
  wpAny (model X.prog X.w) X.A (f v u) (EP X pins σ Q) X.xe s
def UnR (X:Cx)(f:Value->Sem Value)(r:V->Hp->VK->Prop):Prop:=
 ∀(pins:List (Addr×Obj)) (s:Shared) (σ:St) (H:Hp) (x:V) (v:Value) (Q:VK),Inv X pins σ H s->RelV x v->r x H Q ->
  wpAny (model X.prog X.w) X.A (f v) (EP X pins σ Q) X.xe s
def CallR (X:Cx)(f:Value)(r:List V->Hp->VK->Prop):Prop:=
 ∀(pins:List (Addr×Obj)) (s:Shared) (σ:St) (H:Hp) (xs:List V) (us:List Value) (Q:VK),Inv X pins σ H s->Vals xs us->r xs H Q ->
  wpAny (model X.prog X.w) X.A (call f us) (EP X pins σ Q) X.xe s
def tOp (r:R2)(ta tb:TE):TE:=fun σ H Q=>ta σ H fun x H1=>tb σ H1 fun y H2=>r x y H2 Q
def tUn (r:V->Hp->VK->Prop)(ta:TE):TE:=fun σ H Q=>ta σ H fun x H1=>r x H1 Q
def rI (C:Int->Int->Prop)(g:Int->Int->V):R2:=fun x y H Q=>∃i j,x=.int i/\y=.int j/\C i j/\Q (g i j) H
def rI0 (g:Int->Int->V):R2:=fun x y H Q=>∃i j,x=.int i/\y=.int j/\Q (g i j) H
def rU (g:Int->V):V->Hp->VK->Prop:=fun x H Q=>∃i,x=.int i/\Q (g i) H
section
variable {X:Cx} {a b c:Expr} {ta tb tc:TE} {pos:Pos}
theorem binT (ha:PE X a ta)(hb:PE X b tb){pins:List (Addr×Obj)}{s:Shared}{σ:St}{H:Hp}{R:V->V->Hp->Prop}(I:Inv X pins σ H s)
  (h:ta σ H fun x H1=>tb σ H1 fun y H2=>R x y H2) {Q:Value->Shared->Prop} {f:Value->Value->Sem Value}
  (hf:∀v u s2 x y H2,Inv X pins σ H2 s2->RelV x v->RelV y u->R x y H2->wpAny (model X.prog X.w) X.A (f v u) Q X.xe s2):
  wpAny (model X.prog X.w) X.A (eval a X.env) (fun v s₁=>wpAny (model X.prog X.w) X.A (eval b X.env) (fun u s₂=>wpAny (model X.prog X.w) X.A (f v u) Q X.xe s₂) X.xe s₁) X.xe s:=by
 refine thn (ha pins s σ H _ I h) fun v s1 ⟨x,H1,I1,r1,q1⟩=>?_
 refine thn (hb pins s1 σ H1 _ I1 q1) fun u s2 ⟨y,H2,I2,r2,q2⟩=>?_
 exact hf v u s2 x y H2 I2 r1 r2 q2
theorem pe_op {op:Operator}{r:R2}(ho:OpR X (binaryOp op) r)(ha:PE X a ta)(hb:PE X b tb):PE X (.BinOp a op b pos) (tOp r ta tb):=by
 intro pins s σ H Q I h
 exact wpAny_BinOp (binT ha hb I h fun v u s2 x y H2 I2 rx ry q=>ho pins s2 σ H2 x y v u Q I2 rx ry q)
theorem pe_un {op:UnaryOp}{r:V->Hp->VK->Prop}(ho:UnR X (unaryOp op) r)(ha:PE X a ta):PE X (.UnaryOp op a pos) (tUn r ta):=by
 intro pins s σ H Q I h
 exact UnaryOp_ (thn (ha pins s σ H _ I h) fun v s1 ⟨x,H1,I1,r1,q1⟩=>ho pins s1 σ H1 x v Q I1 r1 q1)
theorem opI {f:Value->Value->Sem Value}{C:Int->Int->Prop}{g:Int->Int->Int}
  (rule:∀(i j:Int) (t u:Tok) (s:Shared) (Q:Value->Shared->Prop) (E:Value->Shared->Prop),C i j->Q (.int (g i j) s.toks) {s with toks:=s.toks+1}->wpAny (model X.prog X.w) X.A (f (.int i t) (.int j u)) Q E s):
  OpR X f (rI C fun i j=>.int (g i j)):=by
 intro pins s σ H x y v u Q I rx ry h
 obtain⟨i,j,rfl,rfl,hc,q⟩:=h
 obtain⟨t,rfl⟩:=rx
 obtain⟨t',rfl⟩:=ry
 exact rule i j t t' s _ _ hc ⟨.int (g i j),H,I.tok _,⟨_,rfl⟩,q⟩
theorem opI0 {f:Value->Value->Sem Value}{g:Int->Int->Int}
  (rule:∀(i j:Int) (t u:Tok) (s:Shared) (Q:Value->Shared->Prop) (E:Value->Shared->Prop),Q (.int (g i j) s.toks) {s with toks:=s.toks+1}->wpAny (model X.prog X.w) X.A (f (.int i t) (.int j u)) Q E s):
  OpR X f (rI0 fun i j=>.int (g i j)):=by
 intro pins s σ H x y v u Q I rx ry h
 obtain⟨i,j,rfl,rfl,q⟩:=h
 obtain⟨t,rfl⟩:=rx
 obtain⟨t',rfl⟩:=ry
 exact rule i j t t' s _ _ ⟨.int (g i j),H,I.tok _,⟨_,rfl⟩,q⟩
theorem opB0 {f:Value->Value->Sem Value}{g:Int->Int->Bool}
  (rule:∀(i j:Int) (t u:Tok) (s:Shared) (Q:Value->Shared->Prop) (E:Value->Shared->Prop),Q (.bool (g i j)) s->wpAny (model X.prog X.w) X.A (f (.int i t) (.int j u)) Q E s):
  OpR X f (rI0 fun i j=>.bl (g i j)):=by
 intro pins s σ H x y v u Q I rx ry h
 obtain⟨i,j,rfl,rfl,q⟩:=h
 obtain⟨t,rfl⟩:=rx
 obtain⟨t',rfl⟩:=ry
 exact rule i j t t' s _ _ ⟨.bl (g i j),H,I,rfl,q⟩
def CDiv (i j:Int):Prop:=0<j/\j<1073741824
def CMul (i j:Int):Prop:=(-(2 ^ 64)<i/\i<2 ^ 64)\/(-(2 ^ 64)<j/\j<2 ^ 64)
theorem CMul.ok {i j:Int}(h:CMul i j):IntMulOk i j:=by
 rcases h with ⟨h1,h2⟩|⟨h1,h2⟩
 ·exact .of_left (intBits_le_64 h1 h2)
 ·exact .of_right (intBits_le_64 h1 h2)
theorem op_add:OpR X (binaryOp .Add) (rI0 fun i j=>.int (i+j)):=opI0 fun _ _ _ _ _ _ _ q=>add_int q
theorem op_sub:OpR X (binaryOp .Sub) (rI0 fun i j=>.int (i-j)):=opI0 fun _ _ _ _ _ _ _ q=>sub_int q
theorem op_mul:OpR X (binaryOp .Mult) (rI CMul fun i j=>.int (i*j)):=opI fun _ _ _ _ _ _ _ hc q=>mul_int q hc.ok
theorem op_fdiv:OpR X (binaryOp .FloorDiv) (rI CDiv fun i j=>.int (i / j)):=opI fun i j _ _ _ _ _ hc q=>by
 have h1:(0:Int)<j:=hc.1
 have h2:j<1073741824:=hc.2
 exact floordiv_int (by omega) (by rw[Int.fdiv_eq_ediv_of_nonneg i (by omega)];exact q) (.inl (PyProof.noPylong_small (by omega)))
theorem op_mod:OpR X (binaryOp .Mod) (rI (fun _ j=>0<j) fun i j=>.int (i%j)):=opI fun i j _ _ _ _ _ hc q=>by
 have h1:(0:Int)<j:=hc
 exact mod_int' (by omega) (by rw[Int.fmod_eq_emod_of_nonneg i (by omega)];exact q)
theorem unI {f:Value->Sem Value}{g:Int->Int}
  (rule:∀(i:Int) (t:Tok) (s:Shared) (Q:Value->Shared->Prop) (E:Value->Shared->Prop),Q (.int (g i) s.toks) {s with toks:=s.toks+1}->wpAny (model X.prog X.w) X.A (f (.int i t)) Q E s):
  UnR X f (rU fun i=>.int (g i)):=by
 intro pins s σ H x v Q I rx h
 obtain⟨i,rfl,q⟩:=h
 obtain⟨t,rfl⟩:=rx
 exact rule i t s _ _ ⟨.int (g i),H,I.tok _,⟨_,rfl⟩,q⟩
theorem un_neg:UnR X (unaryOp .USub) (rU fun i=>.int (-i)):=unI fun _ _ _ _ _ q=>neg_int q
end
def scal:V->V->Bool
 |.non,.non=>true | .non,.int _=>true | .int _,.non=>true | .non,.bl _=>true | .bl _,.non=>true | .non,.str _=>true | .str _,.non=>true
 |.int _,.int _=>true | .bl _,.bl _=>true | .str _,.str _=>true | .byt _,.byt _=>true
 |.int _,.str _=>true | .str _,.int _=>true | .bl _,.str _=>true | .str _,.bl _=>true
 |_,_=>false
def rEq:R2:=fun x y H Q=>scal x y=true/\Q (.bl (decide (x=y))) H
theorem dec_int {i j:Int}:decide (V.int i=V.int j)=(i==j):=by
 rw[Bool.eq_iff_iff]
 simp
theorem dec_bl {i j:Bool}:decide (V.bl i=V.bl j)=(i==j):=by
 rw[Bool.eq_iff_iff]
 simp
theorem dec_str {i j:Str}:decide (V.str i=V.str j)=(i==j):=by
 rw[Bool.eq_iff_iff]
 simp
theorem dec_byt {i j:Array UInt8}:decide (V.byt i=V.byt j)=(i.toList==j.toList):=by
 rw[Bool.eq_iff_iff]
 cases i
 cases j
 simp
section
variable {X:Cx} {a b c:Expr} {ta tb tc:TE} {pos:Pos}
theorem fin_bl {pins:List (Addr×Obj)}{σ:St}{H:Hp}{s:Shared}{Q:VK}{k k':Bool}(I:Inv X pins σ H s)(q:Q (.bl k) H)(e:k=k'):EP X pins σ Q (.bool k') s:=by
 subst e
 exact⟨.bl k,H,I,rfl,q⟩
theorem op_eq:OpR X (compareOp .Eq) rEq:=by
 intro pins s σ H x y v u Q I rx ry h
 obtain⟨hs,q⟩:=h
 cases x with
 |non=>
  cases rx
  cases y with
  |non=>cases ry;exact PySem.EqNone.eq_none_none (fin_bl I q (by simp))
  |bl j=>cases ry;exact PySem.EqNone.eq_none_bool (fin_bl I q (by simp))
  |int j=>obtain⟨t',rfl⟩:=ry;exact PySem.EqNone.eq_none_int (fin_bl I q (by simp))
  |str j=>obtain⟨t',rfl⟩:=ry;exact PySem.EqNone.eq_none_str (fin_bl I q (by simp))
  |_=>exact absurd (show false=true from hs) Bool.false_ne_true
 |bl i=>
  cases rx
  cases y with
  |non=>cases ry;exact PySem.EqNone.eq_bool_none (fin_bl I q (by simp))
  |bl j=>cases ry;exact eq_bool (fin_bl I q dec_bl)
  |str j=>obtain⟨t',rfl⟩:=ry;exact PySem.EqMixed.eq_bool_str (fin_bl I q (by simp))
  |_=>exact absurd (show false=true from hs) Bool.false_ne_true
 |int i=>
  obtain⟨t,rfl⟩:=rx
  cases y with
  |non=>cases ry;exact PySem.EqNone.eq_int_none (fin_bl I q (by simp))
  |int j=>obtain⟨t',rfl⟩:=ry;exact eq_int (fin_bl I q dec_int)
  |str j=>obtain⟨t',rfl⟩:=ry;exact PySem.EqMixed.eq_int_str (fin_bl I q (by simp))
  |_=>exact absurd (show false=true from hs) Bool.false_ne_true
 |str i=>
  obtain⟨t,rfl⟩:=rx
  cases y with
  |non=>cases ry;exact PySem.EqNone.eq_str_none (fin_bl I q (by simp))
  |bl j=>cases ry;exact PySem.EqMixed.eq_str_bool (fin_bl I q (by simp))
  |int j=>obtain⟨t',rfl⟩:=ry;exact PySem.EqMixed.eq_str_int (fin_bl I q (by simp))
  |str j=>obtain⟨t',rfl⟩:=ry;exact eq_str (fin_bl I q dec_str)
  |_=>exact absurd (show false=true from hs) Bool.false_ne_true
 |byt i=>
  obtain⟨t,rfl⟩:=rx
  cases y with
  |byt j=>obtain⟨t',rfl⟩:=ry;exact PySem.W.eq_bytes (fin_bl I q dec_byt)
  |_=>exact absurd (show false=true from hs) Bool.false_ne_true
 |_=>cases y<;>exact absurd (show false=true from hs) Bool.false_ne_true
theorem op_lt:OpR X (compareOp .Lt) (rI0 fun i j=>.bl (decide (i<j))):=opB0 fun _ _ _ _ _ _ _ q=>lt_int q
theorem op_le:OpR X (compareOp .LtE) (rI0 fun i j=>.bl (decide (i<=j))):=opB0 fun _ _ _ _ _ _ _ q=>le_int q
theorem op_gt:OpR X (compareOp .Gt) (rI0 fun i j=>.bl (decide (j<i))):=opB0 fun _ _ _ _ _ _ _ q=>gt_int q
theorem op_ge:OpR X (compareOp .GtE) (rI0 fun i j=>.bl (decide (j<=i))):=opB0 fun _ _ _ _ _ _ _ q=>ge_int q
theorem op_notN:OpR X (compareOp .IsNot) (fun x y H Q=>y=.non/\Q (.bl (!decide (x=.non))) H):=by
 intro pins s σ H x y v u Q I rx ry h
 obtain⟨rfl,q⟩:=h
 cases ry
 refine isnot_none_gen (fin_bl I q ?_)
 cases x<;>first
  | (cases rx;rfl)
  | (obtain⟨t,rfl⟩:=rx;rfl)
theorem nomark (b:Expr){op:CmpOp}(h:op ≠ .In:=by decide)(h2:op ≠ .NotIn:=by decide):behindInMarks op b=false:=by
 have e1:(op==CmpOp.In)=false:=by cases op<;>first|rfl|exact absurd rfl h
 have e2:(op==CmpOp.NotIn)=false:=by cases op<;>first|rfl|exact absurd rfl h2
 cases b<;>simp[behindInMarks,e1,e2]
theorem pe_cmpR {op:CmpOp}{r:R2}(ho:OpR X (compareOp op) r)(ha:PE X a ta)(hb:PE X b tb)(hm:behindInMarks op b=false):PE X (.Compare a [op] [b] pos) (tOp r ta tb):=by
 intro pins s σ H Q I h
 exact wpAny_Compare1 (binT ha hb I h fun v u s2 x y H2 I2 rx ry q=>ho pins s2 σ H2 x y v u Q I2 rx ry q) hm
def tTest (t:TE):TT:=fun σ H Q=>t σ H fun x H'=>∃k,x=.bl k/\Q k H'
theorem pt_cmpR {op:CmpOp}{r:R2}(ho:OpR X (compareOp op) r)(ha:PE X a ta)(hb:PE X b tb)(hm:behindInMarks op b=false):PT X (.Compare a [op] [b] pos) (tTest (tOp r ta tb)):=by
 intro pins s σ H Q I h
 refine wpAny_isTrue_Compare1 (thn (ha pins s σ H _ I h) fun v s1 ⟨x,H1,I1,r1,q1⟩=>thn (hb pins s1 σ H1 _ I1 q1) fun u s2 ⟨y,H2,I2,r2,q2⟩ =>
  thn (ho pins s2 σ H2 x y v u _ I2 r1 r2 q2) fun c s3 ⟨z,H3,I3,r3,k,e,q3⟩=>?_) hm
 subst e
 cases r3
 exact wpAny_truthy_bool ⟨H3,I3,q3⟩
def tChain (r r':R2)(ta tb tc:TE):TE:=fun σ H Q=>ta σ H fun x H1=>tb σ H1 fun y H2=>r x y H2 fun z H3=>∃k,z=.bl k /\
 (if k=true then tc σ H3 fun w' H4=>r' y w' H4 Q else Q (.bl false) H3)
theorem pe_chain {op op':CmpOp}{r r':R2}(ho:OpR X (compareOp op) r)(ho':OpR X (compareOp op') r')(ha:PE X a ta)(hb:PE X b tb)(hc:PE X c tc)
  (hm:lastMarks [op,op'] [b,c]=false:=by with_unfolding_all rfl):PE X (.Compare a [op,op'] [b,c] pos) (tChain r r' ta tb tc):=by
 intro pins s σ H Q I h
 refine Compare_chain (thn (ha pins s σ H _ I h) fun v s1 ⟨x,H1,I1,r1,q1⟩=>chain_link (thn (hb pins s1 σ H1 _ I1 q1) fun u s2 ⟨y,H2,I2,r2,q2⟩ =>
  thn (ho pins s2 σ H2 x y v u _ I2 r1 r2 q2) fun d s3 ⟨z,H3,I3,r3,k,e,q3⟩=>?_)) hm
 subst e
 cases r3
 refine wpAny_truthy_bool ?_
 cases k with
 |false=>exact ite_ff ⟨.bl false,H3,I3,rfl,q3⟩
 |true=>exact ite_tt (chain_last (thn (hc pins s3 σ H3 _ I3 q3) fun w' s4 ⟨z',H4,I4,r4,q4⟩=>ho' pins s4 σ H4 y z' u w' Q I4 r2 r4 q4))
theorem line63:(sizeLine:Nat)<2 ^ 63:=by rw[sizeLine_eq];decide
theorem vals1 {x:V}{us:List Value}(r:Vals [x] us):∃u,us=[u]/\RelV x u:=by
 cases r with
 |cons r1 r2=>cases r2;exact⟨_,rfl,r1⟩
theorem vals2 {x y:V}{us:List Value}(r:Vals [x,y] us):∃u w',us=[u,w']/\RelV x u/\RelV y w':=by
 cases r with
 |cons r1 r2=>
  cases r2 with
  |cons r3 r4=>cases r4;exact⟨_,_,rfl,r1,r3⟩
theorem call_min2 (hc:X.calm=true):CallR X (.builtin "min") (fun xs H Q=>∃i j,xs=[.int i,.int j]/\Q (.int (if j<i then j else i)) H):=by
 intro pins s σ H xs us Q I r h
 obtain⟨i,j,rfl,q⟩:=h
 obtain⟨u,w',rfl,⟨t,rfl⟩,⟨t',rfl⟩⟩:=vals2 r
 refine min_two_ints (I.ok.hd hc) fun h' tk k=>⟨_,H,I.kept k,?_,q⟩
 by_cases hj:j<i
 ·rw[if_pos hj,if_pos hj];exact⟨_,rfl⟩
 ·rw[if_neg hj,if_neg hj];exact⟨_,rfl⟩
end
end L2
namespace L2
open PySem PySem.Spec PyProof.Rows
structure ObjM (h:Heap)(x dx C:Addr)(mA:Str->Option Value):Prop where
 obj:h.get? x=some (PySem.W.instObj C dx)
 ns:h.Ns1 dx mA
 ne:dx≠x
theorem lookIn_ns {h:Heap}{dx:Addr}{mA:Str->Option Value}(n:h.Ns1 dx mA):∃od,h.get? dx=some od/\∀name,PySem.W.lookIn name od=some (mA name):=by
 obtain⟨o,es,ep,ho,hd,hk,_,hm⟩:=n
 refine⟨o,ho,fun name=>?_⟩
 have e:=hm name
 unfold nsFind findBy at e
 rw[<-Array.find?_toList]at e
 unfold PySem.W.lookIn
 rw[hd]
 dsimp only
 split
 ·rename_i y q
  rw[q]at e
  exact congrArg some e
 ·rename_i q
  rw[q]at e
  have a:es.toList.any (·.refKey)=false:=by
   rw[List.any_eq_false]
   intro y hy
   obtain⟨z,t,hkey⟩:=hk y (Array.mem_toList_iff.mp hy)
   simp[DictEntry.refKey,hkey]
  have a':¬ es.toList.any (·.refKey)=true:=by rw[a];exact Bool.false_ne_true
  rw[if_neg a']
  exact congrArg some e
theorem ObjM.look {h:Heap}{x dx C:Addr}{mA:Str->Option Value}(I:ObjM h x dx C mA):∃od,PySem.W.InstAt h x (PySem.W.instObj C dx) C (some od)/\∀name,PySem.W.lookIn name od=some (mA name):=
 let ⟨od,ho,hl⟩:=lookIn_ns I.ns
 ⟨od,⟨I.obj,rfl,rfl,ho⟩,hl⟩
theorem RelO.some_of {v:V}{o:Option Value}(r:RelO (some v) o):∃u,o=some u/\RelV v u:=by
 cases o with
 |none=>exact (show False from r).elim
 |some u=>exact⟨u,rfl,r⟩
section
variable {P:Program} {w:World} {H H':Hp} {h h':Heap} {a C dx:Addr} {fs fs':List (Str×V)}
theorem ins_get (hok:HOk P w H h)(e:H a=some (.ins C dx fs)):∃mA,ObjM h a dx C mA/\(∀f,RelO (fs.lookup f) (mA f))/\PySem.Within mA (fs.map (·.1))/\fs.length<=1000/\H dx=some (.own a):=by
 obtain⟨d,z,ne,ob,mA,n,r,q⟩:=(show ObjOk P w H h a (.ins C dx fs) from hok a _ e)
 exact⟨mA,⟨ob,n,ne⟩,r,q,z,d⟩
end
structure Cls (K:PySem.W.Frag)(C:Addr):Prop where
 pg:PySem.W.plainGet K C Str.empty=true
 hd:PySem.W.hasDictIn K C=true
 po:PySem.W.plainOver K C=true
 sa:PySem.W.findIn K (.ref C) "__setattr__"=some (some (.builtin "object.__setattr__"))
theorem Cls.get {K:PySem.W.Frag}{C:Addr}(c:Cls K C)(f:Str):PySem.W.plainGet K C f=true:=c.pg
section
variable {X:Cx} {pins:List (Addr×Obj)} {σ:St} {H:Hp} {s:Shared} {A:Around} {E:Value->Shared->Prop} {Q:Value->Shared->Prop} {c:Value} {b:Bool}
inductive TyOf (K:PySem.W.Frag)(H:Hp):V->Value->Prop where
 | non:TyOf K H .non (.type "NoneType")
 | bl (x:Bool):TyOf K H (.bl x) (.type "bool")
 | int (i:Int):TyOf K H (.int i) (.type "int")
 | str (x:Str):TyOf K H (.str x) (.type "str")
 | flt (x:UInt64):TyOf K H (.flt x) (.type "float")
 | lst {a:Addr} {xs:List V} (e:H a=some (.lst xs)):TyOf K H (.ref a) (.type "list")
 | frz {a:Addr} {o:Obj} {xs:List V} (e:H a=some (.frz o (.lst xs))):TyOf K H (.ref a) (.type "list")
 | tup {a:Addr} {xs:List V} (e:H a=some (.tup xs)):TyOf K H (.ref a) (.type "tuple")
 | dK {a:Addr} {kvs:List (Key×V)} (e:H a=some (.dK kvs)):TyOf K H (.ref a) (.type "dict")
 | dT {a:Addr} {kvs:List (List Key×V)} (e:H a=some (.dT kvs)):TyOf K H (.ref a) (.type "dict")
 | ins {a C dx:Addr} {fs:List (Str×V)} (e:H a=some (.ins C dx fs)) (cl:Cls K C) (ha:PySem.W.findIn K (.ref C) "__class__"=some (some (.builtin "object.__class__")))
   (hn:PySem.W.specialIn K (.builtin "object.__class__") "__get__"=some (some (.builtin "getset_descriptor.__get__"))) (htk:PySem.W.takesIn K (.builtin "object.__class__")=some true)
   (hm:PySem.W.mroIn K C (.type "object")=some true):TyOf K H (.ref a) (.ref C)
theorem isinst_ok {x:V}{u t:Value}(I:Inv X pins σ H s)(rx:RelV x u)(ty:TyOf X.K H x t)(e:PySem.W.kitOne X.K t c=some b)(h:∀tk,Q (.bool b) {s with toks:=tk}):
  wpAny (model X.prog X.w) A (call (.builtin "isinstance") [u,c]) Q E s:=by
 cases ty with
 |non=>cases (show u=Value.none from rx);exact PySem.W.kia_one PySem.W.kitx_none I.kIn True.intro e (fun z=>nomatch z) h
 |bl y=>cases (show u=Value.bool y from rx);exact PySem.W.kia_one PySem.W.kitx_bool I.kIn True.intro e (fun z=>nomatch z) h
 |int i=>obtain⟨t,q⟩:=(show ∃t,u=Value.int i t from rx);cases q;exact PySem.W.kia_one PySem.W.kitx_int I.kIn True.intro e (fun z=>nomatch z) h
 |str y=>obtain⟨t,q⟩:=(show ∃t,u=Value.str y t from rx);cases q;exact PySem.W.kia_one PySem.W.kitx_str I.kIn True.intro e (fun z=>nomatch z) h
 |flt y=>obtain⟨t,q⟩:=(show ∃t,u=Value.float y t from rx);cases q;exact PySem.W.kia_one PySem.W.kitx_float I.kIn True.intro e (fun z=>nomatch z) h
 |@lst a xs ea=>
  cases (show u=Value.ref a from rx)
  obtain⟨_,_,n,_,h1⟩:=(show ObjOk X.prog X.w H s.heap a (.lst xs) from I.hok a _ ea)
  exact PySem.W.kia_one PySem.W.kitx_list I.kIn ⟨_,h1,rfl⟩ e (fun z=>nomatch z) h
 |@frz a ob xs ea=>
  cases (show u=Value.ref a from rx)
  obtain⟨_,_,_,n,_,h1⟩:=(show ObjOk X.prog X.w H s.heap a (.frz ob (.lst xs)) from I.hok a _ ea)
  exact PySem.W.kia_one PySem.W.kitx_list I.kIn ⟨_,h1,rfl⟩ e (fun z=>nomatch z) h
 |@tup a xs ea=>
  cases (show u=Value.ref a from rx)
  obtain⟨_,_,_,p⟩:=(show ObjOk X.prog X.w H s.heap a (.tup xs) from I.hok a _ ea)
  obtain⟨o,h1,h2,_⟩:=p
  exact PySem.W.kia_one PySem.W.kitx_tuple I.kIn ⟨o,h1,h2⟩ e (fun z=>nomatch z) h
 |@dK a kvs ea=>
  cases (show u=Value.ref a from rx)
  obtain⟨_,_,vs,_,p⟩:=(show ObjOk X.prog X.w H s.heap a (.dK kvs) from I.hok a _ ea)
  obtain⟨o,es,ep,h1,h2,_⟩:=p
  exact PySem.W.kia_one PySem.W.kitx_dict I.kIn ⟨o,h1,h2.1⟩ e (fun z=>nomatch z) h
 |@dT a kvs ea=>
  cases (show u=Value.ref a from rx)
  obtain⟨_,_,xs,_,o,es,ep,h1,h2,_⟩:=(show ObjOk X.prog X.w H s.heap a (.dT kvs) from I.hok a _ ea)
  exact PySem.W.kia_one PySem.W.kitx_dict I.kIn ⟨o,h1,h2.1⟩ e (fun z=>nomatch z) h
 |@ins a C dx fs ea cl ha hn htk hm=>
  cases (show u=Value.ref a from rx)
  obtain⟨mA,O,_⟩:=ins_get I.hok ea
  obtain⟨od,J,_⟩:=O.look
  exact PySem.W.kia_one (PySem.W.kitx_own (cl.get _) cl.hd ha hn htk hm) I.kIn J e (fun z=>nomatch z) h
end
end L2
namespace L2
open PySem PySem.Spec PyProof.Rows
structure Room (k:Nat)(A:Around):Prop where
 hd:A.handled=none
 dp:A.depth+3*k+5<recursionLimit
 un:A.units+16*k+200<cLine
theorem Room.mono {j k:Nat}{A:Around}(r:Room k A)(h:j<=k):Room j A:=⟨r.hd,by have:=r.dp;omega,by have:=r.un;omega⟩
theorem Room.deeper {k:Nat}{A:Around}(r:Room (k+1) A)(env:Env):Room k (A.deeper env):=
 ⟨r.hd,by have:=r.dp;show A.depth+1+3*k+5<_;omega,by have:=r.un;show A.units+3+16*k+200<_;omega⟩
theorem Room.in1 {k:Nat}{A:Around}(r:Room (k+1) A):Room k A.in1:=
 ⟨r.hd,by have:=r.dp;show A.depth+3*k+5<_;omega,by have:=r.un;show A.units+1+16*k+200<_;omega⟩
theorem Room.depth {k:Nat}{A:Around}(r:Room k A):A.depth<recursionLimit:=by have:=r.dp;omega
theorem Room.units {k:Nat}{A:Around}(r:Room k A):A.units+64<cLine:=by have:=r.un;omega
def tNil:TA:=fun _ H Q=>Q [] H
def tCons (ta:TE)(tr:TA):TA:=fun σ H Q=>ta σ H fun x H1=>tr σ H1 fun xs H2=>Q (x::xs) H2
section
variable {X:Cx} {e:Expr} {es:List Expr} {te:TE} {t:TA} {pos:Pos}
theorem pa_nil:PA X [] tNil:=fun _ _ _ _ H Q I h=>Calls.spliced_nil ⟨[],H,I,.nil,h⟩
theorem pa_cons (ha:PE X e te)(hr:PA X es t)(hs:starEach (e::es) X.env=(false,eval e X.env)::starEach es X.env:=by rfl):PA X (e::es) (tCons te t):=by
 intro pos pins s σ H Q I h
 rw[hs]
 show wpAny _ _ (spliced ((false,eval e X.env)::backTo pos (starEach es X.env))) _ _ s
 refine Calls.spliced_cons (thn (ha pins s σ H _ I h) fun u s1 ⟨x,H1,I1,r1,q1⟩=>?_)
 exact thn (hr pos pins s1 σ H1 _ I1 q1) fun us s2 ⟨xs,H2,I2,r2,q2⟩=>⟨x::xs,H2,I2,.cons r1 r2,q2⟩
def tTup (t:TA):TE:=fun σ H Q=>t σ H fun xs H1=>xs.length<=sizeLine/\∀p,H1 p=none->Q (.ref p) (upd H1 p (.tup xs))
def tLst (t:TA):TE:=fun σ H Q=>t σ H fun xs H1=>xs.length<=sizeLine/\∀p,H1 p=none->Q (.ref p) (upd H1 p (.lst xs))
theorem pe_tup {x1}(h:PA X es t):PE X (.Tuple es x1 pos) (tTup t):=by
 intro pins s σ H Q I hq
 refine wpAny_Tuple_spliced (thn (h pos pins s σ H _ I hq) fun us s1 ⟨xs,H1,I1,r,z,q⟩=>⟨by rw[<-r.length];exact z,?_⟩)
 have hf:H1 s1.heap.objs.size=none:=I1.hok.fresh (Nat.le_refl _)
 refine⟨.ref s1.heap.objs.size,upd H1 s1.heap.objs.size (.tup xs),I1.laid (t':=s1.toks) (fun b u e=>Heap.get?_push_of_some _ e) (Nat.le_refl _) ?_,rfl,q _ hf⟩
 exact⟨z,us,r,⟨_,Heap.get?_push_size _ rfl,rfl,_,rfl⟩⟩
theorem pe_lst (h:PA X es t):PE X (.List es pos) (tLst t):=by
 intro pins s σ H Q I hq
 refine wpAny_List_spliced (thn (h pos pins s σ H _ I hq) fun us s1 ⟨xs,H1,I1,r,z,q⟩=>⟨by rw[<-r.length];exact z,?_⟩)
 have hf:H1 s1.heap.objs.size=none:=I1.hok.fresh (Nat.le_refl _)
 refine⟨.ref s1.heap.objs.size,upd H1 s1.heap.objs.size (.lst xs),I1.laid (t':=s1.toks) (fun b u e=>Heap.get?_push_of_some _ e) (Nat.le_refl _) ?_,rfl,q _ hf⟩
 exact⟨z,us,0,r,Heap.get?_push_size _ rfl⟩
end
abbrev Sp:=List V->Hp->VK->XK->Prop
abbrev CXT:=List Env->Hp->Shared->XK->Value->Shared->Prop
structure Env0 (P:Program)(w:World)(K:PySem.W.Frag)(mg:Str->Option Value)(base:Heap)(A:Around)(outer:List Env)(s:Shared)(H:Hp):Prop where
 frames:A.frames=some outer
 mod:Mod K mg base
 bs:∀b o,base.get? b=some o->s.heap.get? b=some o/\H b=none
 bsz:base.objs.size<=s.heap.objs.size
 funs:s.heap.FunFrames base outer
 frf:∀b∈frs outer,H b=none
 hok:HOk P w H s.heap
 bare:AllBare s.gens
def CE (outer:List Env)(P:Program)(w:World)(H:Hp)(s:Shared)(Q:VK)(u:Value)(s':Shared):Prop:=
 ∃v H',s'.os=s.os/\AllBare s'.gens/\Un (frs outer) [] H H' s.heap s'.heap/\HOk P w H' s'.heap/\RelV v u/\Q v H'
def CR (CX:CXT)(outer:List Env)(P:Program)(w:World)(H:Hp)(s:Shared)(Q:VK)(E:XK)(r:Result)(s':Shared):Prop:=
 match r with
 |.ok (.ret u)=>CE outer P w H s Q u s'
 |.ok _=>False
 |.error e=>CX outer H s E e s'
structure FnOk (P:Program)(w:World)(K:PySem.W.Frag)(mg:Str->Option Value)(base:Heap)(CX:CXT)(k:Nat)(f:Addr)(fd:FuncData)(ps:List Str)(sp:Sp):Prop where
 len:∀vs H Q E,sp vs H Q E->vs.length=ps.length
 run:∀(A:Around) (outer:List Env) (s:Shared) (H:Hp) (args:Args) (us:List Value) (vs:List V) (Q:VK) (E:XK),Room k A->Env0 P w K mg base A outer s H->BindsTo s fd args (ps.zip us)->Vals vs us->sp vs H Q E ->
  codeAny (model P w) A (.call (.ref f) args) (CR CX outer P w H s Q E) s
theorem Env0.in1 {P:Program}{w:World}{K:PySem.W.Frag}{mg:Str->Option Value}{base:Heap}{A:Around}{outer:List Env}{s:Shared}{H:Hp}(e:Env0 P w K mg base A outer s H):
  Env0 P w K mg base A.in1 outer s H:=⟨e.frames,e.mod,e.bs,e.bsz,e.funs,e.frf,e.hok,e.bare⟩
section
variable {X:Cx} {pins:List (Addr×Obj)} {σ:St} {H:Hp} {s s':Shared}
theorem Inv.env0 (I:Inv X pins σ H s):Env0 X.prog X.w X.K X.mg X.base X.A X.stack s H:=
 ⟨I.ok.frames,I.ok.mod,I.bs,Nat.le_trans I.ok.bsz I.sz,I.stack,I.stkFree,I.hok,I.bare⟩
theorem Inv.after {Q:VK}{u:Value}(I:Inv X pins σ H s)(h:CE X.stack X.prog X.w H s Q u s'):EP X pins σ Q u s':=by
 obtain⟨v,H',os,bare,un,hok,r,q⟩:=h
 obtain⟨hh,g,d,t,os'⟩:=s'
 obtain rfl:os'=s.os:=os
 exact⟨v,H',I.call (h':=hh) (g':=g) (d':=d) (t':=t) (ch:=[]) un hok bare (fun b z=>absurd z (by simp)),r,q⟩
end
def tCall (sp:Sp)(dvs:List V)(E:XK)(t:TA):TE:=fun σ H Q=>t σ H fun vs H1=>sp (vs++dvs) H1 Q E
def Binds (K:PySem.W.Frag)(fd:FuncData)(ps:List Str)(ds:List Value):Prop:=
 ∀(s:Shared) (us:List Value),K.In s.heap->(us++ds).length=ps.length->BindsTo s fd ⟨us,[]⟩ (ps.zip (us++ds))
theorem Binds.all {K:PySem.W.Frag}{fd:FuncData}{ps:List Str}(h:∀us:List Value,us.length=ps.length->bindArgs fd ⟨us,[]⟩=pure (ps.zip us)):Binds K fd ps []:=fun s us _ hl=>by
 rw[List.append_nil]at hl ⊢
 exact .of_eq (h us hl)
def Passes (CX:CXT)(X:Cx)(E:XK):Prop:=∀(pins:List (Addr×Obj)) (σ:St) (H:Hp) (s:Shared) (e:Value) (s':Shared),Inv X pins σ H s->CX X.stack H s E e s'->X.xe e s'
section
variable {X:Cx} {CX:CXT} {k:Nat} {f C:Addr} {fd:FuncData} {ps:List Str} {sp:Sp} {dvs:List V} {ds:List Value} {E:XK} {x m:Str} {p pos apos:Pos} {e o:Expr} {es:List Expr} {ta:TE} {t:TA}
theorem run_fn {pins:List (Addr×Obj)}{σ:St}{H:Hp}{s:Shared}{Q:VK}{us:List Value}{vs:List V}(F:FnOk X.prog X.w X.K X.mg X.base CX k f fd ps sp)(hr:Room k X.A)(hb:Binds X.K fd ps ds)(hd:Vals dvs ds)(hx:Passes CX X E)
  (I:Inv X pins σ H s) (r:Vals vs us) (h:sp (vs++dvs) H Q E):wpAny (model X.prog X.w) X.A (call (.ref f) us) (EP X pins σ Q) X.xe s:=by
 have r2:Vals (vs++dvs) (us++ds):=r.append hd
 have hl:(us++ds).length=ps.length:=by rw[<-r2.length];exact F.len _ _ _ _ h
 refine wpAny_call (codeAny_mono (F.run X.A X.stack s H ⟨us,[]⟩ (us++ds) (vs++dvs) Q E hr I.env0 (hb s us I.kIn hl) r2 h) fun r s' hq=>?_)
 cases r with
 |error e=>exact hx pins σ H s e s' I hq
 |ok fl=>
  cases fl with
  |ret u=>exact I.after hq
  |next=>exact False.elim hq
  |brk=>exact False.elim hq
  |cont=>exact False.elim hq
theorem pe_call (F:FnOk X.prog X.w X.K X.mg X.base CX k f fd ps sp)(hr:Room k X.A)(hg:Gl X x)(hm:X.mg x=some (.ref f))(hk:PySem.W.keepIn X.K (.ref f)=true)(hb:Binds X.K fd ps ds)(hd:Vals dvs ds)(hx:Passes CX X E)
  (ha:PA X (e::es) t) (hdb:(x==("__debug__" : Str))=false:=by decide) (he:starEach (e::es) X.env=(false,eval e X.env)::starEach es X.env:=by rfl) (hpl:(backTo pos (starEach es X.env)).any (·.1)=false:=by rfl):
  PE X (.Call (.Name x p) (e::es) [] pos) (tCall sp dvs E t):=by
 intro pins s σ H Q I h
 refine wpAny_Call_Name_kw (ld_glob I hg hm ?_ hdb)
 refine PySem.W.callWith_K (h₀:=X.base) I.ok.mod.kin hk (thn (ha pos pins s σ H _ I h) fun us s1 ⟨vs,H1,I1,r,q⟩=>⟨I1.kIn,?_⟩) he hpl
 exact run_fn F hr hb hd hx I1 r q
end
structure FnScope (N P:List Str)(sc:Scope):Prop where
 kind:sc.kind=.function
 co:sc.isCoroutine=false
 gen:sc.isGenerator=false
 nd:N.Nodup
 pre:N.take P.length=P
 par:∀x∈P,sc.names.lookup x=some .local\/sc.names.lookup x=some .cell
 nofree:∀y∈sc.names,y.2 ≠ .free
theorem bindL_out {kindOf:Str->Option NameKind}{x:Str}:∀{binds:List (Str×Value)} {m:Str->Option Value},(∀v,(x,v)∉binds)->bindL kindOf binds m x=m x
 |[],_,_=>rfl
 | (n,v)::r,m,h=>by
  unfold bindL
  rw[bindL_out fun w hw=>h w (List.mem_cons_of_mem _ hw)]
  split
  ·have:x≠n:=by rintro rfl;exact h v List.mem_cons_self
   simp[this]
  ·rfl
theorem bindC_out {kindOf:Str->Option NameKind}{x:Str}:∀{binds:List (Str×Value)} {m:Str->Option Value},(∀v,(x,v)∉binds)->bindC kindOf binds m x=m x
 |[],_,_=>rfl
 | (n,v)::r,m,h=>by
  unfold bindC
  rw[bindC_out fun w hw=>h w (List.mem_cons_of_mem _ hw)]
  split
  ·rfl
  ·have:x≠n:=by rintro rfl;exact h v List.mem_cons_self
   simp[this]
theorem bindL_get {kindOf:Str->Option NameKind}{x:Str}{v:Value}:∀{P:List Str} {vs:List Value} {i:Nat} {m:Str->Option Value},P.Nodup->P[i]?=some x->vs[i]?=some v->kindOf x=some .local ->
  bindL kindOf (P.zip vs) m x=some v
 |[],_,_,_,_,h,_,_=>by simp at h
 |_::_,[],_,_,_,_,h,_=>by simp at h
 |p::P,w::vs,0,m,nd,h1,h2,hk=>by
  simp at h1 h2;subst h1;subst h2
  show bindL kindOf ((p,w)::P.zip vs) m p=_
  unfold bindL
  rw[bindL_out fun v hv=>(List.nodup_cons.mp nd).1 (List.of_mem_zip hv).1,if_pos hk]
  simp
 |p::P,w::vs,i+1,m,nd,h1,h2,hk=>by
  show bindL kindOf ((p,w)::P.zip vs) m x=_
  unfold bindL
  exact bindL_get (i:=i) (List.nodup_cons.mp nd).2 (by simpa using h1) (by simpa using h2) hk
theorem bindC_get {kindOf:Str->Option NameKind}{x:Str}{v:Value}:∀{P:List Str} {vs:List Value} {i:Nat} {m:Str->Option Value},P.Nodup->P[i]?=some x->vs[i]?=some v->kindOf x≠some .local ->
  bindC kindOf (P.zip vs) m x=some v
 |[],_,_,_,_,h,_,_=>by simp at h
 |_::_,[],_,_,_,_,h,_=>by simp at h
 |p::P,w::vs,0,m,nd,h1,h2,hk=>by
  simp at h1 h2;subst h1;subst h2
  show bindC kindOf ((p,w)::P.zip vs) m p=_
  unfold bindC
  rw[bindC_out fun v hv=>(List.nodup_cons.mp nd).1 (List.of_mem_zip hv).1,if_neg hk]
  simp
 |p::P,w::vs,i+1,m,nd,h1,h2,hk=>by
  show bindC kindOf ((p,w)::P.zip vs) m x=_
  unfold bindC
  exact bindC_get (i:=i) (List.nodup_cons.mp nd).2 (by simpa using h1) (by simpa using h2) hk
def start (N:List Str)(vs:List V):St:=vs.map some++List.replicate (N.length-vs.length) none
def cxOf (CX:CXT)(P:Program)(w:World)(K:PySem.W.Frag)(mg:Str->Option Value)(base:Heap)(N:List Str)(qual:Str)(scope:Scope)(f:Addr)(cd:Value)(A:Around)(outer:List Env)(s:Shared)(H:Hp)(E:XK):Cx where
 prog:=P
 w:=w
 K:=K
 mg:=mg
 base:=base
 A:=A.deeper (envOfC qual scope s.heap.objs.size f cd)
 N:=N
 s₀:=s
 H₀:=H
 env:=envOfC qual scope s.heap.objs.size f cd
 outer:=outer
 stack:=envOfC qual scope s.heap.objs.size f cd::outer
 ex:=[]
 calm:=true
 fn:=fun _=>true
 pn:=[]
 xe:=fun e s'=>wpAny (model P w) (A.deeper (envOfC qual scope s.heap.objs.size f cd)) (leaving (envOfC qual scope s.heap.objs.size f cd) e) (fun _ s''=>CX outer H s E e s'') (fun e' s''=>CX outer H s E e' s'') s'
theorem cell_has {sc:Scope}{n:Nat}{x:Str}(h:sc.names.lookup x=some .cell):∃c,(cellsFrom n sc.names []).lookup x=some c:=by
 have q:=PySem.W.cellsFrom_some sc.names n [] (.inl h)
 exact Option.isSome_iff_exists.mp q
theorem inv_start {CX:CXT}{P:Program}{w:World}{K:PySem.W.Frag}{mg:Str->Option Value}{base:Heap}{N ps:List Str}{qual:Str}{scope:Scope}{f:Addr}{cd:Value}{A:Around}{outer:List Env}{s s1:Shared}{H:Hp}{E:XK}{us:List Value}{vs:List V}
  (S:FnScope N ps scope) (hd:A.handled=none) (e0:Env0 P w K mg base A outer s H) (hl:vs.length=ps.length) (r:Vals vs us)
  (x:InCallC s s.heap.objs.size (bindL (envOfC qual scope s.heap.objs.size f cd).kindOf (ps.zip us) fun _=>none) (cellsFrom (s.heap.objs.size+1) scope.names []) (bindC (envOfC qual scope s.heap.objs.size f cd).kindOf (ps.zip us) fun _=>none) s1):
  Inv (cxOf CX P w K mg base N qual scope f cd A outer s H E) [] (start N vs) H s1:=by
 have hpl:ps.length<=N.length:=by have:=congrArg List.length S.pre;rw[List.length_take]at this;omega
 obtain⟨h1,tk,rfl,hk⟩:=x.done
 have noA:∀b:Addr,b∉(cxOf CX P w K mg base N qual scope f cd A outer s H E).ex:=fun b z=>absurd (show b∈([]:List Addr) from z) (by simp)
 refine⟨⟨e0.mod,S.kind,rfl,rfl,Nat.le_refl _,fun y z c h1 h2=>?_,fun y hy=>?_,fun y c _ h=>?_,fun _=>hd,Around.frames_deeper e0.frames,.inr ⟨rfl,rfl⟩,fun b z=>absurd z (noA b),e0.bs,e0.bsz,fun b _ _=>noA b,fun b z=>absurd z (noA b),e0.funs,e0.frf⟩,
  rfl,e0.bare,Un.kept hk,⟨_,x.toInCall.ns,fun i y v h1 h2 h3=>?_⟩,fun y c h=>⟨_,x.cell y c h⟩,e0.hok.fresh (Nat.le_refl _),fun y c h=>?_,fun p hp=>absurd (show p∈([]:List (Addr×Obj)) from hp) (by simp),e0.hok.kept hk,?_⟩
 ·exact name_of_addr x.apart (PySem.mem_of_lookup h1) (PySem.mem_of_lookup h2)
 ·have hy:scope.names.lookup y=some .cell\/scope.names.lookup y=some .free:=hy
  rcases hy with hy|hy
  ·exact cell_has hy
  ·exact absurd rfl (S.nofree _ (PySem.mem_of_lookup hy))
 ·exact Nat.le_of_lt (x.above y c (PySem.mem_of_lookup h))
 ·have hi:i<vs.length:=by
   unfold start at h2
   by_cases hi:i<vs.length
   ·exact hi
   ·rw[List.getElem?_append_right (by simpa using hi)]at h2
    rw[List.getElem?_replicate]at h2
    split at h2<;>cases h2
  have ha:vs[i]?=some v:=by
   unfold start at h2
   rw[List.getElem?_append_left (by simpa using hi),List.getElem?_map]at h2
   cases e:vs[i]? with
   |none=>rw[e]at h2;cases h2
   |some a=>rw[e]at h2;cases h2;rfl
  obtain⟨u,hu,rv⟩:=r.get ha
  have hp:ps[i]?=some y:=by
   rw[<-S.pre,List.getElem?_take_of_lt (by omega)];exact h1
  have ndP:ps.Nodup:=by rw[<-S.pre];exact S.nd.sublist (List.take_sublist _ _)
  refine⟨u,rv,?_⟩
  rcases S.par y (List.mem_of_getElem? hp) with k|k
  ·exact .inl ⟨k,bindL_get ndP hp hu k⟩
  ·obtain⟨c,e⟩:=cell_has (n:=s.heap.objs.size+1) k
   refine .inr ⟨.inl k,c,e,?_⟩
   have q:=x.cell y c e
   rw[bindC_get ndP hp hu (by show scope.names.lookup y≠_;rw[k];decide)]at q
   exact q
 ·exact e0.hok.fresh (Nat.le_of_lt (x.above y c (PySem.mem_of_lookup h)))
 ·unfold start
  show _=N.length
  rw[List.length_append,List.length_map,List.length_replicate]
  omega
theorem fn_of {CX:CXT}{P:Program}{w:World}{K:PySem.W.Frag}{mg:Str->Option Value}{base:Heap}{k:Nat}{f:Addr}{name qual:Str}{params:Arguments}{body:List Stmt}{scope:Scope}{dV kV doc pm cdv ct oc:Value}{an od:Option Addr}
  {osl:Array (Option Value)} {N ps:List Str} {sp:Sp} (lk:K.lookup f=some ⟨oc,od,.func (PySem.W.fnOf name qual params body scope dV kV doc pm an cdv ct),osl⟩) (hcd:PySem.W.codeIn K cdv qual=true) (S:FnScope N ps scope)
  (len:∀vs H Q E,sp vs H Q E->vs.length=ps.length)
  (hbody:∀(A:Around) (outer:List Env) (s:Shared) (H:Hp) (vs:List V) (Q:VK) (E:XK),Room k (A.deeper (envOfC qual scope s.heap.objs.size f cdv))->sp vs H Q E ->
   ∃t,PSs (cxOf CX P w K mg base N qual scope f cdv A outer s H E) body t/\t {nx:=fun _ H'=>Q .non H',rt:=Q} (start N vs) H):
  FnOk P w K mg base CX (k+1) f (PySem.W.fnOf name qual params body scope dV kV doc pm an cdv ct) ps sp:=by
 refine⟨len,fun A outer s H args us vs Q E hr e0 hb r hsp=>?_⟩
 have hl:=len _ _ _ _ hsp
 have KX:K.In s.heap:=e0.mod.kin.keeps fun b o e=>(e0.bs b o e).1
 have lim:s.heap.NoLimit:=e0.mod.nolimit.keeps fun b o e=>(e0.bs b o e).1
 have hkind:∀y∈ps.zip us,scope.names.lookup y.1=some .local\/(scope.names.lookup y.1=some .cell/\((cellsFrom (s.heap.objs.size+1) scope.names []).lookup y.1).isSome=true):=fun ⟨n,v⟩ hy=>by
  rcases S.par n (List.of_mem_zip hy).1 with q|q
  ·exact .inl q
  ·exact .inr ⟨q,PySem.W.cellsFrom_some _ _ _ (.inl q)⟩
 refine codeAny_call_function hr.depth (KX _ _ lk) rfl S.co S.gen rfl (PySem.W.codeRec_of KX hcd) (hb _ _ _ _ ?_)
 refine wpAny_newFunctionEnv_cells S.kind hkind fun env he s1 x=>?_
 subst he
 refine⟨lim.keeps x.toInCall.keep,codeAny_func ?_⟩
 obtain⟨t,ht,hq⟩:=hbody A outer s H vs Q E (hr.deeper _) hsp
 have I:Inv (cxOf CX P w K mg base N qual scope f cdv A outer s H E) [] (start N vs) H s1:=inv_start S hr.hd e0 hl r x
 refine wpAny_mono (ht [] s1 (start N vs) H _ I hq) (fun fl s' hs=>?_) fun e s' hs=>hs
 have fin:∀{σ':St} {H':Hp} {v:V} {u:Value},Inv (cxOf CX P w K mg base N qual scope f cdv A outer s H E) [] σ' H' s'->RelV v u->Q v H'->CE outer P w H s Q u s' :=
  fun {σ' H' v u} J rv q=>⟨v,H',J.os,J.bare,J.base,J.hok,rv,q⟩
 cases fl with
 |ret u=>
  obtain⟨v,σ',H',J,rv,q⟩:=hs
  exact fin J rv q
 |next=>
  obtain⟨σ',H',J,q⟩:=hs
  exact fin (v:=V.non) (u:=Value.none) J rfl q
 |brk=>
  obtain⟨_,_,_,q⟩:=hs
  exact False.elim q
 |cont=>
  obtain⟨_,_,_,q⟩:=hs
  exact False.elim q
end L2
namespace L2
open PySem PySem.Spec PyProof.Rows
section
variable {X:Cx} {x:Str} {p pos:Pos} {e:Expr} {es:List Expr} {t:TA} {id T:String} {r:List V->Hp->VK->Prop}
def tCB (r:List V->Hp->VK->Prop)(t:TA):TE:=fun σ H Q=>t σ H fun vs H1=>r vs H1 Q
theorem pe_callB (hc:CallR X (.builtin id) r)(hg:Gl X x)(hm:X.mg x=none)(hv:bootBuiltins x=some (.builtin id))(ha:PA X (e::es) t)(hn:x ≠ "__name__" := by decide)(hdb:(x==("__debug__" : Str))=false:=by decide)
  (he:starEach (e::es) X.env=(false,eval e X.env)::starEach es X.env:=by rfl) (hpl:(backTo pos (starEach es X.env)).any (·.1)=false:=by rfl):PE X (.Call (.Name x p) (e::es) [] pos) (tCB r t):=by
 intro pins s σ H Q I h
 refine wpAny_Call_Name_kw (ld_blt I hg hm hv ?_ hn hdb)
 exact PyProof.Rows.callWith_builtin1 (thn (ha pos pins s σ H _ I h) fun us s1 ⟨vs,H1,I1,r1,q1⟩=>hc pins s1 σ H1 vs us Q I1 r1 q1) he hpl
theorem pe_callTy (hc:CallR X (.type T) r)(hg:Gl X x)(hm:X.mg x=none)(hv:bootBuiltins x=some (.type T))(ha:PA X (e::es) t)(hn:x ≠ "__name__" := by decide)(hdb:(x==("__debug__" : Str))=false:=by decide)
  (he:starEach (e::es) X.env=(false,eval e X.env)::starEach es X.env:=by rfl) (hpl:(backTo pos (starEach es X.env)).any (·.1)=false:=by rfl):PE X (.Call (.Name x p) (e::es) [] pos) (tCB r t):=by
 intro pins s σ H Q I h
 refine wpAny_Call_Name_kw (ld_blt I hg hm hv ?_ hn hdb)
 exact PyProof.Rows.callWith_type1 (thn (ha pos pins s σ H _ I h) fun us s1 ⟨vs,H1,I1,r1,q1⟩=>hc pins s1 σ H1 vs us Q I1 r1 q1) he hpl
end
end L2
namespace HT
open PySem PyProof.Rows
def lexLt:List Int->List Int->Bool
 |[],[]=>false
 |[],_::_=>true
 |_::_,[]=>false
 |x::xs,y::ys=>if x=y then lexLt xs ys else decide (x<y)
theorem lexLt_cons (x y:Int)(xs ys:List Int):lexLt (x::xs) (y::ys)=if x=y then lexLt xs ys else decide (x<y):=rfl
theorem lexLt_nil_nil:lexLt [] []=false:=rfl
theorem lexLt_nil_cons (y:Int)(ys:List Int):lexLt [] (y::ys)=true:=rfl
theorem lexLt_cons_nil (x:Int)(xs:List Int):lexLt (x::xs) []=false:=rfl
theorem eqAt_int (A:Around)(s:Shared)(a:Int)(t:Tok)(c:Int)(u:Tok):∃e,SeqAt.EqAt A s (.int a t) (.int c u) e/\(e=true↔a=c):=
 ⟨(a==c),SeqAt.EqAt.int_int a t c u,by simp⟩
theorem rcLt_int (A:Around)(s:Shared)(a:Int)(t:Tok)(c:Int)(u:Tok)(prog:Program)(w:World)(E:Value->Shared->Prop)(Q:Value->Shared->Prop)(h:Q (.bool (decide (a<c))) s):
  wpAny (model prog w) A (richCompare .Lt (.int a t) (.int c u)) Q E s:=
 (PyProof.Rows.lt_int h:wpAny (model prog w) A (compareOp .Lt (.int a t) (.int c u)) Q E s)
section
open PySem.SeqAt
open PySem.AutoSeq1 (wpAny_loadPart')
open PySem.MeetsSeq PySem.MeetsSeq2 PySem.MeetsSeq3
theorem tuple_lt_ints (l b:Addr)(items items2:Array Value)(n n2:Nat)(dd dd2:Option Addr)(sl sl2:Array (Option Value))(ns ms:List Int)(hi:IntsAre items.toList ns)(hj:IntsAre items2.toList ms):
  Meets (Builtin.«tuple.__lt__» ⟨[.ref l,.ref b],[]⟩)
   (fun _ R s=>s.heap.get? l=some {cls:=.type "tuple",dict:=dd,data:=.seq items n,slots:=sl}/\s.heap.get? b=some {cls:=.type "tuple",dict:=dd2,data:=.seq items2 n2,slots:=sl2} /\
    R (.ok (.ret (.bool (lexLt ns ms)))) s):=
 .of_wp fun prog w A R s h=>by
  obtain⟨hp,g,d,tk,os⟩:=s;obtain⟨hl,hb,h⟩:=h
  have f2:=AutoSeq1.sub_tuple_tuple
  have z1:items.size=ns.length:=by rw[<-hi.length];simp
  have z2:items2.size=ms.length:=by rw[<-hj.length];simp
  wp_walk using wpAny_loadPart' hl,wpAny_loadPart' hb,wpAny_forIn_list _ (fun rest b s'=>b.1=none/\s'=⟨hp,g,d,tk,os⟩/\∃(vs ws:List Value) (ns' ms':List Int),rest=vs.zip ws /\
   IntsAre vs ns'/\IntsAre ws ms'/\ns'.length+items2.size=ms'.length+items.size/\R (.ok (.ret (.bool (lexLt ns' ms')))) ⟨hp,g,d,tk,os⟩) _
  case turn=>
   rintro⟨y,x⟩ rest b s' ⟨hb',rfl,vs,ws,ns',ms',hz,hvi,hwi,hlen,hR⟩
   cases hvi with
   |nil=>rw[List.zip_nil_left]at hz;cases hz
   |cons a t hvi' =>
    cases hwi with
    |nil=>rw[List.zip_nil_right]at hz;cases hz
    |cons c u hwi' =>
     rw[List.zip_cons_cons]at hz
     injection hz with hyx hrest
     injection hyx with hy hx
     subst hy hx
     rw[lexLt_cons]at hR
     simp only[List.length_cons]at hlen
     obtain⟨e,he,hiff⟩:=eqAt_int A.in1 ⟨hp,g,d,tk,os⟩ a t c u
     refine wpAny_bind (he prog w _ _ ?_)
     cases e with
     |true=>
      rw[if_pos (hiff.mp rfl)]at hR
      wp_walk
      exact⟨rfl,rfl,_,_,_,_,hrest,hvi',hwi',by omega,hR⟩
     |false=>
      rw[if_neg (fun q=>absurd (hiff.mpr q) Bool.false_ne_true)]at hR
      have hri:=rcLt_int A.in1 ⟨hp,g,d,tk,os⟩ a t c u prog w
      wp_walk using hri
      exact⟨_,rfl,by simpa using hR⟩
  case fin=>
   rintro⟨b1,b2⟩ s' ⟨hb',rfl,vs,ws,ns',ms',hz,hvi,hwi,hlen,hR⟩
   simp only at hb'
   subst hb'
   have hv:lexLt ns' ms'=decide (items.size<items2.size):=by
    cases hvi with
    |nil=>
     cases hwi with
     |nil=>
      simp only[List.length_nil]at hlen
      rw[lexLt_nil_nil]
      exact (decide_eq_false (by omega)).symm
     |cons c u hw=>
      simp only[List.length_nil,List.length_cons]at hlen
      rw[lexLt_nil_cons]
      exact (decide_eq_true (by omega)).symm
    |cons a t hv=>
     cases hwi with
     |nil=>
      simp only[List.length_nil,List.length_cons]at hlen
      rw[lexLt_cons_nil]
      exact (decide_eq_false (by omega)).symm
     |cons c u hw=>
      rw[List.zip_cons_cons]at hz
      cases hz
   rw[hv]at hR
   wp_walk
   exact⟨_,rfl,by simpa [Builtin.Tuple.tupleCompareSizes] using hR⟩
  case h=>
   exact⟨rfl,rfl,items.toList,items2.toList,ns,ms,rfl,hi,hj,by omega,h⟩
end
section
variable {prog:Program} {w:World} {A:Around} {E:Value->Shared->Prop} {s:Shared}
theorem lt_tupInts {l b:Addr}{items items2:Array Value}{ns ms:List Int}{Q:Value->Shared->Prop}(hl:IsTup s.heap l items)(hb:IsTup s.heap b items2)(hi:IntsAre items.toList ns)(hj:IntsAre items2.toList ms)
  (hu:A.units<cLine) (h:Q (.bool (lexLt ns ms)) s):wpAny (model prog w) A (compareOp .Lt (.ref l) (.ref b)) Q E s:=by
 obtain⟨⟨cls,dd,data,sl⟩,ho,hc,n,hd⟩:=id hl
 obtain⟨⟨cls2,dd2,data2,sl2⟩,ho2,hc2,n2,hd2⟩:=id hb
 simp only at hc hd hc2 hd2
 subst hc hd hc2 hd2
 exact richCompare_meets_room (op:=.Lt) ⟨_,ho,rfl⟩ ⟨_,ho2,rfl⟩ PySem.F.slot_tuple_lt PySem.F.entry_tuple_lt (PySem.F.args_tuple_lt_2 _ _) (tuple_lt_ints l b items items2 n n2 dd dd2 sl sl2 ns ms hi hj)
  ⟨ho,ho2,show Value.bool (lexLt ns ms)≠Value.notImplemented/\Q (.bool (lexLt ns ms)) s from ⟨(fun x=>nomatch x),h⟩⟩ hu
theorem cat_tup {t b:Addr}{vs ws:List Value}{Q:Value->Shared->Prop}(ht:IsTup s.heap t vs.toArray)(hb:IsTup s.heap b ws.toArray)(hv:vs ≠ [])
  (h1:ws=[]->Q (.ref t) s) (h2:ws ≠ []->Q (.ref s.heap.objs.size) {s with heap:=s.heap.push {cls:=.type "tuple",data:=.seq (vs++ws).toArray} })
  (hsz:vs.length+ws.length<=sizeLine):wpAny (model prog w) A (binaryOp .Add (.ref t) (.ref b)) Q E s:=by
 obtain⟨⟨cls,dd,data,sl⟩,ho,hc,n,hd⟩:=id ht
 obtain⟨⟨cls2,dd2,data2,sl2⟩,ho2,hc2,n2,hd2⟩:=id hb
 simp only at hc hd hc2 hd2
 subst hc hd hc2 hd2
 have e:vs.toArray++ws.toArray=(vs++ws).toArray:=by simp
 by_cases hw:ws=[]
 ·exact concat_meets ⟨_,ho,rfl⟩ ⟨_,ho2,rfl⟩ noFill_tuple_add seq_tuple_add PySem.F.slot_tuple_add PySem.F.entry_tuple_add (PySem.F.args_tuple_add_2 _ _)
   (tuple_addW1 t b vs.toArray ws.toArray n n2 dd dd2 sl sl2 (by simpa using hv) (by simp[hw])) ⟨ho,ho2,h1 hw⟩
 ·refine concat_meets ⟨_,ho,rfl⟩ ⟨_,ho2,rfl⟩ noFill_tuple_add seq_tuple_add PySem.F.slot_tuple_add PySem.F.entry_tuple_add (PySem.F.args_tuple_add_2 _ _)
   (tuple_addW2 t b vs.toArray ws.toArray n n2 dd dd2 sl sl2 (by simpa using hv) (by simpa using hw) (by rw[List.size_toArray,List.size_toArray];exact hsz)) ⟨ho,ho2,?_⟩
  rw[e]
  exact h2 hw
def sIx (n d:Nat):Option Int->Nat
 |none=>d
 |some v=>if v<0 then (v+(n:Int)).toNat else min v.toNat n
theorem sIx_none (n d:Nat):sIx n d none=d:=rfl
theorem sIx_nat (n d k:Nat):sIx n d (some (k:Int))=min k n:=by
 show (if (k:Int)<0 then ((k:Int)+(n:Int)).toNat else min (k:Int).toNat n)=min k n
 rw[if_neg (by omega),Int.toNat_natCast]
theorem sIx_le (n d:Nat)(hd:d<=n)(o:Option Int):sIx n d o<=n:=by
 cases o with
 |none=>exact hd
 |some v=>
  show (if v<0 then (v+(n:Int)).toNat else min v.toNat n)<=n
  by_cases hv:v<0
  ·rw[if_pos hv];omega
  ·rw[if_neg hv];exact Nat.min_le_right _ _
theorem clip_eq (v:Int)(n d:Nat):(if v<0 then max (v+(n:Int)) 0 else min v (n:Int))=((sIx n d (some v):Nat):Int):=by
 show (if v<0 then max (v+(n:Int)) 0 else min v (n:Int))=(((if v<0 then (v+(n:Int)).toNat else min v.toNat n):Nat):Int)
 by_cases hv:v<0
 ·simp only[if_pos hv];omega
 ·simp only[if_neg hv];omega
theorem adjust_gen (lo hi:Option Int)(n:Nat):Builtin.Slice.sliceAdjust lo hi 1 (n:Int)=(((sIx n 0 lo:Nat):Int),((sIx n n hi:Nat):Int)):=by
 have h1:¬ ((1:Int)<0):=by omega
 unfold Builtin.Slice.sliceAdjust
 simp only[h1,if_false]
 refine Prod.ext ?_ ?_
 ·cases lo with
  |none=>rfl
  |some v=>exact clip_eq v n 0
 ·cases hi with
  |none=>rfl
  |some v=>exact clip_eq v n n
theorem places_gen (i j:Nat):Builtin.Slice.slicePlaces (i:Int) (j:Int) 1=j-i:=by
 unfold Builtin.Slice.slicePlaces
 have h1:(1:Int) > 0:=by omega
 simp only[h1,if_true,Int.ediv_one]
 split<;>omega
theorem slicePart_ {v:Value}{o:Option Int}{Q:Option Int->Shared->Prop}(p:IsPart v o)(h:Q o s):wpAny (model prog w) A (Builtin.Slice.slicePartIndex v) Q E s:=by
 cases p with
 |none=>exact slicePart_none h
 |int i t=>exact slicePart_int h
theorem sliceApplied_gen {sl:Addr}{vl vu:Value}{lo hi:Option Int}{n:Nat}{Q:Int×Int×Nat->Shared->Prop}(hs:s.heap.IsSliceOf sl vl vu .none)(pl:IsPart vl lo)(pu:IsPart vu hi)
  (h:Q (((sIx n 0 lo:Nat):Int),1,sIx n n hi-sIx n 0 lo) s):wpAny (model prog w) A (Builtin.Slice.sliceApplied (.ref sl) (pure (n:Int))) Q E s:=by
 obtain⟨os,hos,hcs,hds⟩:=id hs
 unfold Builtin.Slice.sliceApplied Builtin.Slice.sliceFields
 refine wpAny_bind (wpAny_bind (wpAny_field hos hds (x:=vl) rfl (wpAny_bind (wpAny_field hos hds (x:=vu) rfl (wpAny_bind (wpAny_field hos hds (x:=.none) rfl (wpAny_pure ?_)))))))
 refine wpAny_bind (slicePart_none ?_)
 show wpAny _ _ (if ((1:Int)==0)=true then _ else _) _ _ s
 rw[if_neg (by decide)]
 refine wpAny_bind (slicePart_ pl (wpAny_bind (slicePart_ pu (wpAny_bind (wpAny_pure ?_)))))
 show wpAny _ _ (match Builtin.Slice.sliceAdjust lo hi 1 (n:Int) with|(lo,hi)=>pure (lo,(1:Int),Builtin.Slice.slicePlaces lo hi 1)) _ _ s
 rw[adjust_gen lo hi n]
 show wpAny _ _ (pure (((sIx n 0 lo:Nat):Int),(1:Int),Builtin.Slice.slicePlaces ((sIx n 0 lo:Nat):Int) ((sIx n n hi:Nat):Int) 1)) _ _ s
 rw[places_gen]
 exact wpAny_pure h
theorem pick_gen (xs:Array Value)(i k:Nat):((List.range k).filterMap fun (m:Nat)=>xs[((i:Int)+(m:Int)*1).toNat]?).toArray=((xs.toList.drop i).take k).toArray:=by
 have e:(fun (m:Nat)=>xs[((i:Int)+(m:Int)*1).toNat]?)=fun m=>xs[i+m]?:=by
  funext m
  have:((i:Int)+(m:Int)*1).toNat=i+m:=by omega
  rw[this]
 rw[e]
 have:=pick_run xs i k
 rw[List.filterMap_map]at this
 have e2:((fun x=>xs[x]?) ∘ fun x=>i+x)=fun m=>xs[i+m]?:=rfl
 rw[e2]at this
 rw[this]
theorem getItem_tuple_cut {t sl:Addr}{items:Array Value}{vl vu:Value}{lo hi:Option Int}{Q:Value->Shared->Prop}(ht:IsTup s.heap t items)(hs:s.heap.IsSliceOf sl vl vu .none)(pl:IsPart vl lo)(pu:IsPart vu hi)
  (hw:¬ (sIx items.size 0 lo=0/\sIx items.size items.size hi=items.size))
  (h:Q (.ref s.heap.objs.size) {s with heap:=s.heap.push {cls:=.type "tuple",data:=.seq ((items.toList.drop (sIx items.size 0 lo)).take (sIx items.size items.size hi-sIx items.size 0 lo)).toArray} })
  (hsz:items.size<=sizeLine):wpAny (model prog w) A (getItem (.ref t) (.ref sl)) Q E s:=by
 have htake:sizeOk (.seq ((items.toList.drop (sIx items.size 0 lo)).take (sIx items.size items.size hi-sIx items.size 0 lo)).toArray):=by
  show ((items.toList.drop (sIx items.size 0 lo)).take (sIx items.size items.size hi-sIx items.size 0 lo)).toArray.size<=sizeLine
  rw[List.size_toArray,List.length_take,List.length_drop,Array.length_toList]
  omega
 have hj:sIx items.size items.size hi<=items.size:=sIx_le _ _ (Nat.le_refl _) hi
 obtain⟨os,hos,hcs,hds⟩:=id hs
 have hTs:s.TypeIs (.ref sl) "slice" := ⟨os,hos,hcs⟩
 unfold getItem
 try with_reducible refine wpAny_holding ?_
 first|refine wpAny_bind (wpAny_pure ?_)|skip
 refine wpAny_bind (wpAny_sequenceKey ht.typeIs (by decide) ?_)
 refine wpAny_bind (wpAny_callSpecial?_slot (name:=Str.ofString "__getitem__") ht.typeIs PyProof.Rows.slot_tuple_getitem
  (wpAny_call_entry PyProof.Rows.slot_tuple_getitem ht.typeIs entry_tuple_getitem ?_ (args_tuple_getitem _ _)))
 show wpAny _ _ (Builtin.Tuple.tupleItemsOf (.ref t) >>= _) _ _ s
 refine wpAny_bind (tupleItemsOf_ ht ?_)
 refine wpAny_bind (wpAny_typeOf hTs ?_)
 rw[if_pos (by decide)]
 refine wpAny_bind (sliceApplied_gen hs pl pu ?_)
 have hno:¬ ((((sIx items.size 0 lo:Nat):Int)==0&&(1:Int)==1&&(sIx items.size items.size hi-sIx items.size 0 lo)==items.size)=true):=by
  intro q
  rw[Bool.and_eq_true,Bool.and_eq_true]at q
  have q1:((sIx items.size 0 lo:Nat):Int)=0:=eq_of_beq q.1.1
  have q2:sIx items.size items.size hi-sIx items.size 0 lo=items.size:=eq_of_beq q.2
  exact hw ⟨by omega,by omega⟩
 show wpAny _ _ (if (((sIx items.size 0 lo:Nat):Int)==0&&(1:Int)==1&&(sIx items.size items.size hi-sIx items.size 0 lo)==items.size)=true then _ else _) _ _ s
 rw[if_neg hno,pick_gen]
 first
  | exact wpAny_bind (m:=Builtin.Tuple.tupleExact _) (wpAny_newObj_type (wpAny_pure ⟨_,rfl,wpAny_pure h⟩) htake)
  | exact wpAny_bind (m:=Builtin.Tuple.tupleExact _) (wpAny_newObj_type (wpAny_bind (wpAny_pure (wpAny_pure ⟨_,rfl,wpAny_pure h⟩))) htake)
  | exact wpAny_bind (wpAny_bind (m:=Builtin.Tuple.tupleExact _) (wpAny_newObj_type (wpAny_pure (wpAny_pure ⟨_,rfl,wpAny_pure h⟩)) htake))
  | exact wpAny_bind (wpAny_bind (m:=Builtin.Tuple.tupleExact _) (wpAny_newObj_type (wpAny_pure ⟨_,rfl,wpAny_pure h⟩) htake))
end
end HT
namespace L2
open PySem PySem.Spec PyProof.Rows
abbrev TO:=St->Hp->(Option Int->Hp->Prop)->Prop
def PO (X:Cx)(e:Option Expr)(t:TO):Prop:=
 ∀(pins:List (Addr×Obj)) (s:Shared) (σ:St) (H:Hp) (Q:Option Int->Hp->Prop),Inv X pins σ H s->t σ H Q ->
  wpAny (model X.prog X.w) X.A (evalPart e X.env) (fun u s'=>∃o H',Inv X pins σ H' s'/\IsPart u o/\Q o H') X.xe s
def tNoPart:TO:=fun _ H Q=>Q none H
def tPart (t:TE):TO:=fun σ H Q=>t σ H fun x H1=>∃i,x=.int i/\Q (some i) H1
theorem intsAre_of {ns:List Int}:∀{us:List Value},Vals (ns.map V.int) us->IntsAre us ns:=by
 induction ns with
 |nil=>intro us r;rw[List.map_nil]at r;cases r;exact .nil
 |cons n ns ih=>
  intro us r
  rw[List.map_cons]at r
  cases r with
  |cons r1 r2=>
   obtain⟨t,e⟩:=r1
   subst e
   exact .cons n t (ih r2)
section
variable {X:Cx} {e:Expr} {te:TE} {lo hi:Option Expr} {tl th:TO} {pos p2:Pos}
theorem po_none:PO X none tNoPart:=by
 intro pins s σ H Q I h
 rw[evalPart_none]
 exact wpAny_pure ⟨none,H,I,.none,h⟩
theorem po_some (h:PE X e te):PO X (some e) (tPart te):=by
 intro pins s σ H Q I hw
 rw[evalPart_some]
 refine thn (h pins s σ H _ I hw) fun u s1 ⟨x,H1,I1,r1,q1⟩=>?_
 obtain⟨i,rfl,q⟩:=q1
 obtain⟨t,rfl⟩:=r1
 exact⟨some i,H1,I1,.int i t,q⟩
def SlR (X:Cx)(r:V->Option Int->Option Int->Hp->VK->Prop):Prop:=
 ∀(pins:List (Addr×Obj)) (s:Shared) (σ:St) (H:Hp) (x:V) (v vl vu:Value) (lo hi:Option Int) (sl:Addr) (Q:VK),Inv X pins σ H s->RelV x v->s.heap.IsSliceOf sl vl vu .none->IsPart vl lo->IsPart vu hi->r x lo hi H Q ->
  ∃T id,typeLookup (.type T) "__getitem__"=pure (some (.builtin id))/\s.TypeIs v T/\wpAny (model X.prog X.w) X.A (getItem v (.ref sl)) (EP X pins σ Q) X.xe s
def tSl (r:V->Option Int->Option Int->Hp->VK->Prop)(te:TE)(tl th:TO):TE:=fun σ H Q=>te σ H fun x H1=>tl σ H1 fun l H2=>th σ H2 fun u H3=>r x l u H3 Q
theorem pe_slice {r:V->Option Int->Option Int->Hp->VK->Prop}(hr:SlR X r)(he:PE X e te)(hl:PO X lo tl)(hu:PO X hi th):PE X (.Subscript e (.Slice lo hi none p2) pos) (tSl r te tl th):=by
 intro pins s σ H Q I h
 refine Subscript_ (thn (he pins s σ H _ I h) fun v s1 ⟨x,H1,I1,r1,q1⟩=>?_)
 refine wpAny_Slice (thn (hl pins s1 σ H1 _ I1 q1) fun vl s2 ⟨l,H2,I2,pl,q2⟩=>thn (hu pins s2 σ H2 _ I2 q2) fun vu s3 ⟨u,H3,I3,pu,q3⟩=>?_)
 rw[evalPart_none]
 refine wpAny_pure ?_
 have I4:Inv X pins σ H3 {s3 with heap:=s3.heap.push {cls:=.type "slice",data:=.fields #[vl,vu,.none]} }:=I3.kept (t':=s3.toks) fun b ob q=>Heap.get?_push_of_some _ q
 obtain⟨T,id,hT,ht,hg⟩:=hr pins {s3 with heap:=s3.heap.push {cls:=.type "slice",data:=.fields #[vl,vu,.none]} } σ H3 x v vl vu l u s3.heap.objs.size Q I4 r1 (Heap.IsSliceOf.new ..) pl pu q3
 show wpAny (model X.prog X.w) X.A (subscriptTail e (.Slice lo hi none p2) v (.ref s3.heap.objs.size)) (EP X pins σ Q) X.xe {s3 with heap:=s3.heap.push {cls:=.type "slice",data:=.fields #[vl,vu,.none]} }
 exact tail_any (ops:=[.ref s3.heap.objs.size,v]) ht hT hg (by with_unfolding_all rfl)
def cutV (xs:List V)(lo hi:Option Int):List V:=(xs.drop (HT.sIx xs.length 0 lo)).take (HT.sIx xs.length xs.length hi-HT.sIx xs.length 0 lo)
theorem cutV_length (xs:List V)(lo hi:Option Int):(cutV xs lo hi).length<=xs.length:=by
 unfold cutV
 rw[List.length_take,List.length_drop]
 omega
def rSlT (K:PySem.W.Frag):V->Option Int->Option Int->Hp->VK->Prop:=fun x lo hi H Q=>∃a xs,x=.ref a/\SqT K H a xs /\
 ¬ (HT.sIx xs.length 0 lo=0/\HT.sIx xs.length xs.length hi=xs.length)/\∀p,H p=none->Q (.ref p) (upd H p (.tup (cutV xs lo hi)))
theorem sl_tup:SlR X (rSlT X.K):=by
 intro pins s σ H x v vl vu lo hi sl Q I rx hs pl pu h
 obtain⟨a,xs,rfl,hx,hw,q⟩:=h
 cases rx
 obtain⟨its,r,ht,hz⟩:=I.tuple hx
 have hlen:its.toArray.size=xs.length:=by rw[List.size_toArray];exact r.length.symm
 refine⟨"tuple",_,PyProof.Rows.slot_tuple_getitem.lookup,ht.typeIs,?_⟩
 refine HT.getItem_tuple_cut ht hs pl pu (by rw[hlen];exact hw) ?_ (by rw[hlen];exact hz)
 rw[hlen]
 refine⟨.ref s.heap.objs.size,_,I.laid (t':=s.toks) (o:=.tup (cutV xs lo hi)) (fun b ob q=>Heap.get?_push_of_some _ q) (Nat.le_refl _) ?_,rfl,q _ (I.hok.fresh (Nat.le_refl _))⟩
 exact⟨Nat.le_trans (cutV_length xs lo hi) hz,_,(r.drop (HT.sIx xs.length 0 lo)).take (HT.sIx xs.length xs.length hi-HT.sIx xs.length 0 lo),IsTup.new _ _⟩
def rCatT (K:PySem.W.Frag):R2:=fun x y H Q=>∃a b xs ys,x=.ref a/\y=.ref b/\SqT K H a xs/\SqT K H b ys/\xs ≠ []/\xs.length+ys.length<=sizeLine /\
 (ys=[]->Q (.ref a) H)/\(ys ≠ []->∀p,H p=none->Q (.ref p) (upd H p (.tup (xs++ys))))
theorem Vals.nil_iff {xs:List V}{us:List Value}(r:Vals xs us):us=[]↔xs=[]:=by
 cases r with
 |nil=>simp
 |cons _ _=>simp
theorem op_catT:OpR X (binaryOp .Add) (rCatT X.K):=by
 intro pins s σ H x y v u Q I rx ry h
 obtain⟨a,b,xs,ys,rfl,rfl,ha,hb,hx,hz,q1,q2⟩:=h
 cases rx
 cases ry
 obtain⟨its,r1,p1,_⟩:=I.tuple ha
 obtain⟨its2,r2,p2,_⟩:=I.tuple hb
 refine HT.cat_tup p1 p2 (fun z=>hx (r1.nil_iff.mp z)) (fun z=>⟨.ref a,H,I,rfl,q1 (r2.nil_iff.mp z)⟩) (fun z=>?_) (by rw[<-r1.length,<-r2.length];exact hz)
 refine⟨.ref s.heap.objs.size,_,I.laid (t':=s.toks) (o:=.tup (xs++ys)) (fun b ob q=>Heap.get?_push_of_some _ q) (Nat.le_refl _) ?_,rfl,q2 (fun w=>z (r2.nil_iff.mpr w)) _ (I.hok.fresh (Nat.le_refl _))⟩
 exact⟨by rw[List.length_append];exact hz,_,r1.append r2,IsTup.new _ _⟩
end
end L2
namespace L2
open PySem PySem.Spec PyProof.Rows
def ixN (n:Nat)(i:Int):Option Nat:=if 0<=i then (if i<n then some i.toNat else none) else if -(n:Int)<=i then some (i+n).toNat else none
def atI {α:Type}(xs:List α)(i:Int):Option α:=(ixN xs.length i).bind fun j=>xs[j]?
theorem ixN_seq {n:Nat}{i:Int}{j:Nat}(h:ixN n i=some j):seqIndex? i n=some j/\j<n /\ -(n:Int)<=i/\i<n:=by
 unfold ixN at h
 by_cases h0:0<=i
 ·rw[if_pos h0]at h
  by_cases h1:i<n
  ·rw[if_pos h1]at h
   have e:i.toNat=j:=Option.some.inj h
   exact⟨by rw[seqIndex_of h0 h1,e],by omega,by omega,h1⟩
  ·rw[if_neg h1]at h;cases h
 ·rw[if_neg h0]at h
  by_cases h1 : -(n:Int)<=i
  ·rw[if_pos h1]at h
   have e:(i+n).toNat=j:=Option.some.inj h
   exact⟨by rw[seqIndex_neg (by omega) h1,e],by omega,h1,by omega⟩
  ·rw[if_neg h1]at h;cases h
theorem atI_get {α:Type}{xs:List α}{i:Int}{v:α}(h:atI xs i=some v):∃j,seqIndex? i xs.length=some j/\xs[j]?=some v/\j<xs.length /\ -(xs.length:Int)<=i/\i<xs.length:=by
 unfold atI at h
 cases e:ixN xs.length i with
 |none=>rw[e]at h;cases h
 |some j=>
  rw[e]at h
  obtain⟨h1,h2,h3,h4⟩:=ixN_seq e
  exact⟨j,h1,h,h2,h3,h4⟩
theorem atI_nat {α:Type}{xs:List α}{j:Nat}{v:α}(h:xs[j]?=some v):atI xs (j:Int)=some v:=by
 have hj:j<xs.length:=(List.getElem?_eq_some_iff.mp h).1
 have e:ixN xs.length (j:Int)=some j:=by
  unfold ixN
  rw[if_pos (by omega),if_pos (by omega)];simp
 unfold atI;rw[e];exact h
def PlainIx (b:Expr):Prop:=∀o i,subscripted b false o i=operate [o,i] (getItem o i)
def IxR (X:Cx)(r:R2):Prop:=
 ∀(value slice:Expr) (pins:List (Addr×Obj)) (s:Shared) (σ:St) (H:Hp) (x y:V) (v u:Value) (Q:VK),Inv X pins σ H s->RelV x v->RelV y u->r x y H Q ->
  subscripted slice false v u=operate [v,u] (getItem v u)->wpAny (model X.prog X.w) X.A (subscriptTail value slice v u) (EP X pins σ Q) X.xe s
def MtR (X:Cx)(id:String)(r:V->List V->Hp->VK->Prop):Prop:=
 ∀(pins:List (Addr×Obj)) (s:Shared) (σ:St) (H:Hp) (x:V) (xs:List V) (v:Value) (us:List Value) (Q:VK),Inv X pins σ H s->RelV x v->Vals xs us->r x xs H Q ->
  wpAny (model X.prog X.w) X.A (call (.builtin id) (v::us)) (EP X pins σ Q) X.xe s
section
variable {X:Cx} {a b:Expr} {ta tb:TE} {pos:Pos}
theorem IxR.or {r r':R2}(h:IxR X r)(h':IxR X r'):IxR X (fun x y H Q=>r x y H Q\/r' x y H Q):=by
 intro value slice pins s σ H x y v u Q I rx ry q hs
 rcases q with q|q
 ·exact h value slice pins s σ H x y v u Q I rx ry q hs
 ·exact h' value slice pins s σ H x y v u Q I rx ry q hs
theorem pe_ix {r:R2}(hr:IxR X r)(ha:PE X a ta)(hb:PE X b tb)(hs:PlainIx b):PE X (.Subscript a b pos) (tOp r ta tb):=by
 intro pins s σ H Q I h
 exact Subscript_ (binT ha hb I h fun v u s2 x y H2 I2 rx ry q=>hr a b pins s2 σ H2 x y v u Q I2 rx ry q (hs _ _))
def rIxL (K:PySem.W.Frag):R2:=fun x y H Q=>∃p xs i v,x=.ref p/\y=.int i/\SqL K H p xs/\atI xs i=some v/\Q v H
def rIxT (K:PySem.W.Frag):R2:=fun x y H Q=>∃p xs i v,x=.ref p/\y=.int i/\SqT K H p xs/\atI xs i=some v/\Q v H
theorem ix_list:IxR X (rIxL X.K):=by
 intro value slice pins s σ H x y v u Q I rx ry h hs
 obtain⟨p,xs,i,z,rfl,rfl,hq,he,q⟩:=h
 cases rx
 obtain⟨t,rfl⟩:=ry
 obtain⟨its,r,pl,hz⟩:=I.list hq
 obtain⟨j,h1,h2,h3,h4,h5⟩:=atI_get he
 obtain⟨w,ew,rw'⟩:=r.get h2
 have hl:=r.length
 have hn:=line63
 have fin:EP X pins σ Q w s:=⟨z,H,I,rw',q⟩
 by_cases h0:0<=i
 ·have hj:i.toNat=j:=by
   rw[seqIndex_of h0 h5]at h1
   exact Option.some.inj h1
  exact item_listR pl.isList h0 (by omega) (by rw[hj];simpa using ew) fin hs
 ·have hj:(i+(its.toArray.size:Int)).toNat=j:=by
   rw[seqIndex_neg (by omega) h4]at h1
   rw[List.size_toArray,<-hl]
   exact Option.some.inj h1
  exact subscriptTail_builtinR (x:=w) pl.isList.typeIs slot_list_getitem.lookup
   (wpAny_getItem_list_neg (Q:=fun r s'=>r=w/\EP X pins σ Q r s') pl.isList (by omega) (by rw[List.size_toArray]<;>omega) (by omega) (by rw[hj];simpa using ew) ⟨rfl,fin⟩) hs
theorem ix_tup:IxR X (rIxT X.K):=by
 intro value slice pins s σ H x y v u Q I rx ry h hs
 obtain⟨p,xs,i,z,rfl,rfl,hq,he,q⟩:=h
 cases rx
 obtain⟨t,rfl⟩:=ry
 obtain⟨its,r,pl,hz⟩:=I.tuple hq
 obtain⟨j,h1,h2,h3,h4,h5⟩:=atI_get he
 obtain⟨w,ew,rw'⟩:=r.get h2
 have hl:=r.length
 have hn:=line63
 have fin:EP X pins σ Q w s:=⟨z,H,I,rw',q⟩
 exact subscriptTail_builtinR (x:=w) pl.typeIs slot_tuple_getitem.lookup
  (getItem_tuple (j:=j) (Q:=fun r s'=>r=w/\EP X pins σ Q r s') pl (by omega) (by omega) (by rw[List.size_toArray,<-hl];exact h1) (by simpa using ew) ⟨rfl,fin⟩) hs
theorem mapSeq_set (its:List Value)(n j:Nat)(u:Value):Obj.mapSeq (·.setIfInBounds j u) {cls:=.type "list",data:=.seq its.toArray n}={cls:=.type "list",data:=.seq (its.set j u).toArray n}:=by
 simp[Obj.mapSeq]
theorem Inv.lst {pins:List (Addr×Obj)}{σ:St}{H:Hp}{s:Shared}{p:Addr}{xs:List V}(I:Inv X pins σ H s)(h:H p=some (.lst xs)):
  ∃(its:List Value) (n:Nat),Vals xs its/\s.heap.get? p=some {cls:=.type "list",data:=.seq its.toArray n}/\xs.length<=sizeLine:=by
 obtain⟨z,its,n,r,e⟩:=I.hok p _ h
 exact⟨its,n,r,e,z⟩
theorem Inv.lstUpd {pins:List (Addr×Obj)}{σ:St}{H:Hp}{s:Shared}{p:Addr}{xs ys:List V}{its its':List Value}{n n':Nat}{f:Obj->Obj}(I:Inv X pins σ H s)(h:H p=some (.lst xs))
  (ho:s.heap.get? p=some {cls:=.type "list",data:=.seq its.toArray n}) (hf:f {cls:=.type "list",data:=.seq its.toArray n}={cls:=.type "list",data:=.seq its'.toArray n' }) (r:Vals ys its') (hz:ys.length<=sizeLine) (t:Nat):
  Inv X pins σ (upd H p (.lst ys)) {s with heap:=s.heap.update p f,toks:=t}:=by
 have e:(s.heap.update p f).get? p=some {cls:=.type "list",data:=.seq its'.toArray n' }:=by
  rw[Heap.get?_update_self f ho (by rw[hf]<;>rfl),hf]
 refine I.write (x:=p) (e:=p) (by rw[h];trivial) (.inl rfl) (fun b u hb q=>(Heap.get?_update_other _ _ (Ne.symm hb)).trans q) ⟨_,e⟩ ?_
 exact⟨hz,its',n',r,e⟩
def rSetL:V->V->V->Hp->(Hp->Prop)->Prop:=fun o i v H Q=>∃p xs k j,o=.ref p/\i=.int k/\H p=some (.lst xs)/\ixN xs.length k=some j/\Q (upd H p (.lst (xs.set j v)))
theorem set_list:PSet X rSetL:=by
 intro pins s σ H o i v ov iv u Q I ro ri rv h
 obtain⟨p,xs,k,j,rfl,rfl,hp,hj,q⟩:=h
 cases ro
 obtain⟨t,rfl⟩:=ri
 obtain⟨its,n,r,ho,hz⟩:=I.lst hp
 obtain⟨h1,h2,h3,h4⟩:=ixN_seq hj
 have hl:=r.length
 have hn:=line63
 have I':Inv X pins σ (upd H p (.lst (xs.set j v))) {s with heap:=s.heap.update p (Obj.mapSeq (·.setIfInBounds j u))}:=
  I.lstUpd hp ho (mapSeq_set its n j u) (r.set rv j) (by rw[List.length_set];exact hz) s.toks
 by_cases h0:0<=k
 ·have hk:k.toNat=j:=by
   rw[seqIndex_of h0 h4]at h1
   exact Option.some.inj h1
  exact PySem.W.ki_setAt ho h0 (by omega) (by rw[List.size_toArray,<-hl];exact h4) (by rw[hk];exact⟨_,I',q⟩)
 ·have hk:(k+(its.toArray.size:Int)).toNat=j:=by
   rw[seqIndex_neg (by omega) h3]at h1
   rw[List.size_toArray,<-hl]
   exact Option.some.inj h1
  exact PySem.W.ki_setBack ho (by omega) (by rw[List.size_toArray,<-hl];exact h3) (by omega) (by rw[hk];exact⟨_,I',q⟩)
def flatV:V->Bool
 |.non=>true
 |.bl _=>true
 |.int _=>true
 |.str _=>true
 |_=>false
def eqV:V->V->Bool
 |.non,.non=>true
 |.bl a,.bl b=>a==b
 |.bl a,.int b=>(if a then 1 else 0)==b
 |.int a,.bl b=>a==(if b then 1 else 0)
 |.int a,.int b=>a==b
 |.str a,.str b=>a==b
 |_,_=>false
theorem eqAt_V {A:Around}{s:Shared}{y x:V}{u v:Value}(ry:RelV y u)(rx:RelV x v)(fy:flatV y=true)(fx:flatV x=true):SeqAt.EqAt A s u v (eqV y x):=by
 cases y with
 |non=>
  cases ry
  cases x with
  |non=>cases rx;exact SeqAt.EqAt.same _
  |bl b=>cases rx;exact SeqAt.EqAt.none_bool b
  |int b=>obtain⟨t,rfl⟩:=rx;exact SeqAt.EqAt.none_int b t
  |str b=>obtain⟨t,rfl⟩:=rx;exact SeqAt.EqAt.none_str b t
  |_=>exact absurd (show false=true from fx) Bool.false_ne_true
 |bl a=>
  cases ry
  cases x with
  |non=>cases rx;exact SeqAt.EqAt.bool_none a
  |bl b=>cases rx;exact SeqAt.EqAt.bool_bool a b
  |int b=>obtain⟨t,rfl⟩:=rx;exact SeqAt.EqAt.bool_int a b t
  |str b=>obtain⟨t,rfl⟩:=rx;exact SeqAt.EqAt.bool_str a b t
  |_=>exact absurd (show false=true from fx) Bool.false_ne_true
 |int a=>
  obtain⟨t',rfl⟩:=ry
  cases x with
  |non=>cases rx;exact SeqAt.EqAt.int_none a t'
  |bl b=>cases rx;exact SeqAt.EqAt.int_bool a t' b
  |int b=>obtain⟨t,rfl⟩:=rx;exact SeqAt.EqAt.int_int a t' b t
  |str b=>obtain⟨t,rfl⟩:=rx;exact SeqAt.EqAt.int_str a t' b t
  |_=>exact absurd (show false=true from fx) Bool.false_ne_true
 |str a=>
  obtain⟨t',rfl⟩:=ry
  cases x with
  |non=>cases rx;exact SeqAt.EqAt.str_none a t'
  |bl b=>cases rx;exact SeqAt.EqAt.str_bool a t' b
  |int b=>obtain⟨t,rfl⟩:=rx;exact SeqAt.EqAt.str_int a t' b t
  |str b=>obtain⟨t,rfl⟩:=rx;exact SeqAt.EqAt.str_str a t' b t
  |_=>exact absurd (show false=true from fx) Bool.false_ne_true
 |_=>exact absurd (show false=true from fy) Bool.false_ne_true
theorem call_len_seq:CallR X (.builtin "len") (fun xs H Q=>∃p ys,xs=[.ref p]/\(SqL X.K H p ys\/SqT X.K H p ys)/\Q (.int ys.length) H):=by
 intro pins s σ H xs us Q I r h
 obtain⟨p,ys,rfl,hq,q⟩:=h
 obtain⟨u,rfl,rx⟩:=vals1 r
 cases rx
 have hn:=line63
 rcases hq with hq|hq
 ·obtain⟨its,r',pl,hz⟩:=I.list hq
  have hlen:=r'.length
  exact Calls.call_len_list pl.isList (by simp only[List.size_toArray]<;>omega) ⟨.int ys.length,H,I.tok _,⟨s.toks+1,by rw[List.size_toArray,hlen]⟩,q⟩
 ·obtain⟨its,r',pl,hz⟩:=I.tuple hq
  have hlen:=r'.length
  exact len_tuple pl (by simp only[List.size_toArray]<;>omega) ⟨.int ys.length,H,I.tok _,⟨s.toks+1,by rw[List.size_toArray,hlen]⟩,q⟩
theorem CallR.or {f:Value}{r r':List V->Hp->VK->Prop}(h:CallR X f r)(h':CallR X f r'):CallR X f (fun xs H Q=>r xs H Q\/r' xs H Q):=by
 intro pins s σ H xs us Q I rs q
 rcases q with q|q
 ·exact h pins s σ H xs us Q I rs q
 ·exact h' pins s σ H xs us Q I rs q
theorem call_tuple_of:CallR X (.type "tuple") (fun xs H Q=>∃p ys,xs=[.ref p]/\((SqL X.K H p ys/\∀l,H l=none->Q (.ref l) (upd H l (.tup ys)))\/(SqT X.K H p ys/\Q (.ref p) H))):=by
 intro pins s σ H xs us Q I r h
 obtain⟨p,ys,rfl,h⟩:=h
 obtain⟨u,rfl,rx⟩:=vals1 r
 cases rx
 rcases h with ⟨hq,q⟩|⟨hq,q⟩
 ·obtain⟨its,r',pl,hz⟩:=I.list hq
  have hlen:=r'.length
  refine call_tuple_list pl.isList (fun h' kp=>?_) (by simp only[List.size_toArray]<;>omega)
  have I1:Inv X pins σ H {s with heap:=h' }:=I.kept (t':=s.toks) kp
  have I2:Inv X pins σ (upd H h'.objs.size (.tup ys)) {s with heap:=h'.push {cls:=.type "tuple",data:=.seq its.toArray} }:=
   I1.laid (t':=s.toks) (fun b o e=>Heap.get?_push_of_some _ e) (Nat.le_refl _) (show ObjOk X.prog X.w _ _ _ (.tup ys) from ⟨hz,its,r',IsTup.new _ _⟩)
  exact⟨.ref h'.objs.size,_,I2,rfl,q _ (I1.hok.fresh (Nat.le_refl _))⟩
 ·obtain⟨its,r',pl,hz⟩:=I.tuple hq
  exact call_tuple_same pl ⟨.ref p,H,I,rfl,q⟩
def tyV (K:PySem.W.Frag)(T:String)(x:V)(H:Hp):Prop:=match x with
 |.str _=>T = "str"
 |.int _=>T = "int"
 |.ref p=>(T = "list" /\ ∃xs,SqL K H p xs)\/(T = "tuple" /\ ∃o,K.lookup p=some o/\o.cls=.type "tuple" /\ o.dict=none) \/
   (T = "dict" /\ ((∃kvs,H p=some (.dK kvs)) \/ ∃kvs,H p=some (.dT kvs)))\/(T = "set" /\ ∃S n,H p=some (.set S n))
 |_=>False
theorem tyV_is {pins:List (Addr×Obj)}{σ:St}{H:Hp}{s:Shared}{T:String}{x:V}{v:Value}(I:Inv X pins σ H s)(r:RelV x v)(ty:tyV X.K T x H):
  s.TypeIs v T/\∀a,v=.ref a->∃ob,s.heap.get? a=some ob/\ob.dict=none:=by
 cases x with
 |str z=>
  obtain⟨t,rfl⟩:=r
  cases (show T = "str" from ty)
  exact⟨typeIs_str s z t,fun _ e=>nomatch e⟩
 |int i=>
  obtain⟨t,rfl⟩:=r
  cases (show T = "int" from ty)
  exact⟨typeIs_int s i t,fun _ e=>nomatch e⟩
 |ref p=>
  cases r
  rcases ty with ⟨rfl,xs,hq⟩|⟨rfl,o,hk,hc,hd⟩|⟨rfl,hk⟩|⟨rfl,S,n,hk⟩
  ·obtain⟨its,_,pl,_⟩:=I.list hq
   refine⟨pl.isList.typeIs,fun a e=>?_⟩
   cases e
   obtain⟨o,n,e,c,hd,_⟩:=pl
   exact⟨o,e,hd⟩
  ·refine⟨⟨o,I.kIn p o hk,hc⟩,fun a e=>?_⟩
   cases e
   exact⟨o,I.kIn _ o hk,hd⟩
  ·have z:∃o,s.heap.get? p=some o/\o.ExactDict:=by
    rcases hk with ⟨kvs,hk⟩|⟨kvs,hk⟩
    ·obtain⟨_,_,_,_,o,_,_,e,ex,_⟩:=I.hok p _ hk
     exact⟨o,e,ex⟩
    ·obtain⟨_,_,_,_,o,_,_,e,ex,_⟩:=I.hok p _ hk
     exact⟨o,e,ex⟩
   obtain⟨o,e,ex⟩:=z
   refine⟨⟨o,e,ex.1⟩,fun a e2=>?_⟩
   cases e2
   exact⟨o,e,ex.2.1⟩
  ·obtain⟨o,_,_,_,e,ex,_⟩:=I.hok p _ hk
   refine⟨⟨o,e,ex.1⟩,fun a e2=>?_⟩
   cases e2
   exact⟨o,e,ex.2.1⟩
 |_=>exact False.elim ty
def tBM (K:PySem.W.Frag)(T:String)(r:V->List V->Hp->VK->Prop)(to:TE)(t:TA):TE:=fun σ H Q=>to σ H fun x H1=>tyV K T x H1/\t σ H1 fun xs H2=>r x xs H2 Q
variable {o e:Expr} {es:List Expr} {to:TE} {t:TA} {name:Str} {apos cpos:Pos} {T id:String} {r:V->List V->Hp->VK->Prop}
theorem pe_bm (pa:PlainAttrs T)(slot:Slot T name id)(hty:typeOf (.builtin id)=pure (.type "method_descriptor"))(hm:MtR X id r)(ho:PE X o to)(ha:PA X (e::es) t)
  (hbase:attributeBase o name X.env (eval o X.env)=eval o X.env:=by rfl)
  (hfew:((backTo cpos (starEach (e::es) X.env)).all (fun x => !x.1)&&(backToKw cpos (keywordEach [] X.env)).all (fun x=>x.1.isSome)
   && decide ((e::es).length+([]:List Keyword).length+(if ([]:List Keyword).isEmpty then 0 else 1)<30))=true:=by rfl)
  (hline:(apos.endLine==cpos.line)=true:=by rfl) (hs:starEach (e::es) X.env=(false,eval e X.env)::starEach es X.env:=by rfl) (hplain:(backTo cpos (starEach es X.env)).any (·.1)=false:=by rfl):
  PE X (.Call (.Attribute o name apos) (e::es) [] cpos) (tBM X.K T r to t):=by
 intro pins s σ H Q I h
 refine wpAny_Call_method_late hbase hfew hline rfl (thn (ho pins s σ H _ I h) fun v s1 ⟨x,H1,I1,r1,ty,q1⟩=>?_)
 obtain⟨h1,h2⟩:=tyV_is I1 r1 ty
 refine⟨T,id,pa,slot,hty,h1,h2,?_⟩
 have hA:=ha cpos pins s1 σ H1 _ I1 q1
 rw[hs]at hA ⊢
 refine Calls.callWith_builtin (by show (false||(backTo cpos (starEach es X.env)).any (·.1))=false;rw[hplain]<;>rfl) (Calls.evalArgs_plain ?_)
 exact thn hA fun us s2 ⟨vs,H2,I2,r2,q2⟩=>hm pins s2 σ H2 x vs v us Q I2 r1 r2 q2
/- xs.append(e),list.index on a module's tuple .. are MtR facts of 06m -/
end
end L2
namespace L2
open PySem PySem.Spec PyProof.Rows
def MtM (X:Cx)(id:String)(r:V->List V->Hp->VK->Prop):Prop:=
 ∀(pins:List (Addr×Obj)) (s:Shared) (σ:St) (H:Hp) (x:V) (xs:List V) (v:Value) (us:List Value) (Q:VK),Inv X pins σ H s->RelV x v->Vals xs us->r x xs H Q ->
  wpAny (model X.prog X.w) X.A (call (.builtin id) (v::us)) (EP X pins σ Q) X.xe s
theorem Vals.one:∀{x:V} {us:List Value},Vals [x] us->∃u,us=[u]/\RelV x u
 |_,_,.cons r .nil=>⟨_,rfl,r⟩
theorem Vals.rep {xs:List V}{us:List Value}(h:Vals xs us):∀k:Nat,Vals (List.replicate k xs).flatten (List.replicate k us).flatten
 |0=>.nil
 |k+1=>by
  rw[List.replicate_succ,List.replicate_succ,List.flatten_cons,List.flatten_cons]
  exact Vals.append h (Vals.rep h k)
theorem foldl_rep (its:List Value):∀(k:Nat) (acc:List Value),
  List.foldl (fun x1 x2=>x1++x2) acc.toArray (List.replicate k its.toArray)=(acc++(List.replicate k its).flatten).toArray
 |0,acc=>by simp
 |k+1,acc=>by
  have e:acc.toArray++its.toArray=(acc++its).toArray:=by simp
  have e2:(acc++its)++(List.replicate k its).flatten=acc++(List.replicate (k+1) its).flatten:=by
   rw[List.replicate_succ,List.flatten_cons,List.append_assoc]
  rw[<-e2,<-foldl_rep its k (acc++its),<-e,List.replicate_succ,List.foldl_cons]
section
variable {X:Cx} {pins:List (Addr×Obj)} {σ:St} {H:Hp} {s:Shared} {l b:Addr} {xs ys zs:List V}
theorem Inv.lset {its its':List Value}{n:Nat}{f:Array Value->Array Value}{t':Nat}(I:Inv X pins σ H s)(hH:H l=some (.lst xs))
  (e:s.heap.get? l=some {cls:=.type "list",data:=.seq its.toArray n}) (hf:f its.toArray=its'.toArray) (hv:Vals ys its') (hz:ys.length<=sizeLine):
  Inv X pins σ (upd H l (.lst ys)) {s with heap:=s.heap.update l (Obj.mapSeq f),toks:=t' }:=by
 have q:=PySem.IsL.update e f
 rw[hf]at q
 refine I.write (x:=l) (e:=l) (by rw[hH];exact trivial) (.inl rfl) (fun b' u hb hu=>(Heap.get?_update_other s.heap (Obj.mapSeq f) (Ne.symm hb)).trans hu) ⟨_,q⟩ ?_
 exact⟨hz,its',_,hv,q⟩
theorem Inv.lnew {its:List Value}{t':Nat}(I:Inv X pins σ H s)(hv:Vals ys its)(hz:ys.length<=sizeLine):
  Inv X pins σ (upd H s.heap.objs.size (.lst ys)) {s with heap:=s.heap.push {cls:=.type "list",data:=.seq its.toArray},toks:=t' }:=
 I.laid (fun _ _ q=>Heap.get?_push_of_some _ q) (Nat.le_refl _) ⟨hz,its,0,hv,Heap.get?_push_size _ rfl⟩
theorem Inv.fresh (I:Inv X pins σ H s):H s.heap.objs.size=none:=I.hok.fresh (Nat.le_refl _)
theorem Inv.lstM (I:Inv X pins σ H s)(hH:H l=some (.lst xs)):xs.length<=sizeLine/\∃(its:List Value) (n:Nat),Vals xs its/\xs.length=its.length/\s.heap.get? l=some {cls:=.type "list",data:=.seq its.toArray n}:=by
 obtain⟨z,its,n,r,e⟩:=I.hok l _ hH
 exact⟨z,its,n,r,r.length,e⟩
theorem notLongL {n:Nat}(h:n<=sizeLine):Builtin.List.listTooLong n=false:=by
 unfold Builtin.List.listTooLong
 exact decide_eq_false (by omega)
end
section
variable {X:Cx}
def rAppend:V->List V->Hp->VK->Prop:=fun x vs H Q=>∃l xs y,x=.ref l/\vs=[y]/\H l=some (.lst xs)/\xs.length<sizeLine/\Q .non (upd H l (.lst (xs++[y])))
theorem mt_append:MtM X "list.append" rAppend:=by
 intro pins s σ H x vs v us Q I rx rv h
 obtain⟨l,xs,y,rfl,rfl,hH,hz,q⟩:=h
 cases rx
 obtain⟨u,rfl,ru⟩:=rv.one
 obtain⟨z,its,n,r,hl,e⟩:=I.lstM hH
 refine call_meets F.slot_list_append ⟨_,e,rfl⟩ F.entry_list_append (F.args_list_append_2 _ _) (PySem.list_append l its.toArray n u (by rw[List.size_toArray];omega)) ⟨e,?_⟩
 refine⟨.non,_,I.lset (its':=its++[u]) hH e (by simp) (r.append (.cons ru .nil)) ?_,rfl,q⟩
 rw[List.length_append,List.length_singleton]
 omega
def rExtend:V->List V->Hp->VK->Prop:=fun x vs H Q=>∃l b xs zs,x=.ref l/\vs=[.ref b]/\H l=some (.lst xs)/\H b=some (.lst zs)/\xs.length+zs.length<=sizeLine/\Q .non (upd H l (.lst (xs++zs)))
theorem mt_extend:MtM X "list.extend" rExtend:=by
 intro pins s σ H x vs v us Q I rx rv h
 obtain⟨l,b,xs,zs,rfl,rfl,hH,hB,hz,q⟩:=h
 cases rx
 obtain⟨u,rfl,ru⟩:=rv.one
 cases ru
 obtain⟨z,its,n,r,hl,e⟩:=I.lstM hH
 obtain⟨z2,its2,n2,r2,hl2,e2⟩:=I.lstM hB
 have hsz:its.toArray.size+its2.toArray.size<=sizeLine:=by rw[List.size_toArray,List.size_toArray];omega
 have hlong:¬ (!its.toArray.isEmpty&&Builtin.List.listTooLong (its.toArray.size+its2.toArray.size))=true:=by
  rw[notLongL hsz,Bool.and_false]
  exact Bool.false_ne_true
 refine call_meets F.slot_list_extend ⟨_,e,rfl⟩ F.entry_list_extend (F.args_list_extend_2 _ _)
  (AutoSeq1.list_extend_list_list_0 l its.toArray n b its2.toArray n2 hlong (by rw[List.size_toArray];omega) (by omega)) ⟨e,e2,?_⟩
 refine⟨.non,_,I.lset (its':=its++its2) hH e (by simp) (r.append r2) ?_,rfl,q⟩
 rw[List.length_append]
 omega
def rRep:R2:=fun x y H Q=>∃l k xs,x=.ref l/\y=.int k/\H l=some (.lst xs) /\ -(2 ^ 63)<=k/\k<2 ^ 63/\xs.length*k.toNat<=sizeLine /\
 ∀p,H p=none->Q (.ref p) (upd H p (.lst (List.replicate k.toNat xs).flatten))
theorem len_rep {α:Type}(xs:List α)(k:Nat):(List.replicate k xs).flatten.length=k*xs.length:=by
 induction k with
 |zero=>simp
 |succ k ih=>rw[List.replicate_succ,List.flatten_cons,List.length_append,ih,Nat.succ_mul,Nat.add_comm]
theorem op_rep:OpR X (binaryOp .Mult) rRep:=by
 intro pins s σ H x y v u Q I rx ry h
 obtain⟨l,k,xs,rfl,rfl,hH,h1,h2,hz,q⟩:=h
 cases rx
 obtain⟨t,rfl⟩:=ry
 obtain⟨z,its,n,r,hl,e⟩:=I.lstM hH
 have hlen:its.toArray.size*k.toNat<=sizeLine:=by rw[List.size_toArray,<-hl];exact hz
 have hcap:¬ its.toArray.size*k.toNat > (2 ^ 63-1) / 8:=by
  have:(sizeLine:Nat)<=(2 ^ 63-1) / 8:=by decide
  omega
 have hfit:¬ (!Builtin.List.listFitsIndex k)=true:=by
  rw[fitsIndex_both h1 h2]
  exact Bool.false_ne_true
 have hlong:¬ Builtin.List.listTooLong (its.toArray.size*k.toNat)=true:=by
  rw[notLongL hlen]
  exact Bool.false_ne_true
 have hnew:List.foldl (fun x1 x2=>x1++x2) #[] (List.replicate (if its.toArray.isEmpty=true then 0 else k.toNat) its.toArray)=(List.replicate k.toNat its).flatten.toArray:=by
  have f0:∀m:Nat,List.foldl (fun x1 x2=>x1++x2) #[] (List.replicate m its.toArray)=(List.replicate m its).flatten.toArray:=fun m=>by
   have:=foldl_rep its m []
   rw[List.nil_append]at this
   exact this
  rw[f0]
  cases its with
  |nil=>simp
  |cons a r'=>rw[if_neg (by simp)]
 refine wpAny_binaryOp_repeat_ref (T := "list") (U := "int") (by decide) ⟨_,e,rfl⟩ (fun s'=>typeIs_int s' k t) noFill_list_mul F.fills_int_mul F.slot_int_rmul repeat_list F.slot_int_index.lookup
  (call_meets F.slot_int_rmul (typeIs_int s k t) F.entry_int_rmul (F.args_int_rmul_2 _ _) (int___rmul___int_list k t l its.toArray n)
   ⟨e,rfl,⟨_,e,rfl⟩,call_meets F.slot_list_mul ⟨_,e,rfl⟩ F.entry_list_mul (F.args_list_mul_2 _ _) (AutoListH.list___mul___list_int_3 l its.toArray n k t hfit hcap hlong) ⟨e,?_⟩⟩)
 rw[hnew]
 exact⟨.ref _,_,I.lnew (t':=s.toks) (r.rep k.toNat) (by rw[len_rep,Nat.mul_comm];exact hz),rfl,q _ I.fresh⟩
end
end L2
namespace Att
open PySem PySem.W PySem.Calls PyProof.Rows
theorem ints_of_wellAll {P:Params}{h:Heap}:∀(ns:List Int) (vs:List Value),WellAll P h vs (ns.map WData.int)->IntsAre vs ns:=by
 intro ns
 induction ns with
 |nil=>
  intro vs w
  rw[List.map_nil]at w
  cases w
  exact .nil
 |cons n ns ih=>
  intro vs w
  rw[List.map_cons]at w
  cases w with
  |cons a b=>
   cases a
   exact .cons _ _ (ih _ b)
theorem script_of {l:OpenLaw}{n:Nat}(hn:l.most=some n){P:Params}{h:Heap}{args:List WData}{vals:List Value}
  (hpre:l.row.toRowW.claim.pre args=true) (hwl:WellAll P h vals args):
  ∃a vs ns,vals=[Value.ref a]/\args=[WData.list (ns.map WData.int)]/\h.get? a=some {cls:=.type "list",data:=.seq vs.toArray}/\IntsAre vs ns/\ns.length<=n:=by
 have hsh:WShape.hasAll [] args [.list .int]=true:=(pre_splitW hpre).1
 have hc:l.pre.holds [] {args:=args}=true:=(pre_splitW hpre).2
 obtain⟨d,r,rfl,h1,h2⟩:=hasAllW_cons hsh
 obtain rfl:=hasAllW_nil h2
 obtain⟨xs,rfl,h3⟩:=hasW_list h1
 obtain⟨ns,rfl⟩:=items_int h3
 have hlen:ns.length<=n:=by
  unfold OpenLaw.pre at hc
  have h4:(WTm.not (.lt (.lit (.int (n:Int))) (.len (.arg 0)))).holds [] {args:=[.list (ns.map .int)]}=true:=by
   have h4:=(holds_andW hc).1
   rw[hn]at h4
   exact h4
  have h5:=condW_of h4 (w_not (w_lt w_lit (w_len_list (w_arg rfl))))
  rw[List.length_map]at h5
  refine Nat.le_of_not_lt fun q=>?_
  have q':(n:Int)<((ns.length:Nat):Int):=by omega
  first
   | (rw[decide_eq_true q']at h5;exact absurd h5 (by decide))
   | (simp at h5;omega)
 cases hwl with
 |cons w1 w2=>
  cases w2
  cases w1 with
  |list ho hall=>exact⟨_,_,ns,rfl,rfl,ho,ints_of_wellAll ns _ hall,hlen⟩
theorem post_true (l:OpenLaw)(args:List WData):l.row.toRowW.claim.post args (.bool true) args=true:=
 postW_of (r:=l.row.toRowW) (X:=(true==true))
  (show WShape.has [] (.bool true) .bool=true by first|rfl|decide|simp[WShape.has,WShape.arms,WShape.armsAll])
  (show (WTm.eq .res (.lit (.bool true))).value [] {args:=args,res:=some (.bool true),after:=args}=some (.bool (true==true)) from w_eq_bool (w_res rfl) w_lit) rfl
theorem attach_call {l:OpenLaw}{n:Nat}{q:Program}{loose:List Str}{XP:(Str->Option Value)->Heap->Prop}{YP:World->Heap->Prop}{d:DefRec}
  (hn:l.most=some n) (hdf:d.params.defaults=[])
  (call:∀(w:World) (s₀ s₁:Shared) (mg mb:Str->Option Value) (fa:Addr) (o:Obj) (pm cd doc:Value) (a:Addr) (vs:List Value) (ns:List Int),
   Ground q loose [] XP w s₀ mg mb s₁.heap->YP w s₁.heap ->
   s₁.heap.get? fa=some o->o.data=.func (docDef d.name d.params d.body d.scope pm cd doc)->s₁.heap.CodeRec cd d.name->mg d.name=some (.ref fa) ->
   s₁.heap.get? a=some {cls:=.type "list",data:=.seq vs.toArray}->IntsAre vs ns->ns.length<=n->s₁.gens = #[] ->
   codeAny (model l.prog w) callerA (.call (.ref fa) ⟨[.ref a],[]⟩) (fun r s'=>r=.ok (.ret (.bool true))/\OldK s₁.heap s'.heap/\s'.os=s₁.os/\AllBare s'.gens) s₁):
  WalkO q loose XP YP l.row.toRowW d [] (fun f vs=>PySem.call f vs):=by
 intro w s₀ s₁ mg mb G Y fa o pm cd doc dV kV ho hd hcd hD hmg hg args vals as hpre hlay hrd hwl hlo
 obtain rfl:dV=.none:=Dflts.none hD hdf
 obtain rfl:kV=.none:=Dflts.noKw hD
 obtain⟨a,vs,ns,rfl,rfl,hobj,hints,hlen⟩:=script_of hn hpre hwl
 refine enter_call (codeAny_mono (call w s₀ s₁ mg mb fa o pm cd doc a vs ns G Y ho (fd_plain hd) hcd hmg hobj hints hlen hg) fun r s' hq=>?_)
 obtain⟨rfl,h2,h3,h4⟩:=hq
 exact⟨.inl ⟨.bool true,.bool true,[],rfl,fun _=>rfl,.bool true,post_true l _,fun _=>⟨List.Pairwise.nil,fun _ hm=>(nomatch hm)⟩⟩,h2,h3,h4⟩
end Att
namespace L2
open PySem PySem.Spec PyProof.Rows
theorem vals_ints:∀{vs:List Value} {ns:List Int},IntsAre vs ns->Vals (ns.map V.int) vs
 |_,_,.nil=>.nil
 |_,_,.cons n t h=>.cons ⟨t,rfl⟩ (vals_ints h)
def defArgs (s:Stmt):Arguments:=match s with
 |.FunctionDef _ a _ _ _ _ _ _ _ _=>a
 |_=>{posonlyargs:=[],args:=[],vararg:=none,kwonlyargs:=[],kw_defaults:=[],kwarg:=none,defaults:=[]}
def defBody (s:Stmt):List Stmt:=match s with
 |.FunctionDef _ _ b _ _ _ _ _ _ _=>b
 |_=>[]
def defScope (s:Stmt):Scope:=match s with
 |.FunctionDef _ _ _ _ _ _ sc _ _ _=>sc
 |_=>{kind:=.function,names:=[],isGenerator:=false,isCoroutine:=false}
abbrev CX0:CXT:=fun _ _ _ _ _ _=>False
abbrev E0:XK:=fun _ _ _=>False
theorem pass0 {X:Cx}:Passes CX0 X E0:=fun _ _ _ _ _ _ _ h=>h.elim
structure Fun (K:PySem.W.Frag)(x qual:Str)(st:Stmt)(f:Addr)(fd:FuncData):Prop where
 ex:∃(oc:Value) (od:Option Addr) (kV doc pm:Value) (an:Option Addr) (cdv ct:Value) (osl:Array (Option Value)),
  fd=PySem.W.fnOf x qual (defArgs st) (defBody st) (defScope st) .none kV doc pm an cdv ct/\K.lookup f=some ⟨oc,od,.func fd,osl⟩/\PySem.W.codeIn K cdv qual=true
 kp:PySem.W.keepIn K (.ref f)=true
section
variable {P:Program} {w:World} {K:PySem.W.Frag} {mg:Str->Option Value} {base:Heap}
theorem Fun.ok {x qual:Str}{st:Stmt}{f:Addr}{fd:FuncData}{N ps:List Str}{k:Nat}{sp:Sp}(F:Fun K x qual st f fd)(S:FnScope N ps (defScope st))(len:∀vs H Q E,sp vs H Q E->vs.length=ps.length)
  (hbody:∀(cdv:Value) (A:Around) (outer:List Env) (s:Shared) (H:Hp) (vs:List V) (Q:VK) (E:XK),Room k (A.deeper (envOfC qual (defScope st) s.heap.objs.size f cdv))->sp vs H Q E ->
   ∃t,PSs (cxOf CX0 P w K mg base N qual (defScope st) f cdv A outer s H E).nox (defBody st) t/\t {nx:=fun _ H'=>Q .non H',rt:=Q} (start N vs) H):FnOk P w K mg base CX0 (k+1) f fd ps sp:=by
 obtain⟨oc,od,kV,doc,pm,an,cdv,ct,osl,rfl,lk,hcd⟩:=F.ex
 refine fn_of lk hcd S len fun A outer s H vs Q E hr hsp=>?_
 obtain⟨t,h,q⟩:=hbody cdv A outer s H vs Q E hr hsp
 exact⟨t,h.nox,q⟩
theorem Fun.binds {x qual:Str}{st:Stmt}{f:Addr}{fd:FuncData}{ps:List Str}(F:Fun K x qual st f fd)
  (h:∀(kV doc pm:Value) (an:Option Addr) (cdv ct:Value) (us:List Value),us.length=ps.length->bindArgs (PySem.W.fnOf x qual (defArgs st) (defBody st) (defScope st) .none kV doc pm an cdv ct) ⟨us,[]⟩=pure (ps.zip us)):Binds K fd ps []:=by
 obtain⟨oc,od,kV,doc,pm,an,cdv,ct,osl,rfl,lk,hcd⟩:=F.ex
 exact .all (h kV doc pm an cdv ct)
theorem fun_mk {x qual:Str}{st:Stmt}{f:Addr}{oc:Value}{od an:Option Addr}{osl:Array (Option Value)}{kV doc pm cdv ct:Value}(l:K.lookup f=some ⟨oc,od,.func (PySem.W.fnOf x qual (defArgs st) (defBody st) (defScope st) .none kV doc pm an cdv ct),osl⟩)
  (c:PySem.W.codeIn K cdv qual=true) (k:PySem.W.keepIn K (.ref f)=true):Fun K x qual st f (PySem.W.fnOf x qual (defArgs st) (defBody st) (defScope st) .none kV doc pm an cdv ct):=⟨⟨oc,od,kV,doc,pm,an,cdv,ct,osl,rfl,l,c⟩,k⟩
end
theorem hu_of {A:Around}{k:Nat}(hr:Room k A):A.units+1<cLine:=Nat.lt_of_le_of_lt (Nat.add_le_add_left (by decide:1<=64) _) hr.units
section
variable {X:Cx}
theorem pv (i:Nat){x:Str}{pos:Pos}(hN:X.N[i]?=some x:=by rfl)(hv:Vis X.env.scope x:=by first|exact Or.inl rfl|exact Or.inr (Or.inl rfl)|exact Or.inr (Or.inr rfl))(hd:(x==("__debug__" : Str))=false:=by decide)
  (hcd:(x==("__classdict__" : Str))=false:=by decide):PE X (.Name x pos) (tVar i):=pe_var hN hv hd hcd
end
theorem ite2 {c A B:Prop}[Decidable c](h1:c->A)(h2:¬ c->B):if c then A else B:=by
 by_cases h:c
 ·rw[if_pos h]
  exact h1 h
 ·rw[if_neg h]
  exact h2 h
def Same (H H':Hp):Prop:=∀b o,H b=some o->H' b=some o
theorem Same.refl (H:Hp):Same H H:=fun _ _ h=>h
theorem Same.trans {H H1 H2:Hp}(a:Same H H1)(b:Same H1 H2):Same H H2:=fun c o h=>b c o (a c o h)
theorem Same.free {H H':Hp}(e:Same H H'){l:Addr}(h:H' l=Option.none):H l=Option.none:=by
 cases q:H l with
 |none=>rfl
 |some o=>
  rw[e l o q]at h
  cases h
theorem Same.seq {K:PySem.W.Frag}{H H':Hp}{a:Addr}{xs:List V}(e:Same H H')(h:SqL K H a xs):SqL K H' a xs:=by
 rcases h with (h|⟨o,h⟩)|h
 ·exact .inl (.inl (e _ _ h))
 ·exact .inl (.inr ⟨o,e _ _ h⟩)
 ·exact .inr h
end L2
set_option maxHeartbeats 4000000
namespace L2
open PySem PySem.Spec PyProof.Rows
section
variable {κ:Type} [DecidableEq κ]
def valV (kvs:List (κ×V))(k:κ):Option V:=(kvs.find? fun kv=>decide (kv.1=k)).map (·.2)
def putK (kvs:List (κ×V))(k:κ)(v:V):List (κ×V):=
 if (kvs.any fun kv=>decide (kv.1=k))=true then kvs.map (fun kv=>if kv.1=k then (kv.1,v) else kv) else kvs++[(k,v)]
theorem valV_pos {p:κ×V}{r:List (κ×V)}{k:κ}(e:p.1=k):valV (p::r) k=some p.2:=by simp[valV,List.find?_cons,e]
theorem valV_neg {p:κ×V}{r:List (κ×V)}{k:κ}(e:¬ p.1=k):valV (p::r) k=valV r k:=by simp[valV,List.find?_cons,e]
theorem valV_any (k:κ):∀kvs:List (κ×V),(kvs.any fun kv=>decide (kv.1=k))=(valV kvs k).isSome
 |[]=>rfl
 |p::r=>by
  rw[List.any_cons]
  by_cases e:p.1=k
  ·simp only[valV_pos e,decide_eq_true e,Bool.true_or,Option.isSome_some]
  ·rw[valV_neg e,decide_eq_false e,Bool.false_or];exact valV_any k r
theorem length_putK (kvs:List (κ×V))(k:κ)(v:V):(putK kvs k v).length<=kvs.length+1:=by
 unfold putK
 split
 ·rw[List.length_map];omega
 ·rw[List.length_append,List.length_cons,List.length_nil];omega
theorem putK_new {kvs:List (κ×V)}{k:κ}(v:V)(h:valV kvs k=none):putK kvs k v=kvs++[(k,v)]:=by
 unfold putK
 rw[valV_any,h]
 exact if_neg (by decide)
theorem RelO.isSome_eq {o:Option V}{u:Option Value}(r:RelO o u):o.isSome=u.isSome:=by
 cases o with
 |none=>cases u with
  |none=>rfl
  |some _=>exact (show False from r).elim
 |some _=>cases u with
  |none=>exact (show False from r).elim
  |some _=>rfl
theorem RelO.getD {o:Option V}{u:Option Value}{d:V}{d':Value}(r:RelO o u)(rd:RelV d d'):RelV (o.getD d) (u.getD d'):=by
 cases o with
 |none=>cases u with
  |none=>exact rd
  |some _=>exact (show False from r).elim
 |some _=>cases u with
  |none=>exact (show False from r).elim
  |some _=>exact r
theorem KV.val {kvs:List (κ×V)}{vs:List (κ×Value)}(r:KV kvs vs)(k:κ):RelO (valV kvs k) (valueAt vs k):=by
 unfold KV at r
 induction r with
 |nil=>exact True.intro
 |@cons p q ps qs h t ih=>
  obtain⟨h1,h2⟩:=h
  by_cases e:p.1=k
  ·have e':q.1=k:=h1.symm.trans e
   have b:valueAt (q::qs) k=some q.2:=by simp[valueAt,List.find?_cons,e']
   rw[valV_pos e,b];exact h2
  ·have e':¬ q.1=k:=fun z=>e (h1.trans z)
   have b:valueAt (q::qs) k=valueAt qs k:=by simp[valueAt,List.find?_cons,e']
   rw[valV_neg e,b];exact ih
theorem KV.any {kvs:List (κ×V)}{vs:List (κ×Value)}(r:KV kvs vs)(k:κ):(kvs.any fun kv=>decide (kv.1=k))=vs.any fun kv=>decide (kv.1=k):=by
 unfold KV at r
 induction r with
 |nil=>rfl
 |cons h t ih=>rw[List.any_cons,List.any_cons,ih,h.1]
theorem KV.repl {kvs:List (κ×V)}{vs:List (κ×Value)}(r:KV kvs vs)(k:κ){y:V}{u:Value}(ry:RelV y u):
  KV (kvs.map fun kv=>if kv.1=k then (kv.1,y) else kv) (vs.map fun kv=>if kv.1=k then (kv.1,u) else kv):=by
 unfold KV at r ⊢
 induction r with
 |nil=>exact .nil
 |@cons p q ps qs h t ih=>
  rw[List.map_cons,List.map_cons]
  refine .cons ?_ ih
  obtain⟨h1,h2⟩:=h
  by_cases e:p.1=k
  ·rw[if_pos e,if_pos (h1.symm.trans e)];exact⟨h1,ry⟩
  ·rw[if_neg e,if_neg (fun z=>e (h1.trans z))];exact⟨h1,h2⟩
theorem KV.put {kvs:List (κ×V)}{vs:List (κ×Value)}(r:KV kvs vs)(k:κ){y:V}{u:Value}(ry:RelV y u):KV (putK kvs k y) (stored vs k u):=by
 unfold putK stored
 rw[r.any k]
 by_cases e:(vs.any fun kv=>decide (kv.1=k))=true
 ·rw[if_pos e,if_pos e];exact r.repl k ry
 ·rw[if_neg e,if_neg e];exact Paired.snoc r ⟨rfl,ry⟩
theorem KV.keys {kvs:List (κ×V)}{vs:List (κ×Value)}(r:KV kvs vs):kvs.map (·.1)=vs.map (·.1):=by
 unfold KV at r
 induction r with
 |nil=>rfl
 |cons h t ih=>rw[List.map_cons,List.map_cons,ih,h.1]
theorem KV.length {kvs:List (κ×V)}{vs:List (κ×Value)}(r:KV kvs vs):kvs.length=vs.length:=Paired.length r
end
theorem kV_is {P:Program}{w:World}{k:Key}{u:Value}(r:RelV (kV k) u):(mixKind P w).is k u=true:=by
 cases k with
 |inl i=>obtain⟨t,e⟩:=(show ∃t,u=Value.int i t from r);subst e;exact mixKind_int P w i t
 |inr x=>obtain⟨t,e⟩:=(show ∃t,u=Value.str x t from r);subst e;exact mixKind_str P w x t
theorem items_are {P:Program}{w:World}:∀{ks:List Key} {us:List Value},Vals (ks.map kV) us->ItemsAre (mixKind P w) ks us
 |[],_,r=>by rw[List.map_nil]at r;cases r;exact .nil
 |k::ks,_,r=>by
  rw[List.map_cons]at r
  cases r with
  |cons h t=>exact .cons (kV_is h) (items_are t)
abbrev KT (H:Hp):List (List Key×V)->List (List Key×Addr×Value)->Prop:=Paired fun p q=>p.1=q.1/\H q.2.1=some (.tup (p.1.map kV))/\RelV p.2 q.2.2
theorem KT.val {H:Hp}{kvs:List (List Key×V)}{xs:List (List Key×Addr×Value)}(r:KT H kvs xs)(k:List Key):RelO (valV kvs k) ((atKey xs k).map (·.2)):=by
 induction r with
 |nil=>exact True.intro
 |@cons p q ps qs h t ih=>
  obtain⟨h1,_,h2⟩:=h
  by_cases e:p.1=k
  ·have e':q.1=k:=h1.symm.trans e
   have b:atKey (q::qs) k=some q.2:=by simp[atKey,List.find?_cons,e']
   rw[valV_pos e,b];exact h2
  ·have e':¬ q.1=k:=fun z=>e (h1.trans z)
   have b:atKey (q::qs) k=atKey qs k:=by simp[atKey,List.find?_cons,e']
   rw[valV_neg e,b];exact ih
theorem KT.repl {H:Hp}{kvs:List (List Key×V)}{xs:List (List Key×Addr×Value)}(r:KT H kvs xs)(k:List Key){y:V}{u:Value}(ry:RelV y u):
  KT H (kvs.map fun kv=>if kv.1=k then (kv.1,y) else kv) (xs.map (putAt k u)):=by
 induction r with
 |nil=>exact .nil
 |@cons p q ps qs h t ih=>
  rw[List.map_cons,List.map_cons]
  refine .cons ?_ ih
  obtain⟨h1,h2,h3⟩:=h
  unfold putAt
  by_cases e:p.1=k
  ·rw[if_pos e,if_pos (h1.symm.trans e)];exact⟨h1,h2,ry⟩
  ·rw[if_neg e,if_neg (fun z=>e (h1.trans z))];exact⟨h1,h2,h3⟩
theorem KT.put {H:Hp}{kvs:List (List Key×V)}{xs:List (List Key×Addr×Value)}(r:KT H kvs xs)(k:List Key){b:Addr}{y:V}{u:Value}(hb:H b=some (.tup (k.map kV)))(ry:RelV y u):
  KT H (putK kvs k y) (storedH xs k b u):=by
 have e:(kvs.any fun kv=>decide (kv.1=k))=(atKey xs k).isSome:=by
  rw[valV_any,(r.val k).isSome_eq,Option.isSome_map]
 unfold putK storedH
 rw[e]
 by_cases q:(atKey xs k).isSome=true
 ·rw[if_pos q,if_pos q];exact r.repl k ry
 ·rw[if_neg q,if_neg q];exact Paired.snoc r ⟨rfl,hb,ry⟩
theorem KT.keeps {H H':Hp}{kvs:List (List Key×V)}{xs:List (List Key×Addr×Value)}(r:KT H kvs xs)(ht:∀b ys,H b=some (.tup ys)->H' b=some (.tup ys)):KT H' kvs xs:=
 Paired.mapP r fun _ _ z=>⟨z.1,ht _ _ z.2.1,z.2.2⟩
section
variable {P:Program} {w:World} {H:Hp} {h:Heap} {a:Addr}
theorem rd_of {u:HO}(ok:HOk P w H h)(e:Rd H a u):ObjOk P w H h a u:=e.ok ok
theorem dk_rd {kvs:List (Key×V)}(ok:HOk P w H h)(e:Rd H a (.dK kvs)):kvs.length<=sizeLine/\(a==sysModules)=false/\∃vs,KV kvs vs/\h.DictOf (mixKind P w) a vs:=
 show ObjOk P w H h a (.dK kvs) from rd_of ok e
theorem dk_of {kvs:List (Key×V)}(ok:HOk P w H h)(e:H a=some (.dK kvs)):kvs.length<=sizeLine/\(a==sysModules)=false/\∃vs,KV kvs vs/\h.DictOf (mixKind P w) a vs:=dk_rd ok (.inl e)
theorem key_of {ks:List Key}(ok:HOk P w H h)(e:H a=some (.tup (ks.map kV))):(tupleKind (mixKind P w)).is h ks a:=by
 obtain⟨_,its,r,o,h1,h2,n,h3⟩:=(show ObjOk P w H h a (.tup (ks.map kV)) from ok a _ e)
 exact⟨o,its.toArray,n,h1,h2,h3,by simpa using items_are r⟩
theorem dt_rd {kvs:List (List Key×V)}(ok:HOk P w H h)(e:Rd H a (.dT kvs)):kvs.length<=sizeLine/\(a==sysModules)=false /\
  ∃xs,KT H kvs xs/\h.DictOfH (tupleKind (mixKind P w)) a xs:=by
 obtain⟨z,y,xs,r,o,es,ep,h1,h2,h3,h4,h5⟩:=(show ObjOk P w H h a (.dT kvs) from rd_of ok e)
 refine⟨z,y,xs,r,o,es,ep,h1,h2,h3,h4,fun x hx=>?_,h5⟩
 have all:∀{l:List (List Key×V)} {m:List (List Key×Addr×Value)},KT H l m->∀x∈m,(tupleKind (mixKind P w)).is h x.1 x.2.1:=by
  intro l m q
  induction q with
  |nil=>intro x hx;exact nomatch hx
  |@cons p q ps qs hq t ih=>
   intro x hx
   rcases List.mem_cons.mp hx with e|hx
   ·subst e
    exact key_of ok (by rw[<-hq.1];exact hq.2.1)
   ·exact ih x hx
 exact all r x hx
theorem dt_of {kvs:List (List Key×V)}(ok:HOk P w H h)(e:H a=some (.dT kvs)):kvs.length<=sizeLine/\(a==sysModules)=false /\
  ∃xs,KT H kvs xs/\h.DictOfH (tupleKind (mixKind P w)) a xs:=dt_rd ok (.inl e)
end
def DGet (H:Hp)(a:Addr)(y:V)(r:Option V):Prop:=
 (∃kvs k,Rd H a (.dK kvs)/\y=kV k/\r=valV kvs k) \/ ∃kvs k b,Rd H a (.dT kvs)/\y=.ref b/\H b=some (.tup (k.map kV))/\r=valV kvs k
def DPut (H:Hp)(a:Addr)(y v:V)(H':Hp):Prop:=
 (∃kvs k,H a=some (.dK kvs)/\y=kV k/\kvs.length<sizeLine/\H'=upd H a (.dK (putK kvs k v))) \/
 ∃kvs k b,H a=some (.dT kvs)/\y=.ref b/\H b=some (.tup (k.map kV))/\kvs.length<sizeLine/\H'=upd H a (.dT (putK kvs k v))
theorem DGet.k {H:Hp}{a:Addr}{kvs:List (Key×V)}{k:Key}(e:H a=some (.dK kvs)):DGet H a (kV k) (valV kvs k):=.inl ⟨kvs,k,.inl e,rfl,rfl⟩
theorem DGet.t {H:Hp}{a b:Addr}{kvs:List (List Key×V)}{k:List Key}(e:H a=some (.dT kvs))(eb:H b=some (.tup (k.map kV))):DGet H a (.ref b) (valV kvs k):=.inr ⟨kvs,k,b,.inl e,rfl,eb,rfl⟩
theorem DPut.k {H:Hp}{a:Addr}{kvs:List (Key×V)}{k:Key}{v:V}(e:H a=some (.dK kvs))(hl:kvs.length<sizeLine):DPut H a (kV k) v (upd H a (.dK (putK kvs k v))):=.inl ⟨kvs,k,e,rfl,hl,rfl⟩
theorem DPut.t {H:Hp}{a b:Addr}{kvs:List (List Key×V)}{k:List Key}{v:V}(e:H a=some (.dT kvs))(eb:H b=some (.tup (k.map kV)))(hl:kvs.length<sizeLine):
  DPut H a (.ref b) v (upd H a (.dT (putK kvs k v))):=.inr ⟨kvs,k,b,e,rfl,eb,hl,rfl⟩
section
variable {X:Cx} {pins:List (Addr×Obj)} {σ:St} {H:Hp} {s:Shared} {a:Addr} {y v:V} {u r:Value} {o:Option V} {A:Around} {E:Value->Shared->Prop}
theorem Inv.big (I:Inv X pins σ H s):sysModules<s.heap.objs.size:=by
 have h:mainGlobals<s.heap.objs.size:=(I.mod.glob.keeps I.bk).lt
 exact Nat.lt_trans (by decide) h
theorem d_getItem {Q:Value->Shared->Prop}(hu:A.units+1<cLine)(I:Inv X pins σ H s)(g:DGet H a y (some v))(ry:RelV y u)(h:∀w' s',Inv X pins σ H s'->RelV v w'->Q w' s'):
  wpAny (model X.prog X.w) A (getItem (.ref a) u) Q E s:=by
 rcases g with ⟨kvs,k,e,ey,l⟩|⟨kvs,k,b,e,ey,eb,l⟩
 ·subst ey
  obtain⟨z,hd,vs,rel,dd⟩:=dk_rd I.hok e
  obtain⟨w',hw,rw'⟩:=RelO.some_of (v:=v) (o:=valueAt vs k) (by rw[l];exact rel.val k)
  exact wpAny_getItem_of (kV_is ry) dd.mapOf hw (h w' _ (I.tok _) rw')
 ·subst ey
  cases (show u=Value.ref b from ry)
  obtain⟨z,hd,xs,rel,dd⟩:=dt_rd I.hok e
  obtain⟨w',hw,rw'⟩:=RelO.some_of (v:=v) (o:=(atKey xs k).map (·.2)) (by rw[l];exact rel.val k)
  obtain⟨p,hp,hp2⟩:=Option.map_eq_some_iff.mp hw
  refine wpAny_getItem_heap (tupleKind_room_in1 hu) (key_of I.hok eb) dd hp ?_
  rw[hp2]
  exact h w' _ (I.tok _) rw'
theorem d_notIn {Q:Value->Shared->Prop}(hu:A.units+1<cLine)(I:Inv X pins σ H s)(g:DGet H a y o)(ry:RelV y u)(h:∀s',Inv X pins σ H s'->Q (.bool (!o.isSome)) s'):
  wpAny (model X.prog X.w) A (compareOp .NotIn u (.ref a)) Q E s:=by
 rcases g with ⟨kvs,k,e,ey,l⟩|⟨kvs,k,b,e,ey,eb,l⟩
 ·subst ey
  obtain⟨z,hd,vs,rel,dd⟩:=dk_rd I.hok e
  refine wpAny_notIn_of (kV_is ry) hd dd.mapOf ?_
  rw[<-(rel.val k).isSome_eq,<-l]
  exact h _ (I.tok _)
 ·subst ey
  cases (show u=Value.ref b from ry)
  obtain⟨z,hd,xs,rel,dd⟩:=dt_rd I.hok e
  refine wpAny_notIn_heap (tupleKind_room_in1 hu) (key_of I.hok eb) hd dd ?_
  have q:=(rel.val k).isSome_eq
  rw[Option.isSome_map]at q
  rw[<-q,<-l]
  exact h _ (I.tok _)
theorem d_write {h':Heap}{t':Nat}{ob:HO}(I:Inv X pins σ H s)(mu:Mut (H a))(hs:Heap.SameBut a s.heap h')(he:∃q,h'.get? a=some q)(new:ObjOk X.prog X.w (upd H a ob) h' a ob):
  Inv X pins σ (upd H a ob) {s with heap:=h',toks:=t' }:=
 I.write (x:=a) (e:=a) mu (.inl rfl) (fun b q hb z=>(hs.2 b hb).trans z) he new
theorem dk_new {P:Program}{w:World}{H':Hp}{h':Heap}{kvs:List (Key×V)}{vs:List (Key×Value)}(z:kvs.length<=sizeLine)(hd:(a==sysModules)=false)(rel:KV kvs vs)(dd:h'.DictOf (mixKind P w) a vs):
  ObjOk P w H' h' a (.dK kvs):=⟨z,hd,vs,rel,dd⟩
theorem d_setItem {H':Hp}{Q:Unit->Shared->Prop}(hu:A.units+1<cLine)(I:Inv X pins σ H s)(g:DPut H a y v H')(ry:RelV y u)(rv:RelV v r)(h:∀s',Inv X pins σ H' s'->Q () s'):
  wpAny (model X.prog X.w) A (setItem (.ref a) u r) Q E s:=by
 rcases g with ⟨kvs,k,e,ey,l,eH⟩|⟨kvs,k,b,e,ey,eb,l,eH⟩
 ·subst ey eH
  obtain⟨z,hd,vs,rel,dd⟩:=dk_of I.hok e
  have hz:vs.length<=sizeLine:=by rw[<-rel.length];exact z
  have hl:(putK kvs k v).length<=sizeLine:=by have:=length_putK kvs k v;omega
  refine wpAny_setItem_pairs (hsz:=hz) (kV_is ry) dd fun h' dd' hs=>h _ ?_
  have he:∃q,h'.get? a=some q:=let ⟨q,_,_,hq,_⟩:=dd';⟨q,hq⟩
  exact d_write I (by rw[e];exact True.intro) hs he (dk_new hl hd (rel.put k rv) dd')
 ·subst ey eH
  cases (show u=Value.ref b from ry)
  obtain⟨z,hd,xs,rel,dd⟩:=dt_of I.hok e
  have hz:xs.length<=sizeLine:=by rw[<-Paired.length rel];exact z
  have hl:(putK kvs k v).length<=sizeLine:=by have:=length_putK kvs k v;omega
  refine wpAny_setItem_heap (hsz:=hz) (tupleKind_room_in1 hu) (key_of I.hok eb) dd fun h' dd' hs=>h _ ?_
  obtain⟨q,es,ep,hq,h2,h3,h4,_,h5⟩:=dd'
  refine d_write I (by rw[e];exact True.intro) hs ⟨q,hq⟩ ⟨hl,hd,_,(rel.put k eb rv).keeps fun c ys ec=>?_,q,es,ep,hq,h2,h3,h4,h5⟩
  rw[upd_ne (ne_of ec e (fun z=>nomatch z))]
  exact ec
end
section
variable {X:Cx} {pins:List (Addr×Obj)} {σ:St} {H:Hp} {s:Shared} {a:Addr} {kvs:List (Key×V)} {k:Key} {u:Value} {A:Around} {E:Value->Shared->Prop}
theorem d_len {Q:Value->Shared->Prop}(I:Inv X pins σ H s)(e:Rd H a (.dK kvs))(h:∀t s',Inv X pins σ H s'->Q (.int kvs.length t) s'):wpAny (model X.prog X.w) A (call (.builtin "len") [.ref a]) Q E s:=by
 obtain⟨z,hd,vs,rel,dd⟩:=dk_rd I.hok e
 refine call_len_dict hd dd (by rw[<-rel.length];rw[sizeLine_eq]at z;omega) ?_
 rw[<-rel.length]
 exact h _ _ (I.tok _)
end
def NoSl (i:Expr):Prop:=∀ov iv,subscripted i false ov iv=operate [ov,iv] (getItem ov iv)
theorem subD_of {prog:Program}{w:World}{A:Around}{E:Value->Shared->Prop}{s:Shared}{env:Env}{value slice:Expr}{pos:Pos}{T id:String}{Q:Value->Shared->Prop}
  (hl:typeLookup (.type T) "__getitem__"=pure (some (.builtin id))) (hs:NoSl slice)
  (h:wpAny (model prog w) A (eval value env) (fun o s₁=>wpAny (model prog w) A (eval slice env) (fun i s₂=>s₂.TypeIs o T/\wpAny (model prog w) A (getItem o i) Q E s₂) E s₁) E s):
  wpAny (model prog w) A (eval (.Subscript value slice pos) env) Q E s:=by
 refine Subscript_ (wpAny_mono h (fun o s₁ h₁=>wpAny_mono h₁ (fun i s₂ h₂=>?_) fun _ _ x=>x) fun _ _ x=>x)
 obtain⟨hT,h₂⟩:=h₂
 unfold subscriptTail
 refine wpAny_bind ?_
 rw[getitemInPython_of_ne hT.not_modules]
 refine wpAny_bind (wpAny_specialOf hT hl ?_)
 have fin:wpAny (model prog w) A (subscripted slice false o i) (fun r s₃=>wpAny (model prog w) A (letTemporaryGo value o r >>= fun _=>pure r) Q E s₃) E s₂:=by
  rw[hs o i]
  exact wpAny_operating (wpAny_mono h₂ (fun r s₃ h₃=>wpAny_bind (wpAny_letTemporaryGo (wpAny_pure h₃))) fun _ _ x=>x)
 first
  | exact wpAny_pure (wpAny_bind fin)
  | exact wpAny_bind (wpAny_pure (wpAny_bind fin))
  | exact wpAny_bind fin
theorem dict_typeIs {X:Cx}{pins:List (Addr×Obj)}{σ:St}{H:Hp}{s:Shared}{a:Addr}{y:V}{o:Option V}(I:Inv X pins σ H s)(g:DGet H a y o):s.TypeIs (.ref a) "dict" := by
 rcases g with ⟨kvs,k,e,_,_⟩|⟨kvs,k,b,e,_,_,_⟩
 ·obtain⟨_,_,vs,_,dd⟩:=dk_rd I.hok e
  exact dd.typeIs
 ·obtain⟨_,_,xs,_,dd⟩:=dt_rd I.hok e
  exact dd.typeIs
def tDGet (td ty:TE):TE:=fun σ H Q=>td σ H fun x H1=>ty σ H1 fun y H2=>∃a v,x=.ref a/\DGet H2 a y (some v)/\Q v H2
def tDNotIn (ty td:TE):TE:=fun σ H Q=>ty σ H fun y H1=>td σ H1 fun x H2=>∃a o,x=.ref a/\DGet H2 a y o/\Q (.bl (!o.isSome)) H2
def sDPut (td ty tv:TE):TS:=fun D σ H=>tv σ H fun v H1=>td σ H1 fun x H2=>ty σ H2 fun y H3=>∃a H4,x=.ref a/\DPut H3 a y v H4/\D.nx σ H4
section
variable {X:Cx} {o i e value:Expr} {pos pos' tpos:Pos} {td ty tv:TE}
theorem pe_dget (hu:X.A.units+1<cLine)(ho:PE X o td)(hi:PE X i ty)(hs:NoSl i):PE X (.Subscript o i pos) (tDGet td ty):=by
 intro pins s σ H Q I h
 refine subD_of PySem.F.slot_dict_getitem.lookup hs (thn (ho pins s σ H _ I h) fun u s1 ⟨x,H1,I1,rx,q1⟩=>thn (hi pins s1 σ H1 _ I1 q1) fun iv s2 ⟨y,H2,I2,ry,a,v,ex,g,q2⟩=>?_)
 subst ex
 obtain rfl:u=Value.ref a:=rx
 exact⟨dict_typeIs I2 g,d_getItem hu I2 g ry fun w' s3 I3 rw'=>⟨v,H2,I3,rw',q2⟩⟩
theorem pc_dnotin (hu:X.A.units+1<cLine)(hi:PE X i ty)(ho:PE X o td):PC X .NotIn i o (tDNotIn ty td):=by
 intro pins s σ H Q I h
 refine thn (hi pins s σ H _ I h) fun iv s1 ⟨y,H1,I1,ry,q1⟩=>thn (ho pins s1 σ H1 _ I1 q1) fun u s2 ⟨x,H2,I2,rx,a,ov,ex,g,q2⟩=>?_
 subst ex
 obtain rfl:u=Value.ref a:=rx
 exact d_notIn hu I2 g ry fun s3 I3=>⟨.bl (!ov.isSome),H2,I3,rfl,q2⟩
theorem ps_dput (hu:X.A.units+1<cLine)(ho:PE X o td)(hi:PE X i ty)(hv:PE X value tv)(hs:swapsWith value (some (.Subscript o i pos')) pos.line X.env=pure false):
  PS X (.Assign [.Subscript o i pos'] value pos) (sDPut td ty tv):=by
 intro pins s σ H D I h
 refine wpAny_Assign_Subscript (thn (hv pins s σ H _ I h) fun r s1 ⟨v,H1,I1,rv,q1⟩=>thn (ho pins s1 σ H1 _ I1 q1) fun u s2 ⟨x,H2,I2,rx,q2⟩=>thn (hi pins s2 σ H2 _ I2 q2) fun iv s3 ⟨y,H3,I3,ry,a,H4,ex,g,q3⟩=>?_) hs
 subst ex
 obtain rfl:u=Value.ref a:=rx
 exact d_setItem hu I3 g ry rv fun s4 I4=>⟨σ,H4,I4,q3⟩
end
theorem dk_empty {P:Program}{w:World}{H:Hp}(h:Heap)(hb:sysModules<h.objs.size):ObjOk P w H (h.push {cls:=.type "dict",data:=.dict #[]}) h.objs.size (.dK []):=
 ⟨Nat.zero_le _,beq_eq_false_iff_ne.mpr (Ne.symm (Nat.ne_of_lt hb)),[],.nil,Heap.DictOf.new h⟩
theorem dt_empty {P:Program}{w:World}{H:Hp}(h:Heap)(hb:sysModules<h.objs.size):ObjOk P w H (h.push {cls:=.type "dict",data:=.dict #[]}) h.objs.size (.dT []):=
 ⟨Nat.zero_le _,beq_eq_false_iff_ne.mpr (Ne.symm (Nat.ne_of_lt hb)),[],.nil,_,#[],0,Heap.get?_push_size _ rfl,⟨rfl,rfl,rfl⟩,rfl,rfl,List.nodup_nil⟩
def tDNewK:TE:=fun _ H Q=>∀p,H p=none->Q (.ref p) (upd H p (.dK []))
def tDNewT:TE:=fun _ H Q=>∀p,H p=none->Q (.ref p) (upd H p (.dT []))
section
variable {X:Cx} {pos:Pos}
theorem pe_dnewK:PE X (.Dict [] [] pos) tDNewK:=fun pins s σ H Q I h=>
 wpAny_Dict_empty ⟨.ref s.heap.objs.size,_,I.laid (a:=s.heap.objs.size) (o:=.dK []) (t':=s.toks) (fun _ _ q=>Heap.get?_push_of_some _ q) (Nat.le_refl _) (dk_empty s.heap I.big),rfl,h _ (I.hok.fresh (Nat.le_refl _))⟩
theorem pe_dnewT:PE X (.Dict [] [] pos) tDNewT:=fun pins s σ H Q I h=>
 wpAny_Dict_empty ⟨.ref s.heap.objs.size,_,I.laid (a:=s.heap.objs.size) (o:=.dT []) (t':=s.toks) (fun _ _ q=>Heap.get?_push_of_some _ q) (Nat.le_refl _) (dt_empty s.heap I.big),rfl,h _ (I.hok.fresh (Nat.le_refl _))⟩
end
def tPairs:List (TE×TE)->St->Hp->(List (V×V)->Hp->Prop)->Prop
 |[],_,H,Q=>Q [] H
 | (tk,tv)::r,σ,H,Q=>tk σ H fun x H1=>tv σ H1 fun y H2=>tPairs r σ H2 fun ps H3=>Q ((x,y)::ps) H3
abbrev VV:List (V×V)->List (Value×Value)->Prop:=Paired fun p q=>RelV p.1 q.1/\RelV p.2 q.2
def PPs (X:Cx)(pos:Pos)(keys:List (Option Expr))(values:List Expr)(trs:List (TE×TE)):Prop:=
 ∀(pins:List (Addr×Obj)) (s:Shared) (σ:St) (H:Hp) (Q:List (V×V)->Hp->Prop),Inv X pins σ H s->tPairs trs σ H Q ->
  wpAny (model X.prog X.w) X.A (evalPairs (pairTrees keys values X.env pos)) (fun vs s'=>∃ps H',Inv X pins σ H' s'/\VV ps vs/\Q ps H') X.xe s
theorem pps_nil {X:Cx}{pos:Pos}:PPs X pos [] [] []:=fun pins s σ H Q I h=>pairTrees_nil_walk ⟨[],H,I,.nil,h⟩
theorem pps_cons {X:Cx}{pos:Pos}{k v:Expr}{ks:List (Option Expr)}{vs:List Expr}{tk tv:TE}{trs:List (TE×TE)}(hk:PE X k tk)(hv:PE X v tv)(hr:PPs X pos ks vs trs):
  PPs X pos (some k::ks) (v::vs) ((tk,tv)::trs):=fun pins s σ H Q I h=>
 pairTrees_cons_walk (thn (hk pins s σ H _ I h) fun u s1 ⟨x,H1,I1,rx,q1⟩=>thn (hv pins s1 σ H1 _ I1 q1) fun w2 s2 ⟨y,H2,I2,ry,q2⟩ =>
  thn (hr pins s2 σ H2 _ I2 q2) fun ws s3 ⟨ps,H3,I3,rel,q3⟩=>⟨(x,y)::ps,H3,I3,.cons ⟨rx,ry⟩ rel,q3⟩)
def mergeK (kvs more:List (Key×V)):List (Key×V):=more.foldl (fun acc kv=>putK acc kv.1 kv.2) kvs
theorem KV.merge:∀{more:List (Key×V)} {rs:List (Key×Value)} {kvs:List (Key×V)} {vs:List (Key×Value)},KV more rs->KV kvs vs->KV (mergeK kvs more) (merged vs rs):=by
 intro more rs kvs vs r
 unfold KV at r
 induction r generalizing kvs vs with
 |nil=>intro q;exact q
 |@cons p q ps qs h t ih=>
  intro r0
  have e:KV (putK kvs p.1 p.2) (stored vs q.1 q.2):=by
   have:=r0.put p.1 h.2
   rw[<-h.1];exact this
  exact ih e
theorem length_mergeK:∀(more kvs:List (Key×V)),(mergeK kvs more).length<=kvs.length+more.length
 |[],kvs=>by show kvs.length<=kvs.length+0;omega
 |p::r,kvs=>by
  have h1:=length_mergeK r (putK kvs p.1 p.2)
  have h2:=length_putK kvs p.1 p.2
  show (mergeK (putK kvs p.1 p.2) r).length<=_
  rw[List.length_cons];omega
theorem carries_of {P:Program}{w:World}:∀{kvs:List (Key×V)} {ws:List (Value×Value)},VV (kvs.map fun kv=>(kV kv.1,kv.2)) ws->∃rs,Carries (mixKind P w) ws rs/\KV kvs rs
 |[],_,r=>by rw[List.map_nil]at r;cases r;exact⟨[],True.intro,.nil⟩
 |p::kvs,_,r=>by
  rw[List.map_cons]at r
  cases r with
  |@cons a b as bs h t=>
   obtain⟨rs,c,q⟩:=carries_of (P:=P) (w:=w) t
   obtain⟨b1,b2⟩:=b
   exact⟨(p.1,b2)::rs,⟨kV_is h.1,rfl,c⟩,.cons ⟨rfl,h.2⟩ q⟩
def tDisp (trs:List (TE×TE)):TE:=fun σ H Q=>∀p,H p=none->tPairs trs σ (upd H p (.dK [])) fun ps H2=>H2 p=some (.dK [])/\∃kvs:List (Key×V),ps=kvs.map (fun kv=>(kV kv.1,kv.2))/\kvs.length<=15/\Q (.ref p) (upd H2 p (.dK (mergeK [] kvs)))
theorem pe_disp {X:Cx}{pos:Pos}{keys:List (Option Expr)}{values:List Expr}{trs:List (TE×TE)}(h:PPs X pos keys values trs)(hall:keys.all (·.isSome)=true)(hl:keys.length=values.length)(h0:keys ≠ [])
  (h15:keys.length<=15):PE X (.Dict keys values pos) (tDisp trs):=by
 intro pins s σ H Q I q
 have hn:=I.hok.fresh (Nat.le_refl s.heap.objs.size)
 have I1:=I.laid (a:=s.heap.objs.size) (o:=.dK []) (h':=s.heap.push {cls:=.type "dict",data:=.dict #[]}) (t':=s.toks) (fun _ _ q=>Heap.get?_push_of_some _ q) (Nat.le_refl _) (dk_empty s.heap I.big)
 refine wpAny_Dict_walk (knd:=mixKind X.prog X.w) hall hl h0 h15 (thn (h pins _ σ _ _ I1 (q _ hn)) fun ws s2 ⟨ps,H2,I2,rel,e,kvs,ep,lk,q2⟩=>?_)
 subst ep
 obtain⟨rs,c,rk⟩:=carries_of (P:=X.prog) (w:=X.w) rel
 obtain⟨z,hd,vs0,r0,dd⟩:=dk_of I2.hok e
 cases r0
 refine⟨rs,c,dd,fun h' dd' hs=>⟨.ref s.heap.objs.size,_,?_,rfl,q2⟩⟩
 have hz:(mergeK [] kvs).length<=sizeLine:=by
  have h1:=length_mergeK kvs []
  rw[List.length_nil]at h1
  rw[sizeLine_eq];omega
 have he:∃q,h'.get? s.heap.objs.size=some q:=let ⟨q,_,_,hq,_⟩:=dd';⟨q,hq⟩
 exact d_write I2 (by rw[e];exact True.intro) hs he (dk_new hz hd (rk.merge .nil) dd')
structure M1 (X:Cx)(o:Expr)(m:Str)(apos:Pos)(e:Expr)(cpos:Pos):Prop where
 base:attributeBase o m X.env (eval o X.env)=eval o X.env
 few:((backTo cpos (starEach [e] X.env)).all (fun x => !x.1)&&(backToKw cpos (keywordEach [] X.env)).all (fun x=>x.1.isSome)
  && decide (([e]:List Expr).length+([]:List Keyword).length+(if ([]:List Keyword).isEmpty then 0 else 1)<30))=true
 line:(apos.endLine==cpos.line)=true
 trees:backTo cpos (starEach [e] X.env)=[(false,eval e X.env)]
structure M2 (X:Cx)(o:Expr)(m:Str)(apos:Pos)(e f:Expr)(cpos:Pos):Prop where
 base:attributeBase o m X.env (eval o X.env)=eval o X.env
 few:((backTo cpos (starEach [e,f] X.env)).all (fun x => !x.1)&&(backToKw cpos (keywordEach [] X.env)).all (fun x=>x.1.isSome)
  && decide (([e,f]:List Expr).length+([]:List Keyword).length+(if ([]:List Keyword).isEmpty then 0 else 1)<30))=true
 line:(apos.endLine==cpos.line)=true
 trees:backTo cpos (starEach [e,f] X.env)=[(false,eval e X.env),(false,eval f X.env)]
def IsD (H:Hp)(a:Addr):Prop:=(∃kvs,Rd H a (.dK kvs)) \/ ∃kvs,Rd H a (.dT kvs)
theorem isD_at {X:Cx}{pins:List (Addr×Obj)}{σ:St}{H:Hp}{s:Shared}{a:Addr}(I:Inv X pins σ H s)(d:IsD H a):
  s.TypeIs (.ref a) "dict" /\ (∀b,Value.ref a=.ref b->∃ob,s.heap.get? b=some ob/\ob.dict=none)/\(a==sysModules)=false:=by
 rcases d with ⟨kvs,e⟩|⟨kvs,e⟩
 ·obtain⟨_,hd,vs,_,dd⟩:=dk_rd I.hok e
  refine⟨dd.typeIs,fun b q=>?_,hd⟩
  cases q
  obtain⟨ob,_,_,h1,h2,_⟩:=dd
  exact⟨ob,h1,h2.2.1⟩
 ·obtain⟨_,hd,xs,_,dd⟩:=dt_rd I.hok e
  refine⟨dd.typeIs,fun b q=>?_,hd⟩
  cases q
  obtain⟨ob,_,_,h1,h2,_⟩:=dd
  exact⟨ob,h1,h2.2.1⟩
section
variable {X:Cx} {pins:List (Addr×Obj)} {σ:St} {H:Hp} {s:Shared} {a:Addr} {y d:V} {u r:Value} {o:Option V} {A:Around} {E:Value->Shared->Prop}
theorem d_get1 {Q:Value->Shared->Prop}(hu:A.units+1<cLine)(I:Inv X pins σ H s)(g:DGet H a y o)(ry:RelV y u)(h:∀w' s',Inv X pins σ H s'->RelV (o.getD .non) w'->Q w' s'):
  wpAny (model X.prog X.w) A (call (.builtin "dict.get") [.ref a,u]) Q E s:=by
 rcases g with ⟨kvs,k,e,ey,l⟩|⟨kvs,k,b,e,ey,eb,l⟩
 ·subst ey
  obtain⟨z,hd,vs,rel,dd⟩:=dk_rd I.hok e
  refine call_meetsIn PySem.F.slot_dict_get dd.typeIs PySem.F.entry_dict_get (PySem.F.args_dict_get_2 _ _) (meets_dict_get (mixKind X.prog X.w) a (kV_is ry) hd) ⟨_,dd.mapOf,h _ _ (I.tok _) ?_⟩
  rw[l]
  exact (rel.val k).getD rfl
 ·subst ey
  cases (show u=Value.ref b from ry)
  obtain⟨z,hd,xs,rel,dd⟩:=dt_rd I.hok e
  refine call_meetsIn PySem.F.slot_dict_get dd.typeIs PySem.F.entry_dict_get (PySem.F.args_dict_get_2 _ _) (meetsH_dict_get (tupleKind (mixKind X.prog X.w)) a b hd) ⟨tupleKind_room_in1 hu,k,xs,key_of I.hok eb,dd,h _ _ (I.tok _) ?_⟩
  rw[l]
  exact (rel.val k).getD rfl
end
def tDGet1 (td ty:TE):TE:=fun σ H Q=>td σ H fun x H1=>∃a,x=.ref a/\IsD H1 a/\ty σ H1 fun y H2=>∃o,DGet H2 a y o/\Q (o.getD .non) H2
section
variable {X:Cx} {o e f:Expr} {apos cpos:Pos} {td ty tx:TE}
theorem pe_dget1 (hu:X.A.units+1<cLine)(ho:PE X o td)(he:PE X e ty)(m:M1 X o "get" apos e cpos):PE X (.Call (.Attribute o "get" apos) [e] [] cpos) (tDGet1 td ty):=by
 intro pins s σ H Q I h
 refine wpAny_Call_method m.base m.few m.line PySem.F.plainAttrs_dict PySem.F.slot_dict_get PySem.F.type_dict_get (thn (ho pins s σ H _ I h) fun u s1 ⟨x,H1,I1,rx,a,ex,d,q1⟩=>?_)
 subst ex
 obtain rfl:u=Value.ref a:=rx
 obtain⟨t1,t2,_⟩:=isD_at I1 d
 refine⟨t1,t2,?_⟩
 rw[m.trees]
 refine Calls.callWith_builtin rfl (Calls.evalArgs_plain (Calls.spliced_cons (thn (he pins s1 σ H1 _ I1 q1) fun iv s2 ⟨y,H2,I2,ry,ov,g,q2⟩=>Calls.spliced_nil ?_)))
 exact d_get1 hu I2 g ry fun w' s3 I3 rw'=>⟨_,H2,I3,rw',q2⟩
end
end L2
namespace L2
open PySem PySem.Spec PyProof.Rows
def clOf (env:Env):List (Str×NameKind)->List (Str×Addr)->List (Str×Addr)
 |[],acc=>acc
 | (n,k)::r,acc=>if (k == .free)=true then clOf env r ((n,(env.cells.lookup n).getD 0)::acc) else clOf env r acc
theorem closure_eq {env:Env}{scope:Scope}(h:∀p∈scope.names,p.2=.free->∃c,env.cells.lookup p.1=some c):closureFor scope env=pure (clOf env scope.names []):=by
 have go:∀(l:List (Str×NameKind)) (acc:List (Str×Addr)),(∀p∈l,p.2=.free->∃c,env.cells.lookup p.1=some c) ->
   (forIn l acc fun (x:Str×NameKind) (cs:List (Str×Addr))=>(if (x.2 == .free)=true then do let c <- cellOf env x.1;pure (ForInStep.yield ((x.1,c)::cs)) else pure (ForInStep.yield cs):Sem (ForInStep (List (Str×Addr)))))=(pure (clOf env l acc):Sem (List (Str×Addr))):=by
  intro l
  induction l with
  |nil=>intro acc _;rfl
  |cons p r ih=>
   intro acc hl
   obtain⟨n,k⟩:=p
   rw[List.forIn_cons]
   by_cases hk:(k == .free)=true
   ·obtain⟨c,hc⟩:=hl (n,k) List.mem_cons_self (by simpa using hk)
    have e1:cellOf env n=pure c:=by unfold cellOf;rw[hc]
    have ih':=ih ((n,c)::acc) fun q hq=>hl q (List.mem_cons_of_mem _ hq)
    show ((if (k == .free)=true then do let c <- cellOf env n;pure (ForInStep.yield ((n,c)::acc)) else pure (ForInStep.yield acc):Sem _) >>= _)=_
    rw[if_pos hk,e1]
    show (forIn r ((n,c)::acc) _:Sem _)=_
    rw[clOf,if_pos hk,hc]
    exact ih'
   ·have ih':=ih acc fun q hq=>hl q (List.mem_cons_of_mem _ hq)
    show ((if (k == .free)=true then do let c <- cellOf env n;pure (ForInStep.yield ((n,c)::acc)) else pure (ForInStep.yield acc):Sem _) >>= _)=_
    rw[if_neg hk]
    show (forIn r acc _:Sem _)=_
    rw[clOf,if_neg hk]
    exact ih'
 have e:=go scope.names [] h
 unfold closureFor
 show (forIn scope.names [] _ >>= fun cs=>pure cs:Sem _)=_
 have e2:(forIn scope.names [] (fun (x:Str×NameKind) (r:List (Str×Addr))=>(match x with
   | (name,kind)=>if (kind == .free)=true then do let c <- cellOf env name;pure (ForInStep.yield ((name,c)::r)) else do pure PUnit.unit;pure (ForInStep.yield r):Sem (ForInStep (List (Str×Addr))))))=(pure (clOf env scope.names []):Sem (List (Str×Addr))):=e
 exact congrArg (fun z=>z >>= fun cs=>pure cs) e2
theorem clOf_mem {env:Env}:∀(l:List (Str×NameKind)) (acc:List (Str×Addr)),(∀p∈l,p.2=.free->∃c,env.cells.lookup p.1=some c)->(∀q∈acc,env.cells.lookup q.1=some q.2)->∀q∈clOf env l acc,env.cells.lookup q.1=some q.2
 |[],_,_,ha,q,hq=>ha q hq
 | (n,k)::r,acc,hl,ha,q,hq=>by
  unfold clOf at hq
  by_cases hk:(k == .free)=true
  ·rw[if_pos hk]at hq
   obtain⟨c,hc⟩:=hl (n,k) List.mem_cons_self (by simpa using hk)
   refine clOf_mem r _ (fun p hp=>hl p (List.mem_cons_of_mem _ hp)) (fun p hp=>?_) q hq
   rcases List.mem_cons.mp hp with rfl|hp
   ·show env.cells.lookup n=some ((env.cells.lookup n).getD 0)
    rw[hc];rfl
   ·exact ha p hp
  ·rw[if_neg hk]at hq
   exact clOf_mem r _ (fun p hp=>hl p (List.mem_cons_of_mem _ hp)) ha q hq
theorem clOf_has {env:Env}:∀(l:List (Str×NameKind)) (acc:List (Str×Addr)) (x:Str),((x,NameKind.free)∈l \/ ∃c,(x,c)∈acc)->∃c,(x,c)∈clOf env l acc
 |[],_,_,h=>by
  rcases h with h|h
  ·cases h
  ·exact h
 | (n,k)::r,acc,x,h=>by
  unfold clOf
  by_cases hk:(k == .free)=true
  ·rw[if_pos hk]
   refine clOf_has r _ x ?_
   rcases h with h|⟨c,h⟩
   ·rcases List.mem_cons.mp h with h|h
    ·cases h
     exact .inr ⟨_,List.mem_cons_self⟩
    ·exact .inl h
   ·exact .inr ⟨c,List.mem_cons_of_mem _ h⟩
  ·rw[if_neg hk]
   refine clOf_has r _ x ?_
   rcases h with h|h
   ·rcases List.mem_cons.mp h with h|h
    ·cases h
     exact absurd rfl hk
    ·exact .inl h
   ·exact .inr h
theorem lookup_some_of_mem {β:Type}:∀{l:List (Str×β)} {x:Str} {c:β},(x,c)∈l->∃c',l.lookup x=some c'
 |[],_,_,h=>by cases h
 | (n,d)::r,x,c,h=>by
  by_cases hx:(x==n)=true
  ·exact⟨d,by rw[List.lookup_cons,hx]⟩
  ·rcases List.mem_cons.mp h with h|h
   ·cases h;exact absurd (beq_self_eq_true _) hx
   ·obtain⟨c',e⟩:=lookup_some_of_mem h
    exact⟨c',by rw[List.lookup_cons];simp only[Bool.not_eq_true]at hx;rw[hx];exact e⟩
def relF (env:Env):Str×NameKind->Str×NameKind:=fun (n,k)=>if (k==NameKind.free&&env.scope.kind == .function&&env.kindOf n==some .cell) then (n,NameKind.cell) else (n,k)
theorem relF_yes {env:Env}{n:Str}{k:NameKind}(h:(k==NameKind.free&&env.scope.kind == .function&&env.kindOf n==some .cell)=true):relF env (n,k)=(n,.cell):=if_pos h
theorem relF_no {env:Env}{n:Str}{k:NameKind}(h:¬ (k==NameKind.free&&env.scope.kind == .function&&env.kindOf n==some .cell)=true):relF env (n,k)=(n,k):=if_neg h
theorem relabel_kind {env:Env}:∀{names:List (Str×NameKind)} {x:Str} {k:NameKind},(∀y∈names,y.2 ≠ .cell) ->
  (names.map (relF env)).lookup x=some k->(k=.cell\/k=.free)->(x,NameKind.free)∈names
 |[],_,_,_,h,_=>by simp at h
 | (n,k')::r,x,k,hc,h,hk=>by
  have ih := @relabel_kind env r x k (fun y hy=>hc y (List.mem_cons_of_mem _ hy))
  rw[List.map_cons]at h
  by_cases hb:(k'==NameKind.free&&env.scope.kind == .function&&env.kindOf n==some .cell)=true
  ·rw[relF_yes hb,List.lookup_cons]at h
   cases hx:x==n with
   |true=>
    have e:x=n:=by simpa using hx
    subst e
    have e2:k'=.free:=by
     simp only[Bool.and_eq_true]at hb
     simpa using hb.1.1
    subst e2
    exact List.mem_cons_self
   |false=>
    rw[hx]at h
    exact List.mem_cons_of_mem _ (ih h hk)
  ·rw[relF_no hb,List.lookup_cons]at h
   cases hx:x==n with
   |true=>
    rw[hx]at h
    have e:x=n:=by simpa using hx
    subst e
    have e2:k'=k:=Option.some.inj h
    subst e2
    rcases hk with rfl|rfl
    ·exact absurd rfl (hc _ List.mem_cons_self)
    ·exact List.mem_cons_self
   |false=>
    rw[hx]at h
    exact List.mem_cons_of_mem _ (ih h hk)
theorem relabel_free {env:Env}:∀{names:List (Str×NameKind)} {x:Str},names.lookup x=some .free ->
  ∃k,(k=NameKind.cell\/k=NameKind.free)/\(names.map (relF env)).lookup x=some k
 |[],_,h=>by simp at h
 | (n,k')::r,x,h=>by
  have ih := @relabel_free env r x
  rw[List.lookup_cons]at h
  rw[List.map_cons]
  cases hx:x==n with
  |true=>
   rw[hx]at h
   have e2:k'=.free:=Option.some.inj h
   subst e2
   by_cases hb:((NameKind.free:NameKind)==NameKind.free&&env.scope.kind == .function&&env.kindOf n==some .cell)=true
   ·exact⟨.cell,.inl rfl,by rw[relF_yes hb,List.lookup_cons,hx]⟩
   ·exact⟨.free,.inr rfl,by rw[relF_no hb,List.lookup_cons,hx]⟩
  |false=>
   rw[hx]at h
   obtain⟨k,hk,e⟩:=ih h
   refine⟨k,hk,?_⟩
   by_cases hb:(k'==NameKind.free&&env.scope.kind == .function&&env.kindOf n==some .cell)=true
   ·rw[relF_yes hb,List.lookup_cons,hx];exact e
   ·rw[relF_no hb,List.lookup_cons,hx];exact e
end L2
namespace L2
open PySem PySem.Spec PyProof.Rows
section
variable {prog:Program} {w:World} {A:Around} {R:Result->Shared->Prop} {s:Shared}
abbrev cpW (prog:Program)(w:World)(A:Around)(R:Result->Shared->Prop)(env:Env){α:Type}(m:Sem α)(Q:α->Shared->Prop):Shared->Prop:=wpAny (model prog w) A m Q (notedBy (model prog w) A env fun e t=>R (.error e) t)
theorem compLoop_gen {elt target iter:Expr}{ifs:List Expr}{scope:Scope}{pos:Pos}{it acc:Value}{env:Env}(I:Nat->Shared->Prop)
  (turn:∀n s,I n s->cpW prog w A R env (pyNext it) (fun r s=>match r with
   |none=>R (.ok .next) s
   |some v=>cpW prog w A R env (letOwnedTupleGo target it v) (fun _=>cpW prog w A R env (assign target env v) fun _=>cpW prog w A R env (forIn ifs true fun c r=>if r=true then do let ok <- isTrue c env (eval c env);pure (ForInStep.yield ok) else pure (ForInStep.yield r)) fun ok s=>
     if ok=true then cpW prog w A R env (eval elt env) (fun x=>cpW prog w A R env (call (.builtin "list.append") [acc,x]) fun _ t=>∃m,m<n/\I m t) s else ∃m,m<n/\I m s) s) s)
  (n:Nat) (h:I n s):codeAny (model prog w) A (.compLoop (.ListComp elt [⟨target,iter,ifs,0⟩] scope pos) 0 it acc env) R s:=by
 have mono:∀{α β:Type} {m:Sem α} {f:α->Sem β} {Q:α->Shared->Prop} {Q':β->Shared->Prop} {s:Shared},cpW prog w A R env m Q s->(∀a t,Q a t->cpW prog w A R env (f a) Q' t)->cpW prog w A R env (m >>= f) Q' s:=fun h k=>wpAny_bind (wpAny_mono h k fun _ _ e=>e)
 refine codeAny_loop rfl I (fun n s hI=>wpAny_noted ?_) n h
 rw[compTurn_list]
 refine wpAny_bind (wpAny_standAt (mono (turn n s hI) fun r s1 h1=>?_))
 cases r with
 |none=>exact wpAny_pure h1
 |some v=>
  refine mono h1 fun _ _ h2=>mono h2 fun _ _ h3=>mono h3 fun ok s4 h4=>?_
  cases ok with
  |false=>exact wpAny_pure ⟨rfl,h4⟩
  |true=>exact wpAny_bind (mono h4 fun _ _ h5=>mono h5 fun _ _ h6=>wpAny_pure (wpAny_pure ⟨rfl,h6⟩))
end
abbrev Cx.blk (X:Cx)(N:List Str)(sc:Scope)(C:Addr)(s₀:Shared)(H₀:Hp)(ex:List Addr):Cx:=
 {X with N:=N,env:=compEnvC sc (clOf X.env sc.names []) C X.env,outer:=X.stack,s₀:=s₀,H₀:=H₀,ex:=ex,fn:=fun _=>false,pn:=[],xe:=fun _ _=>False}
structure BlkSc (X:Cx)(sc:Scope):Prop where
 kind:sc.kind=.function
 nocell:∀y∈sc.names,y.2 ≠ .cell
 loc:∀y∈sc.names,y.2=.local->sc.names.lookup y.1=some .local
 free:∀y∈sc.names,y.2=.free->X.env.kindOf y.1=some .cell\/X.env.kindOf y.1=some .free
abbrev Caps:=List (Str×Option Nat)
def Caps.names (c:Caps):List Str:=c.map (·.1)
def Caps.st (c:Caps)(σ:St):St:=c.map fun p=>p.2.bind fun j=>(σ[j]?).join
def CapsOk (N:List Str)(sc:Scope):Caps->Prop
 |[]=>True
 | (_,none)::r=>CapsOk N sc r
 | (x,some j)::r=>(N[j]?=some x/\sc.names.lookup x=some .free)/\CapsOk N sc r
theorem CapsOk.get {N:List Str}{sc:Scope}:∀{c:Caps} {i:Nat} {x:Str} {j:Nat},CapsOk N sc c->c[i]?=some (x,some j)->N[j]?=some x/\sc.names.lookup x=some .free
 |[],_,_,_,_,h=>by simp at h
 | (y,none)::r,0,x,j,_,h=>by simp at h
 | (y,none)::r,i+1,x,j,ok,h=>CapsOk.get (c:=r) (i:=i) ok (by simpa using h)
 | (y,some k)::r,0,x,j,ok,h=>by
  simp only[List.getElem?_cons_zero,Option.some.injEq,Prod.mk.injEq]at h
  obtain⟨rfl,rfl⟩:=h
  exact ok.1
 | (y,some k)::r,i+1,x,j,ok,h=>CapsOk.get (c:=r) (i:=i) ok.2 (by simpa using h)
section
variable {X:Cx} {pins:List (Addr×Obj)} {σ:St} {H:Hp} {s:Shared} {sc:Scope} {fp:List Addr}
theorem blk_cells (I:Inv X pins σ H s)(S:BlkSc X sc):∀p∈sc.names,p.2=.free->∃c,X.env.cells.lookup p.1=some c:=fun p hp e=>I.ok.has p.1 (S.free p hp e)
theorem blk_lookup (I:Inv X pins σ H s)(S:BlkSc X sc){x:Str}{c:Addr}(h:(clOf X.env sc.names []).lookup x=some c):X.env.cells.lookup x=some c:=
 clOf_mem sc.names [] (blk_cells I S) (fun q hq=>by cases hq) (x,c) (PySem.mem_of_lookup h)
theorem blk_ok {N:List Str}{C:Addr}(I:Inv X pins σ H s)(S:BlkSc X sc)(hC:s.heap.objs.size<=C)(hf:∀b∈fp,FpOk X pins H b)(ho:∀b∈fp,∃o,s.heap.get? b=some o):(X.blk N sc C s H fp).Ok where
 mod:=I.ok.mod
 kind:=S.kind
 glob:=I.ok.glob
 blt:=I.ok.blt
 above:=hC
 inj:=fun x y c h1 h2=>I.ok.inj x y c (blk_lookup I S h1) (blk_lookup I S h2)
 has:=fun x hx=>by
  have hx':(x,NameKind.free)∈sc.names:=by
   rcases hx with hx|hx
   ·exact relabel_kind (env:=X.env) S.nocell hx (.inl rfl)
   ·exact relabel_kind (env:=X.env) S.nocell hx (.inr rfl)
  obtain⟨c,hc⟩:=clOf_has (env:=X.env) sc.names [] x (.inl hx')
  exact lookup_some_of_mem hc
 cab:=fun x c h=>absurd (show false=true from h) Bool.false_ne_true
 hd:=I.ok.hd
 frames:=I.ok.frames
 stk:=.inl rfl
 exf:=fun b hb=>by
  obtain⟨o,ho⟩:=ho b hb
  refine⟨Nat.ne_of_lt (Nat.lt_of_lt_of_le (Heap.lt_size ho) hC),fun x c h=>(hf b hb).2.2.2.2.1 x c (blk_lookup I S h)⟩
 bs:=I.bs
 bsz:=Nat.le_trans I.ok.bsz I.sz
 noex:=fun b o e hb=>by
  rcases (hf b hb).2.2.2.1 with z|z
  ·exact I.ok.noex b o e z
  ·exact absurd (Nat.lt_of_lt_of_le (Heap.lt_size (I.ok.bs b o e).1) z) (Nat.lt_irrefl _)
 exfs:=fun b hb z=>by
  rcases List.mem_cons.mp (I.stkSub b z) with e|e
  ·exact (hf b hb).2.1 e
  ·exact (hf b hb).2.2.1 e
 funs:=I.stack
 frf:=I.stkFree
theorem blk_start {c:Caps}{C:Addr}{s4:Shared}{m:Str->Option Value}(I:Inv X pins σ H s)(S:BlkSc X sc)(hc:CapsOk X.N sc c)(hC:s.heap.objs.size<=C)(hf:∀b∈fp,FpOk X pins H b)(ho:∀b∈fp,∃o,s.heap.get? b=some o)
  (hos:s4.os=s.os) (hb:s4.gens=s.gens) (hk:∀b o,s.heap.get? b=some o->s4.heap.get? b=some o) (hn:s4.heap.Ns C m):Inv (X.blk c.names sc C s H fp) [] (c.st σ) H s4 where
 ok:=blk_ok I S hC hf ho
 os:=hos
 bare:=by rw[hb];exact I.bare
 base:=Un.kept hk
 loc:=by
  refine⟨m,hn,fun i x v h1 h2 hv=>?_⟩
  have h1':(c.map (·.1))[i]?=some x:=h1
  have h2':(c.map fun p=>p.2.bind fun j=>(σ[j]?).join)[i]?=some (some v):=h2
  rw[List.getElem?_map]at h1' h2'
  cases e:c[i]? with
  |none=>rw[e]at h1';cases h1'
  |some p=>
   obtain⟨y,oj⟩:=p
   rw[e]at h1' h2'
   have e1:y=x:=Option.some.inj h1'
   subst e1
   have e2:(oj.bind fun j=>(σ[j]?).join)=some v:=Option.some.inj h2'
   cases oj with
   |none=>cases e2
   |some j=>
    have e3:(σ[j]?).join=some v:=e2
    have e4:σ[j]?=some (some v):=by
     cases q:σ[j]? with
     |none=>rw[q]at e3;cases e3
     |some z=>rw[q]at e3;exact congrArg some e3
    obtain⟨k1,k2⟩:=CapsOk.get hc e
    have k3:X.env.kindOf y=some .cell\/X.env.kindOf y=some .free:=S.free (y,.free) (PySem.mem_of_lookup k2) rfl
    have vis:Vis X.env.scope y:=by
     rcases k3 with k|k
     ·exact .inr (.inl k)
     ·exact .inr (.inr k)
    obtain⟨mX,hnX,hl⟩:=I.loc
    obtain⟨u,r,l⟩:=hl j y v k1 e4 vis
    refine⟨u,r,?_⟩
    rcases l with ⟨k,_⟩|⟨_,ca,hca,z⟩
    ·rcases k3 with k' | k'<;>(rw[k]at k';cases k')
    ·obtain⟨kd,hkd,ek⟩:=relabel_free (env:=X.env) k2
     have hk2:(compEnvC sc (clOf X.env sc.names []) C X.env).kindOf y=some kd:=ek
     obtain⟨c',hc'⟩:=clOf_has (env:=X.env) sc.names [] y (.inl (PySem.mem_of_lookup k2))
     obtain⟨c2,hc2⟩:=lookup_some_of_mem hc'
     have e5:=blk_lookup I S hc2
     rw[hca]at e5
     have e6:ca=c2:=Option.some.inj e5
     subst e6
     refine .inr ⟨?_,ca,hc2,?_⟩
     ·rcases hkd with rfl|rfl
      ·exact .inl hk2
      ·exact .inr hk2
     ·obtain⟨oc,hoc,hd⟩:=z
      exact⟨oc,hk _ _ hoc,hd⟩
 cell:=fun x ca h=>by
  obtain⟨v,oc,hoc,hd⟩:=I.cell x ca (blk_lookup I S h)
  exact⟨v,oc,hk _ _ hoc,hd⟩
 free:=I.hok.fresh hC
 freeC:=fun x ca h=>I.freeC x ca (blk_lookup I S h)
 pin:=fun p hp=>absurd (show p∈([]:List (Addr×Obj)) from hp) (by simp)
 hok:=I.hok.kept hk
 len:=by show (c.map _).length=(c.map _).length;rw[List.length_map,List.length_map]
theorem HOk.track {P:Program}{w:World}{H:Hp}{h:Heap}{a:Addr}{o:HO}(x:HOk P w H h)(hn:H a=none)(new:ObjOk P w (upd H a o) h a o):HOk P w (upd H a o) h:=fun b u e=>by
 by_cases hb:b=a
 ·subst hb;rw[upd_same]at e;cases e;exact new
 ·rw[upd_ne hb]at e
  exact (x b u e).stay (fun c v _ q=>q) (fun c q=>by rw[upd_ne (ne_of_none q hn)];exact q) fun c xs q=>by rw[upd_ne (ne_of_none q hn)];exact q
theorem Un.track {fs ex:List Addr}{H H':Hp}{h h':Heap}{a:Addr}{o:HO}(u:Un fs ex H H' h h')(ha:h.objs.size<=a)(hn:H' a=none):Un fs ex H (upd H' a o) h h' where
 keep:=u.keep
 slot:=u.slot
 free:=fun b ob q n hx=>by rw[upd_ne (Nat.ne_of_lt (Nat.lt_of_lt_of_le (Heap.lt_size q) ha))];exact u.free b ob q n hx
 there:=u.there
 tups:=fun b xs q=>by rw[upd_ne (ne_of_none (u.tups b xs q) hn)];exact u.tups b xs q
 frzs:=fun b ob xs q=>by rw[upd_ne (ne_of_none (u.frzs b ob xs q) hn)];exact u.frzs b ob xs q
 tbls:=fun b ps q=>by
  obtain⟨more,e⟩:=u.tbls b ps q
  exact⟨more,by rw[upd_ne (ne_of_none e hn)];exact e⟩
theorem blk_end {c:Caps}{C D:Addr}{s':Shared}{σ':St}{H':Hp}{o:HO}(I:Inv X pins σ H s)(J:Inv (X.blk c.names sc C s H fp) [] σ' H' s')(hf:∀b∈fp,FpOk X pins H b)(hD:s.heap.objs.size<=D)(hn:H' D=none)
  (new:ObjOk X.prog X.w (upd H' D o) s'.heap D o):Inv X pins σ (upd H' D o) s':=by
 have u:Un (frs X.stack) fp H H' s.heap s'.heap:=J.base
 exact I.call' J.os (u.track hD hn) (J.hok.track hn new) J.bare fun b hb=>⟨(hf b hb).2.2.2.1,(hf b hb).2.1,(hf b hb).2.2.2.2.1,(hf b hb).2.2.2.2.2⟩
end
def PF (X:Cx)(ifs:List Expr)(t:TT):Prop:=
 ∀(pins:List (Addr×Obj)) (s:Shared) (σ:St) (H:Hp) (Q:Bool->Hp->Prop),Inv X pins σ H s->t σ H Q ->
  wpAny (model X.prog X.w) X.A (forIn ifs true fun c r=>if r=true then do let ok <- isTrue c X.env (eval c X.env);pure (ForInStep.yield ok) else pure (ForInStep.yield r)) (TP X pins σ Q) X.xe s
def tTrue:TT:=fun _ H Q=>Q true H
theorem pf_nil {X:Cx}:PF X [] tTrue:=fun _ _ _ H _ I h=>wpAny_tests_nil ⟨H,I,h⟩
theorem pf_one {X:Cx}{c:Expr}{t:TT}(h:PT X c t):PF X [c] t:=fun pins s σ H Q I hw=>wpAny_tests_one (h pins s σ H Q I hw)
def tComp (wi:TI)(cp:Caps)(g:TG)(tc:TT)(te:TE):TE:=fun σ H Q=>wi σ H fun J H1=>∃W:Nat->Nat->List V->St->Hp->Prop,(∃m,W 0 m [] (cp.st σ) H1)/\∀i m ys σ' H',W i m ys σ' H' ->
 ys.length<sizeLine/\((J.stop i H'/\∀D,H' D=none->Q (.ref D) (upd H' D (.lst ys)))\/(J.go i H'/\∃N:List V->St->Hp->Prop,(∀zs σ2 H2,N zs σ2 H2->∃m',m'<m/\W (i+1) m' zs σ2 H2)/\∀x H2,J.yld i H' x H2->g x σ' H2 fun σ2 H3=>tc σ2 H3 fun b H4=>
  if b=true then te σ2 H4 fun v H5=>N (ys++[v]) σ2 H5 else N ys σ2 H4))
section
variable {X:Cx} {tg iter elt:Expr} {ifs:List Expr} {sc:Scope} {pos:Pos} {wi:TI} {cp:Caps} {g:TG} {tc:TT} {te:TE}
theorem comp_core (hc:X.calm=true)(S:BlkSc X sc)(hcp:CapsOk X.N sc cp)
  (hg:∀C s₀ H₀ ex,PG (X.blk cp.names sc C s₀ H₀ ex) tg g) (hf:∀C s₀ H₀ ex,PF (X.blk cp.names sc C s₀ H₀ ex) ifs tc) (he:∀C s₀ H₀ ex,PE (X.blk cp.names sc C s₀ H₀ ex) elt te)
  {pins:List (Addr×Obj)} {σ:St} {H:Hp} {s:Shared} {J:It} {it:Addr} {fp:List Addr} {tn:Nat->Heap->Prop} {Q:VK} {RR:Value->Addr->Result->Shared->Prop} {E:Value->Shared->Prop}
  (I:Inv X pins σ H s) (T:Turn X.prog X.w X.K tg J fp it tn) (st:tn 0 s.heap) (fpo:∀b∈fp,FpOk X pins H b)
  (hw:∃W:Nat->Nat->List V->St->Hp->Prop,(∃m,W 0 m [] (cp.st σ) H)/\∀i m ys σ' H',W i m ys σ' H' ->
   ys.length<sizeLine/\((J.stop i H'/\∀D,H' D=none->Q (.ref D) (upd H' D (.lst ys)))\/(J.go i H'/\∃N:List V->St->Hp->Prop,(∀zs σ2 H2,N zs σ2 H2->∃m',m'<m/\W (i+1) m' zs σ2 H2)/\∀x H2,J.yld i H' x H2->g x σ' H2 fun σ2 H3=>tc σ2 H3 fun b H4=>
    if b=true then te σ2 H4 fun v H5=>N (ys++[v]) σ2 H5 else N ys σ2 H4)))
  (hR:∀D C s' H' (m:Str->Option Value),Inv X pins σ H' s'->Q (.ref D) H'->s'.heap.Ns C m->H' C=none->C≠X.env.locals->X.s₀.heap.objs.size<=C->(∀x c,X.env.cells.lookup x=some c->c≠C)->(∀p∈X.pn++pins,p.1≠C)->RR (.ref D) C (.ok .next) s'):
  wpAny (model X.prog X.w) X.A (newList []) (fun acc s₃=>wpAny (model X.prog X.w) X.A (newFunctionEnv sc X.env.globals (clOf X.env sc.names []) [] X.env.qual none .none (some X.env)) (fun cenv s₄=>
   codeAny (model X.prog X.w) X.A (.compStart (.ListComp elt [⟨tg,iter,ifs,0⟩] sc pos) 0 (.ref it) acc {cenv with scope:=relabel sc X.env}) (RR acc cenv.locals) s₄) E s₃) E s:=by
 obtain⟨W,⟨m0,w0⟩,turn⟩:=hw
 refine wpAny_newObj_type (wpAny_newFunctionEnv S.nocell (by intro y hy;simp at hy) (fun h₁ hns₁ hsb₁=>?_) S.kind)
 dsimp only at hns₁ hsb₁ ⊢
 generalize hH2:s.heap.push {cls:=.type "list",dict:=none,data:=.seq ([]:List Value).toArray}=H2 at hns₁ hsb₁ ⊢
 have hC:H2.objs.size=s.heap.objs.size+1:=by rw[<-hH2,Heap.size_push]
 have hDC:s.heap.objs.size≠H2.objs.size:=by rw[hC];exact Nat.ne_of_lt (Nat.lt_succ_self _)
 have hCle:s.heap.objs.size<=H2.objs.size:=by rw[hC];exact Nat.le_succ _
 have below:∀b,b<s.heap.objs.size->b≠H2.objs.size:=fun b hb=>by rw[hC];exact Nat.ne_of_lt (Nat.lt_succ_of_lt hb)
 have old:∀b o,s.heap.get? b=some o->h₁.get? b=some o:=fun b o e=>hsb₁.extBut b o (below b (Heap.lt_size e)) (Heap.get?_push_of_some _ (hH2 ▸ Heap.get?_push_of_some _ e))
 have hacc:h₁.get? s.heap.objs.size=some {cls:=.type "list",data:=.seq ([]:List Value).toArray 0}:=hsb₁.extBut _ _ hDC (Heap.get?_push_of_some _ (hH2 ▸ Heap.get?_push_size _ rfl))
 have hst₁:tn 0 h₁:=T.keep 0 _ _ st fun b _ o e=>old b o e
 have hobj:∀b∈fp,∃o,s.heap.get? b=some o:=fun b hb=>let ⟨o,e,_⟩:=T.obj 0 _ st b hb;⟨o,e⟩
 have J0:Inv (X.blk cp.names sc H2.objs.size s H fp) [] (cp.st σ) H {s with heap:=h₁,toks:=s.toks+([]:List (Str×Value)).length}:=blk_start I S hcp hCle fpo hobj rfl rfl old hns₁
 have nfs:∀b,s.heap.objs.size<=b->b∉frs X.stack:=fun b hb z=>by
  rcases List.mem_cons.mp (I.stkSub b z) with e|e
  ·exact absurd (Nat.lt_of_lt_of_le I.lt (by rw[<-e];exact hb)) (Nat.lt_irrefl _)
  ·exact I.nofs hb e
 have ncell:∀b,s.heap.objs.size<=b->∀x c,X.env.cells.lookup x=some c->c≠b:=fun b hb x c e z=>by
  obtain⟨v,q⟩:=I.cell x c e
  exact absurd (Nat.lt_of_lt_of_le q.lt (by rw[z];exact hb)) (Nat.lt_irrefl _)
 have fpb:∀{pins':List (Addr×Obj)} {H':Hp},(∀b∈fp,H' b=none)->(∀p∈pins',p.1∉fp)->∀b∈fp,FpOk (X.blk cp.names sc H2.objs.size s H fp) pins' H' b:=fun {pins' H'} hn hp b hb=>by
  obtain⟨o,e⟩:=hobj b hb
  refine⟨hn b hb,below b (Heap.lt_size e),fun z=>?_,.inl hb,fun x c h=>(fpo b hb).2.2.2.2.1 x c (blk_lookup I S h),fun p hp' z=>?_⟩
  ·rcases List.mem_cons.mp (I.stkSub b z) with e|e
   ·exact (fpo b hb).2.1 e
   ·exact (fpo b hb).2.2.1 e
  ·have hp'':p∈pins':=by simpa using hp'
   exact hp p hp'' (by rw[z];exact hb)
 have loop:∀s₃:Shared,s₃={s with heap:=h₁,toks:=s.toks+([]:List (Str×Value)).length} ->
   codeAny (model X.prog X.w) X.A (.compLoop (.ListComp elt [⟨tg,iter,ifs,0⟩] sc pos) 0 (.ref it) (.ref s.heap.objs.size) (compEnvC sc (clOf X.env sc.names []) H2.objs.size X.env))
    (RR (.ref s.heap.objs.size) H2.objs.size) s₃:=by
  rintro s₃ rfl
  refine compLoop_gen (fun n s'=>∃i σ' H' ys its k,Inv (X.blk cp.names sc H2.objs.size s H fp) [] σ' H' s'/\tn i s'.heap/\(∀b∈fp,H' b=none)/\H' s.heap.objs.size=none /\
   s'.heap.get? s.heap.objs.size=some {cls:=.type "list",data:=.seq its.toArray k}/\Vals ys its/\W i n ys σ' H') ?_ m0
   ⟨0,_,H,[],[],0,J0,hst₁,fun b hb=>(fpo b hb).1,I.hok.fresh (Nat.le_refl _),hacc,.nil,w0⟩
  rintro n s3 ⟨i,σ3,H3,ys,its,k,I3,st3,fr3,hD3,e3,rv,w3⟩
  obtain⟨hz,tr⟩:=turn i n ys σ3 H3 w3
  have hlen:=rv.length
  -- the accumulator stands still while anything else runs
  have dpin:∀p ∈ [(s.heap.objs.size,({cls:=.type "list",data:=.seq its.toArray k}:Obj))],p.1∉fp:=fun p hp z=>by
   have e:p=_:=List.mem_singleton.mp hp
   subst e
   obtain⟨o,e⟩:=hobj _ z
   exact absurd (Heap.lt_size e) (Nat.lt_irrefl _)
  have I3':Inv (X.blk cp.names sc H2.objs.size s H fp) [(s.heap.objs.size,({cls:=.type "list",data:=.seq its.toArray k}:Obj))] σ3 H3 s3:=I3.pins_of fun p hp=>by
   have e:p=_:=List.mem_singleton.mp hp
   subst e
   exact⟨e3,hD3,hDC,nfs _ (Nat.le_refl _),fun v z=>by cases z⟩
  have stat:∀b∈fp,FpOk (X.blk cp.names sc H2.objs.size s H fp) [(s.heap.objs.size,({cls:=.type "list",data:=.seq its.toArray k}:Obj))] H3 b:=fpb fr3 dpin
  rcases tr with ⟨stop,qn⟩|⟨go,N,hN,step⟩
  ·refine thn (T.done (X.blk cp.names sc H2.objs.size s H fp) rfl rfl rfl hc i _ s3 σ3 H3 _ I3' stat st3 stop) fun r s4 ⟨hr,I4⟩=>?_
   subst hr
   obtain⟨e4,n4,_⟩:=I4.pin (s.heap.objs.size,({cls:=.type "list",data:=.seq its.toArray k}:Obj)) (by simp)
   have new:ObjOk X.prog X.w (upd H3 s.heap.objs.size (.lst ys)) s4.heap s.heap.objs.size (.lst ys):=⟨Nat.le_of_lt hz,its,k,rv,e4⟩
   obtain⟨mC,hnC,_⟩:=I4.loc
   have I4':Inv (X.blk cp.names sc H2.objs.size s H fp) [] σ3 H3 s4:=I4.pins_of fun p hp=>by cases hp
   have I5:=blk_end I I4' fpo (Nat.le_refl _) n4 new
   refine hR _ _ s4 _ mC I5 (qn _ n4) hnC ?_ (Nat.ne_of_gt (Nat.lt_of_lt_of_le I.lt hCle)) (Nat.le_trans I.sz hCle) (ncell _ hCle) fun p hp z=>?_
   ·rw[upd_ne (Ne.symm hDC)];exact I4.free
   ·exact absurd (Nat.lt_of_lt_of_le (Heap.lt_size (I.pin p hp).1) (by rw[z];exact hCle)) (Nat.lt_irrefl _)
  ·refine thn (T.item (X.blk cp.names sc H2.objs.size s H fp) rfl rfl rfl hc i _ s3 σ3 H3 _ I3' stat st3 go) fun r s4 ⟨u,hr,h4⟩=>?_
   subst hr
   refine thn h4 fun _ s5 ⟨x,H5,I5,r5,y5,st5,fr5⟩=>?_
   have I5':=I5.pinned (fpb fr5 dpin) (T.obj _ _ st5)
   have fin:∀{σ7:St} {H7:Hp} {s7:Shared},Inv (X.blk cp.names sc H2.objs.size s H fp) ([(s.heap.objs.size,({cls:=.type "list",data:=.seq its.toArray k}:Obj))]++pinsAt fp s5.heap) σ7 H7 s7 ->
     s7.heap.get? s.heap.objs.size=some {cls:=.type "list",data:=.seq its.toArray k}/\H7 s.heap.objs.size=none/\(∀b∈fp,H7 b=none)/\∀b∈fp,∀o,s5.heap.get? b=some o->s7.heap.get? b=some o:=fun {σ7 H7 s7} I7=>by
    obtain⟨e7,n7,_⟩:=I7.pin (s.heap.objs.size,({cls:=.type "list",data:=.seq its.toArray k}:Obj)) (by simp)
    refine⟨e7,n7,fun b hb=>?_,fun b hb o e=>?_⟩
    ·obtain⟨o,e,_⟩:=T.obj _ _ st5 b hb
     exact (I7.pin (b,o) (List.mem_append_right _ (List.mem_append_right _ (mem_pinsAt hb e)))).2.1
    ·exact (I7.pin (b,o) (List.mem_append_right _ (List.mem_append_right _ (mem_pinsAt hb e)))).1
   refine wpAny_mono (hg _ _ _ _ _ s5 σ3 H5 x u _ I5' r5 (step x H5 y5)) (fun _ s6 ⟨σ6,H6,I6,q6⟩=>?_) fun _ _ z=>False.elim z
   refine wpAny_mono (hf _ _ _ _ _ s6 σ6 H6 _ I6 q6) (fun ok s7 ⟨H7,I7,q7⟩=>?_) fun _ _ z=>False.elim z
   cases ok with
   |false=>
    rw[if_neg Bool.false_ne_true]
    rw[if_neg Bool.false_ne_true]at q7
    obtain⟨m',hm,w7⟩:=hN _ _ _ q7
    obtain⟨e7,n7,fr7,k7⟩:=fin I7
    exact⟨m',hm,i+1,σ6,H7,ys,its,k,I7.pins_of (fun p hp=>by cases hp),T.keep _ _ _ st5 k7,fr7,n7,e7,rv,w7⟩
   |true=>
    rw[if_pos rfl]
    rw[if_pos rfl]at q7
    refine wpAny_mono (he _ _ _ _ _ s7 σ6 H7 _ I7 q7) (fun v s8 ⟨y,H8,I8,r8,q8⟩=>?_) fun _ _ z=>False.elim z
    obtain⟨m',hm,w8⟩:=hN _ _ _ q8
    obtain⟨e8,n8,fr8,k8⟩:=fin I8
    refine call_meets F.slot_list_append ⟨_,e8,rfl⟩ F.entry_list_append (F.args_list_append_2 _ _) (PySem.list_append s.heap.objs.size its.toArray k v (by rw[List.size_toArray];omega)) ⟨e8,?_⟩
    obtain⟨k',q⟩:∃k',(s8.heap.update s.heap.objs.size (Obj.mapSeq fun x=>x.push v)).get? s.heap.objs.size=some {cls:=.type "list",data:=.seq (its++[v]).toArray k' }:=⟨_,by
     have q:=PySem.IsL.update e8 fun x=>x.push v
     have e:(its++[v]).toArray=its.toArray.push v:=by simp
     rw[e]
     exact q⟩
    have I8':Inv (X.blk cp.names sc H2.objs.size s H fp) [] σ6 H8 s8:=I8.pins_of fun p hp=>by cases hp
    have I9:Inv (X.blk cp.names sc H2.objs.size s H fp) [] σ6 H8 {s8 with heap:=s8.heap.update s.heap.objs.size (Obj.mapSeq fun x=>x.push v),toks:=s8.toks}:=
     I8'.turned (it:=s.heap.objs.size) (fun b o hb e=>(Heap.get?_update_other _ _ (Ne.symm hb)).trans e) n8 hDC (.inr (Nat.le_refl _)) (fun x c e=>ncell _ (Nat.le_refl _) x c (blk_lookup I S e)) (fun p hp=>by cases hp)
    refine⟨m',hm,i+1,σ6,H8,ys++[y],its++[v],k',I9,T.keep (i+1) s5.heap _ st5 (fun b hb o e=>?_),fr8,n8,q,rv.append (.cons r8 .nil),w8⟩
    ·refine (Heap.get?_update_other _ _ ?_).trans (k8 b hb o e)
     intro z
     obtain⟨ob,eb⟩:=hobj b hb
     exact absurd (Heap.lt_size eb) (by rw[<-z];exact Nat.lt_irrefl _)
 exact codeAny_compStart_list (loop _ rfl) (T.self _ 0 _ _ _ hst₁ (loop _ rfl))
theorem pe_comp (hc:X.calm=true)(S:BlkSc X sc)(hcp:CapsOk X.N sc cp)(hi:PI X tg iter wi)
  (hg:∀C s₀ H₀ ex,PG (X.blk cp.names sc C s₀ H₀ ex) tg g) (hf:∀C s₀ H₀ ex,PF (X.blk cp.names sc C s₀ H₀ ex) ifs tc) (he:∀C s₀ H₀ ex,PE (X.blk cp.names sc C s₀ H₀ ex) elt te)
  (hs:∀x,foldedSetIterable iter X.env x=pure x:=by intro _;rfl):PE X (.ListComp elt [⟨tg,iter,ifs,0⟩] sc pos) (tComp wi cp g tc te):=by
 intro pins s σ H Q I h
 rw[eval_ListComp]
 refine wpAny_comprehension_free (use:=none) rfl hs (closure_eq (blk_cells I S)) S.kind S.loc (thn (hi pins s σ H _ I h) fun xv s₁ h₁=>thn h₁ fun itv s₂ h₂=>?_)
 obtain⟨it,fp,tn,J,H2,e,I2,T,st2,f2,hw⟩:=h₂
 subst e
 refine comp_core (RR:=fun acc C=>compPost (model X.prog X.w) X.A X.xe none (EP X pins σ Q) acc C) hc S hcp hg hf he I2 T st2 f2 hw ?_
 intro D C s' H' m I' q hn hC hL hz hcl hp
 exact⟨m,hn,fun h' hs'=>⟨.ref D,H',I'.turned (t':=s'.toks) (it:=C) (fun b o hb e=>hs'.extBut b o hb e) hC hL (.inr hz) hcl hp,rfl,q⟩⟩
theorem ps_setC {i:Nat}{x:Str}{px spos:Pos}(hN:X.N.Nodup)(hi:X.N[i]?=some x)(hx:X.env.scope.names.lookup x=some .local)(hc:X.calm=true)(S:BlkSc X sc)(hcp:CapsOk X.N sc cp)(hit:PI X tg iter wi)
  (hg:∀C s₀ H₀ ex,PG (X.blk cp.names sc C s₀ H₀ ex) tg g) (hf:∀C s₀ H₀ ex,PF (X.blk cp.names sc C s₀ H₀ ex) ifs tc) (he:∀C s₀ H₀ ex,PE (X.blk cp.names sc C s₀ H₀ ex) elt te)
  (hsw:swapsWith (.ListComp elt [⟨tg,iter,ifs,0⟩] sc pos) (some (.Name x px)) spos.line X.env=pure true:=by rfl)
  (hs:∀x,foldedSetIterable iter X.env x=pure x:=by intro _;rfl):PS X (.Assign [.Name x px] (.ListComp elt [⟨tg,iter,ifs,0⟩] sc pos) spos) (tAsg (tComp wi cp g tc te) (gName i)):=by
 intro pins s σ H D I h
 rw[exec_Assign_Name_used _ _ _ _ hsw]
 refine wpAny_bind (wpAny_standAt (wpAny_bind ?_))
 show wpAny _ X.A (do let _ <- comprehension (.ListComp elt [⟨tg,iter,ifs,0⟩] sc pos) sc X.env _ (newList []) false (eval iter X.env) (some (assign (.Name x px) X.env))) _ _ s
 refine wpAny_bind (wpAny_mono (wpAny_comprehension_free (use:=some (assign (.Name x px) X.env)) (Q:=fun _ s'=>SP X pins D .next s') rfl hs (closure_eq (blk_cells I S)) S.kind S.loc
  (thn (hit pins s σ H _ I h) fun xv s₁ h₁=>thn h₁ fun itv s₂ h₂=>?_)) (fun _ s' hq=>wpAny_pure (wpAny_pure hq)) fun _ _ e=>e)
 obtain⟨it,fp,tn,J,H2,e,I2,T,st2,f2,hw⟩:=h₂
 subst e
 refine comp_core (RR:=fun acc C=>compPost (model X.prog X.w) X.A X.xe (some (assign (.Name x px) X.env)) (fun _ s'=>SP X pins D .next s') acc C) (Q:=fun v H1=>gName i v σ H1 D.nx) hc S hcp hg hf he I2 T st2 f2 hw ?_
 intro Dl C s' H' m I' q hn hC hL hz hcl hp
 show wpAny _ X.A (assign (.Name x px) X.env (.ref Dl)) _ _ _
 refine wpAny_assign_Name (store_ok2 I' hN hi (.inl hx) (v:=.ref Dl) rfl (fun s'' I'' ⟨a,hsb,ha⟩=>?_) (.inr hx))
 have hne:C≠a:=by
  rcases ha with rfl|ha
  ·exact hL
  ·exact fun z=>hcl _ _ ha z.symm
 refine⟨m,hn.sameBut hsb hne,fun h' hs'=>⟨_,H',I''.turned (t':=s''.toks) (it:=C) (fun b o hb e=>hs'.extBut b o hb e) hC hL (.inr hz) hcl hp,q⟩⟩
end
theorem comp_list {K:PySem.W.Frag}{a:Addr}{xs:List V}{g:TG}{tc:TT}{te:TE}{Q:VK}{σ:St}{H:Hp}(Pv:Nat->List V->St->Hp->Prop)(h0:Pv 0 [] σ H)(hz:xs.length<sizeLine)
  (hl:∀i ys σ H,i<=xs.length->Pv i ys σ H->SqL K H a xs/\ys.length<=i)
  (hs:∀i x ys σ H,xs[i]?=some x->Pv i ys σ H->g x σ H fun σ2 H2=>tc σ2 H2 fun b H3=>if b=true then te σ2 H3 fun v H4=>Pv (i+1) (ys++[v]) σ2 H4 else Pv (i+1) ys σ2 H3)
  (hd:∀ys σ H,Pv xs.length ys σ H->∀D,H D=none->Q (.ref D) (upd H D (.lst ys))):
  ∃W:Nat->Nat->List V->St->Hp->Prop,(∃m,W 0 m [] σ H)/\∀i m ys σ' H',W i m ys σ' H' ->
   ys.length<sizeLine/\(((Itl K a).stop i H'/\∀D,H' D=none->Q (.ref D) (upd H' D (.lst ys)))\/((Itl K a).go i H'/\∃N:List V->St->Hp->Prop,(∀zs σ2 H2,N zs σ2 H2->∃m',m'<m/\W (i+1) m' zs σ2 H2)/\∀x H2,(Itl K a).yld i H' x H2->g x σ' H2 fun σ2 H3=>tc σ2 H3 fun b H4=>
    if b=true then te σ2 H4 fun v H5=>N (ys++[v]) σ2 H5 else N ys σ2 H4)):=by
 refine⟨fun i m ys σ H=>m=xs.length-i/\i<=xs.length/\Pv i ys σ H,⟨xs.length,by simp,Nat.zero_le _,h0⟩,?_⟩
 rintro i m ys σ H ⟨rfl,hi,p⟩
 obtain⟨q,ly⟩:=hl i ys σ H hi p
 refine⟨by omega,?_⟩
 by_cases hlt:i<xs.length
 ·refine .inr ⟨⟨xs,xs[i],q,by simp[hlt]⟩,Pv (i+1),fun zs σ' H' p'=>⟨xs.length-(i+1),by omega,rfl,hlt,p'⟩,fun x H' y=>?_⟩
  obtain⟨e,y⟩:=y
  subst e
  exact hs i x ys σ _ (y xs q) p
 ·have e:i=xs.length:=by omega
  subst e
  exact .inl ⟨⟨xs,q,Nat.le_refl _⟩,hd ys σ H p⟩
theorem comp_tup {K:PySem.W.Frag}{a:Addr}{xs:List V}{g:TG}{tc:TT}{te:TE}{Q:VK}{σ:St}{H:Hp}(Pv:Nat->List V->St->Hp->Prop)(h0:Pv 0 [] σ H)(hz:xs.length<sizeLine)
  (hl:∀i ys σ H,i<=xs.length->Pv i ys σ H->SqT K H a xs/\ys.length<=i)
  (hs:∀i x ys σ H,xs[i]?=some x->Pv i ys σ H->g x σ H fun σ2 H2=>tc σ2 H2 fun b H3=>if b=true then te σ2 H3 fun v H4=>Pv (i+1) (ys++[v]) σ2 H4 else Pv (i+1) ys σ2 H3)
  (hd:∀ys σ H,Pv xs.length ys σ H->∀D,H D=none->Q (.ref D) (upd H D (.lst ys))):
  ∃W:Nat->Nat->List V->St->Hp->Prop,(∃m,W 0 m [] σ H)/\∀i m ys σ' H',W i m ys σ' H' ->
   ys.length<sizeLine/\(((Itt K a).stop i H'/\∀D,H' D=none->Q (.ref D) (upd H' D (.lst ys)))\/((Itt K a).go i H'/\∃N:List V->St->Hp->Prop,(∀zs σ2 H2,N zs σ2 H2->∃m',m'<m/\W (i+1) m' zs σ2 H2)/\∀x H2,(Itt K a).yld i H' x H2->g x σ' H2 fun σ2 H3=>tc σ2 H3 fun b H4=>
    if b=true then te σ2 H4 fun v H5=>N (ys++[v]) σ2 H5 else N ys σ2 H4)):=by
 refine⟨fun i m ys σ H=>m=xs.length-i/\i<=xs.length/\Pv i ys σ H,⟨xs.length,by simp,Nat.zero_le _,h0⟩,?_⟩
 rintro i m ys σ H ⟨rfl,hi,p⟩
 obtain⟨q,ly⟩:=hl i ys σ H hi p
 refine⟨by omega,?_⟩
 by_cases hlt:i<xs.length
 ·refine .inr ⟨⟨xs,xs[i],q,by simp[hlt]⟩,Pv (i+1),fun zs σ' H' p'=>⟨xs.length-(i+1),by omega,rfl,hlt,p'⟩,fun x H' y=>?_⟩
  obtain⟨e,y⟩:=y
  subst e
  exact hs i x ys σ _ (y xs q) p
 ·have e:i=xs.length:=by omega
  subst e
  exact .inl ⟨⟨xs,q,Nat.le_refl _⟩,hd ys σ H p⟩
theorem comp_range {lo:Int}{n:Nat}{g:TG}{tc:TT}{te:TE}{Q:VK}{σ:St}{H:Hp}(Pv:Nat->List V->St->Hp->Prop)(h0:Pv 0 [] σ H)(hz:n<sizeLine)
  (hl:∀i ys σ H,i<=n->Pv i ys σ H->ys.length<=i)
  (hs:∀i ys σ H,i<n->Pv i ys σ H->g (.int (lo+i)) σ H fun σ2 H2=>tc σ2 H2 fun b H3=>if b=true then te σ2 H3 fun v H4=>Pv (i+1) (ys++[v]) σ2 H4 else Pv (i+1) ys σ2 H3)
  (hd:∀ys σ H,Pv n ys σ H->∀D,H D=none->Q (.ref D) (upd H D (.lst ys))):
  ∃W:Nat->Nat->List V->St->Hp->Prop,(∃m,W 0 m [] σ H)/\∀i m ys σ' H',W i m ys σ' H' ->
   ys.length<sizeLine/\(((Itr lo n).stop i H'/\∀D,H' D=none->Q (.ref D) (upd H' D (.lst ys)))\/((Itr lo n).go i H'/\∃N:List V->St->Hp->Prop,(∀zs σ2 H2,N zs σ2 H2->∃m',m'<m/\W (i+1) m' zs σ2 H2)/\∀x H2,(Itr lo n).yld i H' x H2->g x σ' H2 fun σ2 H3=>tc σ2 H3 fun b H4=>
    if b=true then te σ2 H4 fun v H5=>N (ys++[v]) σ2 H5 else N ys σ2 H4)):=by
 refine⟨fun i m ys σ H=>m=n-i/\i<=n/\Pv i ys σ H,⟨n,by simp,Nat.zero_le _,h0⟩,?_⟩
 rintro i m ys σ H ⟨rfl,hi,p⟩
 have ly:=hl i ys σ H hi p
 refine⟨by omega,?_⟩
 by_cases hlt:i<n
 ·refine .inr ⟨hlt,Pv (i+1),fun zs σ' H' p'=>⟨n-(i+1),by omega,rfl,hlt,p'⟩,fun x H' y=>?_⟩
  obtain⟨e,y⟩:=y
  subst e y
  exact hs i ys σ _ hlt p
 ·have e:i=n:=by omega
  subst e
  exact .inl ⟨Nat.le_refl _,hd ys σ H p⟩
end L2
namespace L2
open PySem PySem.Spec PyProof.Rows
section
variable {X:Cx}
theorem vals_bool_get {bs:List Bool}{its:List Value}(r:Vals (bs.map V.bl) its){i:Nat}{v:Value}(h:its[i]?=some v):∃b,bs[i]?=some b/\v=.bool b:=by
 have hi:i<its.length:=(List.getElem?_eq_some_iff.mp h).1
 have hl:=r.length
 rw[List.length_map]at hl
 obtain⟨u,hu,ru⟩:=r.get (i:=i) (x:=V.bl bs[i]) (by rw[List.getElem?_map];simp[show i<bs.length by omega])
 rw[h]at hu
 cases hu
 exact⟨bs[i],by simp[show i<bs.length by omega],ru⟩
theorem map_at (bs:List Bool):(List.range bs.length).map (fun i=>bs.getD i false)=bs:=
 List.ext_getElem (by simp) fun i _ h=>by simp[h]
theorem range_all {bs:List Bool}:(List.range bs.length).all (fun i=>bs.getD i false)=bs.all id:=by
 have e:=congrArg (fun l=>l.all id) (map_at bs)
 rw[List.all_map]at e;exact e
theorem truth_bools {bs:List Bool}{its:List Value}{A:Around}{P:Program}{w:World}(r:Vals (bs.map V.bl) its):TruthOf P w A (fun i v=>its.toArray[i]?=some v) (fun i=>bs.getD i false):=by
 intro i v s Q E hv hq
 obtain⟨b,hb,e⟩:=vals_bool_get r (by simpa using hv)
 subst e
 refine wpAny_truthy_bool ?_
 have e:bs.getD i false=b:=by rw[List.getD_eq_getElem?_getD,hb];rfl
 have hq':Q (bs.getD i false) s:=hq
 rw[e]at hq'
 exact hq'
theorem call_all (hc:X.calm=true):CallR X (.builtin "all") (fun xs H Q=>∃(p:Addr) (bs:List Bool),xs=[.ref p]/\SqL X.K H p (bs.map V.bl)/\Q (.bl (bs.all id)) H):=by
 intro pins s σ H xs us Q I r h
 obtain⟨p,bs,rfl,hq,q⟩:=h
 obtain⟨u,rfl,ru⟩:=vals1 r
 cases ru
 obtain⟨its,rv,pl,hz⟩:=I.list hq
 have hlen:=rv.length
 rw[List.length_map]at hlen
 have hh:X.A.in1.handled=none:=I.ok.hd hc
 obtain⟨o,ho,_⟩:=id pl.isList
 have hne:p≠s.heap.objs.size:=Nat.ne_of_lt (Heap.lt_size ho)
 refine call_all_walk (wpAny_pyIter_list pl.isList ?_)
 refine⟨s.heap.objs.size,_,_,its.toArray.size,_,_,fun i=>bs.getD i false,rfl,Walks.list hh _ p hne its.toArray,⟨⟨_,Heap.get?_push_size _ rfl,rfl,rfl⟩,pl.isList.at fun o e=>Heap.get?_push_of_some _ e⟩,truth_bools rv,fun h' tk hk=>?_⟩
 refine⟨.bl (bs.all id),H,I.kept (t':=tk) fun b o e=>hk b o ?_ (Heap.get?_push_of_some _ e),?_,q⟩
 ·intro hb
  have e':b=s.heap.objs.size:=by simpa using hb
  exact absurd (Heap.lt_size e) (by rw[e'];exact Nat.lt_irrefl _)
 ·rw[List.size_toArray,<-hlen,range_all];rfl
theorem call_isinst:CallR X (.builtin "isinstance") (fun xs H Q=>∃x c cv t b,xs=[x,c]/\TyOf X.K H x t/\(∀u,RelV c u->u=cv)/\PySem.W.kitOne X.K t cv=some b/\Q (.bl b) H):=by
 intro pins s σ H xs us Q I r h
 obtain⟨x,c,cv,t,b,rfl,ty,hc,hk,q⟩:=h
 obtain⟨u,w',rfl,rx,rc⟩:=vals2 r
 rw[hc _ rc]
 exact isinst_ok I rx ty hk fun tk=>⟨.bl b,H,I.tok tk,rfl,q⟩
def EqD (K:PySem.W.Frag)(H:Hp):Nat->V->V->Bool->Prop
 |0,x,y,b=>flatV x=true/\flatV y=true/\b=eqV x y
 |n+1,x,y,b=>(flatV x=true/\flatV y=true/\b=eqV x y) \/ ∃a c xs ys,x=.ref a/\y=.ref c/\((SqL K H a xs/\SqL K H c ys)\/(SqT K H a xs/\SqT K H c ys)) /\
   ∃e:Nat->Bool,(∀i x y,xs[i]?=some x->ys[i]?=some y->EqD K H n x y (e i))/\b=(decide (xs.length=ys.length)&&(List.range (min xs.length ys.length)).all e)
theorem in1_units (A:Around):A.in1.units=A.units+1:=rfl
theorem eqV_self {x:V}(h:flatV x=true):eqV x x=true:=by
 cases x<;>first|rfl|(simp[eqV];done)|exact absurd (show false=true from h) Bool.false_ne_true
theorem EqD.self {pins:List (Addr×Obj)}{s:Shared}{σ:St}{H:Hp}(I:Inv X pins σ H s):∀(n:Nat) {x:V} {b:Bool},EqD X.K H n x x b->b=true:=by
 intro n
 induction n with
 |zero=>
  rintro x b ⟨fx,_,rfl⟩
  exact eqV_self fx
 |succ n ih=>
  rintro x b (⟨fx,_,rfl⟩|⟨a,c,xs,ys,rfl,e2,hq,e,he,rfl⟩)
  ·exact eqV_self fx
  ·cases e2
   have exy:xs=ys:=by
    rcases hq with ⟨h1,h2⟩|⟨h1,h2⟩
    ·exact I.list_inj h1 h2
    ·exact I.tuple_inj h1 h2
   subst exy
   simp only[decide_true,Bool.true_and,Nat.min_self,List.all_eq_true,List.mem_range]
   intro i hi
   exact ih (he i xs[i] xs[i] (by simp[hi]) (by simp[hi]))
theorem all_and {n m:Nat}{e:Nat->Bool}:((List.range (min n m)).all e&&n==m)=(decide (n=m)&&(List.range (min n m)).all e):=by
 rw[Bool.and_comm]
 congr 1
theorem EqD.at {pins:List (Addr×Obj)}{s:Shared}{σ:St}{H:Hp}(I:Inv X pins σ H s):∀(n:Nat) (A:Around) {x y:V} {u v:Value} {b:Bool},A.units+n<cLine->RelV x u->RelV y v->EqD X.K H n x y b ->
  SeqAt.EqAt A s u v b/\∀a c,x=.ref a->y=.ref c->SeqAt.RcAt A s u v b:=by
 intro n
 induction n with
 |zero=>
  intro A x y u v b hu rx ry h
  obtain⟨fx,fy,rfl⟩:=h
  refine⟨eqAt_V rx ry fx fy,?_⟩
  rintro a c rfl rfl
  exact absurd (show false=true from fx) Bool.false_ne_true
 |succ n ih=>
  intro A x y u v b hu rx ry h
  have hself:=h
  rcases h with ⟨fx,fy,rfl⟩|⟨a,c,xs,ys,rfl,rfl,hq,e,he,rfl⟩
  ·refine⟨eqAt_V rx ry fx fy,?_⟩
   rintro a c rfl rfl
   exact absurd (show false=true from fx) Bool.false_ne_true
  ·cases rx
   cases ry
   have key:∀(its its2:List Value),Vals xs its->Vals ys its2->∀j (h1:j<its.toArray.size) (h2:j<its2.toArray.size),SeqAt.EqAt A.in1 s its.toArray[j] its2.toArray[j] (e j):=fun its its2 r1 r2 j h1 h2=>by
    have l1:=r1.length
    have l2:=r2.length
    rw[List.size_toArray]at h1 h2
    obtain⟨u1,g1,q1⟩:=r1.get (i:=j) (x:=xs[j]'(by omega)) (by simp[show j<xs.length by omega])
    obtain⟨u2,g2,q2⟩:=r2.get (i:=j) (x:=ys[j]'(by omega)) (by simp[show j<ys.length by omega])
    have k1:its.toArray[j]'(by rw[List.size_toArray];exact h1)=u1:=by
     have:=(List.getElem?_eq_some_iff.mp g1).2
     simpa using this
    have k2:its2.toArray[j]'(by rw[List.size_toArray];exact h2)=u2:=by
     have:=(List.getElem?_eq_some_iff.mp g2).2
     simpa using this
    rw[k1,k2]
    exact (ih A.in1 (by rw[in1_units];omega) q1 q2 (he j _ _ (by simp[show j<xs.length by omega]) (by simp[show j<ys.length by omega]))).1
   have rc:SeqAt.RcAt A s (.ref a) (.ref c) (decide (xs.length=ys.length)&&(List.range (min xs.length ys.length)).all e):=by
    rcases hq with ⟨h1,h2⟩|⟨h1,h2⟩
    ·obtain⟨its,r1,p1,_⟩:=I.list h1
     obtain⟨its2,r2,p2,_⟩:=I.list h2
     have l1:=r1.length
     have l2:=r2.length
     by_cases hl:xs.length=ys.length
     ·have:=SeqAt.RcAt.lists (e:=e) p1.isList p2.isList (by rw[List.size_toArray,List.size_toArray];omega) (by omega) (key its its2 r1 r2)
      rw[List.size_toArray,<-l1]at this
      rw[decide_eq_true hl,Bool.true_and,<-hl,Nat.min_self]
      exact this
     ·rw[decide_eq_false hl,Bool.false_and]
      exact SeqAt.RcAt.lists_lengths p1.isList p2.isList (by rw[List.size_toArray,List.size_toArray];simp;omega) (by omega)
    ·obtain⟨its,r1,p1,_⟩:=I.tuple h1
     obtain⟨its2,r2,p2,_⟩:=I.tuple h2
     have l1:=r1.length
     have l2:=r2.length
     have:=SeqAt.RcAt.tuples (e:=e) (show s.heap.IsTuple a its.toArray from p1) (show s.heap.IsTuple c its2.toArray from p2) (by omega) (key its its2 r1 r2)
     rw[List.size_toArray,List.size_toArray,<-l1,<-l2,all_and]at this
     exact this
   refine⟨?_,fun a' c' _ _=>rc⟩
   by_cases hac:a=c
   ·subst hac
    rw[EqD.self I (n+1) hself]
    exact SeqAt.EqAt.same _
   ·exact SeqAt.EqAt.of_refs hac rc
theorem EqD.flat {K:PySem.W.Frag}{H:Hp}{a c:Addr}{xs ys:List V}(hq:(SqL K H a xs/\SqL K H c ys)\/(SqT K H a xs/\SqT K H c ys))(fx:∀x∈xs,flatV x=true)(fy:∀y∈ys,flatV y=true)(hi:∀x∈xs,∀y∈ys,eqV x y=decide (x=y))(n:Nat):
  EqD K H (n+1) (.ref a) (.ref c) (decide (xs=ys)):=by
 have base:∀m i x y,xs[i]?=some x->ys[i]?=some y->EqD K H m x y (decide (x=y)):=fun m i x y h1 h2=>by
  have m1:=List.mem_of_getElem? h1
  have m2:=List.mem_of_getElem? h2
  cases m with
  |zero=>exact⟨fx _ m1,fy _ m2,(hi _ m1 _ m2).symm⟩
  |succ m=>exact .inl ⟨fx _ m1,fy _ m2,(hi _ m1 _ m2).symm⟩
 refine .inr ⟨a,c,xs,ys,rfl,rfl,hq,fun i=>match xs[i]?,ys[i]? with|some x,some y=>decide (x=y)|_,_=>true,fun i x y h1 h2=>?_,?_⟩
 ·simp only[h1,h2]
  exact base n i x y h1 h2
 ·rw[Bool.eq_iff_iff]
  simp only[decide_eq_true_eq,Bool.and_eq_true,List.all_eq_true,List.mem_range]
  constructor
  ·rintro rfl
   refine⟨rfl,fun i hi=>?_⟩
   have hi:i<xs.length:=by omega
   simp[hi]
  ·rintro⟨hl,h⟩
   refine List.ext_getElem? fun i=>?_
   by_cases hi:i<xs.length
   ·have:=h i (by omega)
    simp[hi,show i<ys.length by omega]at this
    simp[hi,show i<ys.length by omega,this]
   ·rw[List.getElem?_eq_none (by omega),List.getElem?_eq_none (by omega)]
end
end L2
namespace L2
open PySem PySem.Spec PyProof.Rows
def blkOk (outer:List (Str×NameKind))(sc:Scope):Bool:=
 sc.kind == .function&&sc.names.all (fun y=>y.2 != .cell&&(y.2 != .local||sc.names.lookup y.1==some .local)&&(y.2 != .free||outer.lookup y.1==some .cell||outer.lookup y.1==some .free))
theorem blk_mk {X:Cx}{sc:Scope}(h:blkOk X.env.scope.names sc=true):BlkSc X sc:=by
 unfold blkOk at h
 rw[Bool.and_eq_true,List.all_eq_true]at h
 obtain⟨h1,h2⟩:=h
 refine⟨by simpa using h1,fun y hy z=>?_,fun y hy z=>?_,fun y hy z=>?_⟩
 ·have:=h2 y hy
  simp only[Bool.and_eq_true]at this
  have:=this.1.1
  rw[z]at this
  exact absurd this (by decide)
 ·have:=h2 y hy
  simp only[Bool.and_eq_true]at this
  have:=this.1.2
  rw[z]at this
  simpa using this
 ·have:=h2 y hy
  simp only[Bool.and_eq_true]at this
  have:=this.2
  rw[z]at this
  have t:(X.env.scope.names.lookup y.1==some .cell||X.env.scope.names.lookup y.1==some .free)=true:=by simpa using this
  rw[Bool.or_eq_true]at t
  rcases t with t|t
  ·exact .inl (by show X.env.scope.names.lookup y.1=some .cell;simpa using t)
  ·exact .inr (by show X.env.scope.names.lookup y.1=some .free;simpa using t)
section
variable {t u:TS} {te ta tb tc':TE} {tt tu:TT} {A B:TA} {D:Ends} {σ:St} {H:Hp} {Q:VK} {R:Bool->Hp->Prop} {S:List V->Hp->Prop} {i:Nat} {v:V} {g:TG} {r r':R2} {K:PySem.W.Frag} {wi:TI} {cp:Caps}
theorem r_seq:tSeq t u D σ H=t {D with nx:=u D} σ H:=rfl
theorem r_next:tNext D σ H=D.nx σ H:=rfl
theorem r_asg:tAsg te g D σ H=te σ H fun x H1=>g x σ H1 D.nx:=rfl
theorem r_gname {N:St->Hp->Prop}:gName i v σ H N=N (σ.set i (some v)) H:=rfl
theorem r_var:tVar i σ H Q=∃v,σ[i]?=some (some v)/\Q v H:=rfl
theorem r_c:tC v σ H Q=Q v H:=rfl
theorem r_op:tOp r ta tb σ H Q=ta σ H fun x H1=>tb σ H1 fun y H2=>r x y H2 Q:=rfl
theorem r_un {f:V->Hp->VK->Prop}:tUn f ta σ H Q=ta σ H fun x H1=>f x H1 Q:=rfl
theorem r_I {C:Int->Int->Prop}{f:Int->Int->V}{x y:V}:rI C f x y H Q=∃i j,x=.int i/\y=.int j/\C i j/\Q (f i j) H:=rfl
theorem r_I0 {f:Int->Int->V}{x y:V}:rI0 f x y H Q=∃i j,x=.int i/\y=.int j/\Q (f i j) H:=rfl
theorem r_U {f:Int->V}{x:V}:rU f x H Q=∃i,x=.int i/\Q (f i) H:=rfl
theorem r_call {sp:Sp}{dvs:List V}{E:XK}:tCall sp dvs E A σ H Q=A σ H fun vs H1=>sp (vs++dvs) H1 Q E:=rfl
theorem r_cons:tCons te A σ H S=te σ H fun x H1=>A σ H1 fun xs H2=>S (x::xs) H2:=rfl
theorem r_nil:tNil σ H S=S [] H:=rfl
theorem r_ret:tRet te D σ H=te σ H D.rt:=rfl
theorem r_drop:tDrop te D σ H=te σ H fun _ H1=>D.nx σ H1:=rfl
theorem r_if:tIfS tt t u D σ H=tt σ H fun b H1=>if b=true then t D σ H1 else u D σ H1:=rfl
theorem r_B:tB te σ H R=te σ H fun x H1=>∃c,x=.bl c/\R c H1:=rfl
theorem r_test:tTest te σ H R=te σ H fun x H1=>∃c,x=.bl c/\R c H1:=rfl
theorem r_and:tAnd tt tu σ H R=tt σ H fun c H1=>if c=true then tu σ H1 R else R false H1:=rfl
theorem r_or:tOr tt tu σ H R=tt σ H fun c H1=>if c=true then R true H1 else tu σ H1 R:=rfl
theorem r_not:tNot tt σ H R=tt σ H fun c H1=>R (!c) H1:=rfl
theorem r_chain:tChain r r' ta tb tc' σ H Q=ta σ H fun x H1=>tb σ H1 fun y H2=>r x y H2 fun z H3=>∃k,z=.bl k/\(if k=true then tc' σ H3 fun w' H4=>r' y w' H4 Q else Q (.bl false) H3):=rfl
theorem r_CB {f:List V->Hp->VK->Prop}:tCB f A σ H Q=A σ H fun vs H1=>f vs H1 Q:=rfl
theorem r_lst:tLst A σ H Q=A σ H fun xs H1=>xs.length<=sizeLine/\∀p,H1 p=none->Q (.ref p) (upd H1 p (.lst xs)):=rfl
theorem r_tup:tTup A σ H Q=A σ H fun xs H1=>xs.length<=sizeLine/\∀p,H1 p=none->Q (.ref p) (upd H1 p (.tup xs)):=rfl
theorem r_ixL {x y:V}:rIxL K x y H Q=∃p xs i v,x=.ref p/\y=.int i/\SqL K H p xs/\atI xs i=some v/\Q v H:=rfl
theorem r_ixT {x y:V}:rIxT K x y H Q=∃p xs i v,x=.ref p/\y=.int i/\SqT K H p xs/\atI xs i=some v/\Q v H:=rfl
theorem r_sl {f:V->Option Int->Option Int->Hp->VK->Prop}{tl th:TO}:tSl f te tl th σ H Q=te σ H fun x H1=>tl σ H1 fun l H2=>th σ H2 fun u H3=>f x l u H3 Q:=rfl
theorem r_part {U:Option Int->Hp->Prop}:tPart te σ H U=te σ H fun x H1=>∃i,x=.int i/\U (some i) H1:=rfl
theorem r_nopart {U:Option Int->Hp->Prop}:tNoPart σ H U=U none H:=rfl
theorem r_BM {T:String}{f:V->List V->Hp->VK->Prop}:tBM K T f te A σ H Q=te σ H fun x H1=>tyV K T x H1/\A σ H1 fun xs H2=>f x xs H2 Q:=rfl
theorem r_append {x:V}{vs:List V}:rAppend x vs H Q=∃l xs y,x=.ref l/\vs=[y]/\H l=some (.lst xs)/\xs.length<sizeLine/\Q .non (upd H l (.lst (xs++[y]))):=rfl
theorem r_gsub {to ti:TE}{ts:TSet}{N:St->Hp->Prop}:gSub to ti ts v σ H N=to σ H fun o H1=>ti σ H1 fun i H2=>ts o i v H2 fun H3=>N σ H3:=rfl
theorem r_setL {o k:V}{N:Hp->Prop}:rSetL o k v H N=∃p xs m j,o=.ref p/\k=.int m/\H p=some (.lst xs)/\ixN xs.length m=some j/\N (upd H p (.lst (xs.set j v))):=rfl
theorem r_Eq {x y:V}:rEq x y H Q=(scal x y=true/\Q (.bl (decide (x=y))) H):=rfl
theorem r_iList {Z:It->Hp->Prop}:iList K te σ H Z=te σ H fun x H1=>∃a,x=.ref a/\(∃xs,SqL K H1 a xs)/\Z (Itl K a) H1:=rfl
theorem r_iTup {Z:It->Hp->Prop}:iTup K te σ H Z=te σ H fun x H1=>∃a,x=.ref a/\(∃xs,SqT K H1 a xs)/\Z (Itt K a) H1:=rfl
theorem r_iRng1 {Z:It->Hp->Prop}:iRng1 A σ H Z=A σ H fun vs H1=>∃j:Int,vs=[.int j] /\ -(2 ^ 62)<=j/\j<2 ^ 62/\Z (Itr 0 j.toNat) H1:=rfl
theorem r_aug {ti:TIp}:tAug i te ti D σ H=∃x,σ[i]?=some (some x)/\te σ H fun y H1=>ti x y H1 fun z H2=>D.nx (σ.set i (some z)) H2:=rfl
theorem r_ip {f:Int->Int->Int}{x y:V}:ipI f x y H Q=∃i j,x=.int i/\y=.int j/\Q (.int (f i j)) H:=rfl
theorem r_true:tTrue σ H R=R true H:=rfl
end
theorem Same.new {H:Hp}{p:Addr}{o:HO}(h:H p=none):Same H (upd H p o):=fun b u e=>by rw[upd_ne (ne_of_none e h)];exact e
theorem Same.newT {H H':Hp}{p:Addr}{o:HO}(s:Same H H')(h:H' p=none):Same H (upd H' p o):=s.trans (Same.new h)
theorem Same.over {H H':Hp}{p:Addr}{o:HO}(s:Same H H')(h:H p=none):Same H (upd H' p o):=fun b u e=>by rw[upd_ne (ne_of_none e h)];exact s b u e
theorem none_of_upd {H:Hp}{p D:Addr}{o:HO}(h:upd H p o D=none):H D=none/\D≠p:=by
 by_cases e:D=p
 ·subst e;rw[upd_same]at h;cases h
 ·rw[upd_ne e]at h;exact⟨h,e⟩
theorem Same.seqT {K:PySem.W.Frag}{H H':Hp}{a:Addr}{xs:List V}(e:Same H H')(h:SqT K H a xs):SqT K H' a xs:=by
 rcases h with (h|⟨o,h⟩)|h
 ·exact .inl (.inl (e _ _ h))
 ·exact .inl (.inr ⟨o,e _ _ h⟩)
 ·exact .inr h
theorem hu9 {k:Nat}{A:Around}(hr:Room k A):A.units+8<cLine:=by have:=hr.units;omega
section
variable {K:PySem.W.Frag} {wi:TI} {cp:Caps} {g:TG} {tc:TT} {te:TE} {σ:St} {H:Hp} {Q:VK}
theorem r_cxK {CX:CXT}{P:Program}{w:World}{mg:Str->Option Value}{base:Heap}{N:List Str}{qual:Str}{scope:Scope}{f:Addr}{cd:Value}{A:Around}{outer:List Env}{s:Shared}{E:XK}:(cxOf CX P w K mg base N qual scope f cd A outer s H E).K=K:=rfl
def CompW (J:It)(cp:Caps)(g:TG)(tc:TT)(te:TE)(σ:St)(H1:Hp)(Q:VK):Prop:=∃W:Nat->Nat->List V->St->Hp->Prop,(∃m,W 0 m [] (cp.st σ) H1)/\∀i m ys σ' H',W i m ys σ' H' ->
 ys.length<sizeLine/\((J.stop i H'/\∀D,H' D=none->Q (.ref D) (upd H' D (.lst ys)))\/(J.go i H'/\∃N:List V->St->Hp->Prop,(∀zs σ2 H2,N zs σ2 H2->∃m',m'<m/\W (i+1) m' zs σ2 H2)/\∀x H2,J.yld i H' x H2->g x σ' H2 fun σ2 H3=>tc σ2 H3 fun b H4=>
  if b=true then te σ2 H4 fun v H5=>N (ys++[v]) σ2 H5 else N ys σ2 H4))
theorem r_comp:tComp wi cp g tc te σ H Q=wi σ H fun J H1=>CompW J cp g tc te σ H1 Q:=rfl
def ForW (J:It)(g:TG)(tb:TS)(D:Ends)(σ:St)(H1:Hp):Prop:=∃W:Nat->Nat->St->Hp->Prop,(∃m,W 0 m σ H1)/\∀i m σ H,W i m σ H ->
 (J.stop i H/\D.nx σ H)\/(J.go i H/\∃N:St->Hp->Prop,(∀σ' H',N σ' H'->∃m',m'<m/\W (i+1) m' σ' H')/\∀x H',J.yld i H x H'->g x σ H' fun σ2 H2=>tb {D with nx:=N,ct:=N,bk:=D.nx} σ2 H2)
theorem r_for {tb:TS}{D:Ends}:tFor wi g tb D σ H=wi σ H fun J H1=>ForW J g tb D σ H1:=rfl
theorem forL {a:Addr}{xs:List V}{g:TG}{tb:TS}{D:Ends}{σ:St}{H:Hp}(Pv:Nat->St->Hp->Prop)(h0:Pv 0 σ H)(hl:∀i σ H,i<=xs.length->Pv i σ H->SqL K H a xs)
  (hs:∀i x σ H,xs[i]?=some x->Pv i σ H->g x σ H fun σ2 H2=>tb {D with nx:=Pv (i+1),ct:=Pv (i+1),bk:=D.nx} σ2 H2) (hd:∀σ H,Pv xs.length σ H->D.nx σ H):ForW (Itl K a) g tb D σ H:=for_list Pv h0 hl hs hd
theorem forT {a:Addr}{xs:List V}{g:TG}{tb:TS}{D:Ends}{σ:St}{H:Hp}(Pv:Nat->St->Hp->Prop)(h0:Pv 0 σ H)(hl:∀i σ H,i<=xs.length->Pv i σ H->SqT K H a xs)
  (hs:∀i x σ H,xs[i]?=some x->Pv i σ H->g x σ H fun σ2 H2=>tb {D with nx:=Pv (i+1),ct:=Pv (i+1),bk:=D.nx} σ2 H2) (hd:∀σ H,Pv xs.length σ H->D.nx σ H):ForW (Itt K a) g tb D σ H:=for_tup Pv h0 hl hs hd
theorem forR {lo:Int}{n:Nat}{g:TG}{tb:TS}{D:Ends}{σ:St}{H:Hp}(Pv:Nat->St->Hp->Prop)(h0:Pv 0 σ H)
  (hs:∀i σ H,i<n->Pv i σ H->g (.int (lo+i)) σ H fun σ2 H2=>tb {D with nx:=Pv (i+1),ct:=Pv (i+1),bk:=D.nx} σ2 H2) (hd:∀σ H,Pv n σ H->D.nx σ H):ForW (Itr lo n) g tb D σ H:=for_range Pv h0 hs hd
theorem compL {a:Addr}{xs:List V}(Pv:Nat->List V->St->Hp->Prop)(h0:Pv 0 [] (cp.st σ) H)(hz:xs.length<sizeLine)
  (hl:∀i ys σ H,i<=xs.length->Pv i ys σ H->SqL K H a xs/\ys.length<=i)
  (hs:∀i x ys σ H,xs[i]?=some x->Pv i ys σ H->g x σ H fun σ2 H2=>tc σ2 H2 fun b H3=>if b=true then te σ2 H3 fun v H4=>Pv (i+1) (ys++[v]) σ2 H4 else Pv (i+1) ys σ2 H3)
  (hd:∀ys σ H,Pv xs.length ys σ H->∀D,H D=none->Q (.ref D) (upd H D (.lst ys))):CompW (Itl K a) cp g tc te σ H Q:=comp_list Pv h0 hz hl hs hd
theorem compT {a:Addr}{xs:List V}(Pv:Nat->List V->St->Hp->Prop)(h0:Pv 0 [] (cp.st σ) H)(hz:xs.length<sizeLine)
  (hl:∀i ys σ H,i<=xs.length->Pv i ys σ H->SqT K H a xs/\ys.length<=i)
  (hs:∀i x ys σ H,xs[i]?=some x->Pv i ys σ H->g x σ H fun σ2 H2=>tc σ2 H2 fun b H3=>if b=true then te σ2 H3 fun v H4=>Pv (i+1) (ys++[v]) σ2 H4 else Pv (i+1) ys σ2 H3)
  (hd:∀ys σ H,Pv xs.length ys σ H->∀D,H D=none->Q (.ref D) (upd H D (.lst ys))):CompW (Itt K a) cp g tc te σ H Q:=comp_tup Pv h0 hz hl hs hd
theorem compR {lo:Int}{n:Nat}(Pv:Nat->List V->St->Hp->Prop)(h0:Pv 0 [] (cp.st σ) H)(hz:n<sizeLine)
  (hl:∀i ys σ H,i<=n->Pv i ys σ H->ys.length<=i)
  (hs:∀i ys σ H,i<n->Pv i ys σ H->g (.int (lo+i)) σ H fun σ2 H2=>tc σ2 H2 fun b H3=>if b=true then te σ2 H3 fun v H4=>Pv (i+1) (ys++[v]) σ2 H4 else Pv (i+1) ys σ2 H3)
  (hd:∀ys σ H,Pv n ys σ H->∀D,H D=none->Q (.ref D) (upd H D (.lst ys))):CompW (Itr lo n) cp g tc te σ H Q:=comp_range Pv h0 hz hl hs hd
theorem compMapT {a:Addr}{xs:List V}{σ':St}(f:V->V)(e:cp.st σ=none::σ')(hl:SqT K H a xs)(hz:xs.length<sizeLine)(hs:∀x∈xs,∀R:VK,R (f x) H->te (some x::σ') H R)(hd:∀D,H D=none->Q (.ref D) (upd H D (.lst (xs.map f)))):
  CompW (Itt K a) cp (gName 0) tTrue te σ H Q:=by
 refine compT (xs:=xs) (fun i ys σ2 H2=>H2=H/\ys=(xs.take i).map f/\∃o,σ2=o::σ') ⟨rfl,by simp,none,e⟩ hz (fun i ys σ2 H2 hi h=>?_) (fun i x ys σ2 H2 hx h=>?_) (fun ys σ2 H2 h=>?_)
 ·obtain⟨rfl,rfl,_⟩:=h
  exact⟨hl,by rw[List.length_map,List.length_take];omega⟩
 ·obtain⟨rfl,rfl,o,rfl⟩:=h
  refine hs x (List.mem_of_getElem? hx) _ ⟨rfl,?_,some x,rfl⟩
  rw[List.take_add_one,hx];simp
 ·obtain⟨rfl,rfl,_⟩:=h
  rw[List.take_length]
  exact hd
theorem compMapL {a:Addr}{xs:List V}{σ':St}(f:V->V)(e:cp.st σ=none::σ')(hl:SqL K H a xs)(hz:xs.length<sizeLine)(hs:∀x∈xs,∀R:VK,R (f x) H->te (some x::σ') H R)(hd:∀D,H D=none->Q (.ref D) (upd H D (.lst (xs.map f)))):
  CompW (Itl K a) cp (gName 0) tTrue te σ H Q:=by
 refine compL (xs:=xs) (fun i ys σ2 H2=>H2=H/\ys=(xs.take i).map f/\∃o,σ2=o::σ') ⟨rfl,by simp,none,e⟩ hz (fun i ys σ2 H2 hi h=>?_) (fun i x ys σ2 H2 hx h=>?_) (fun ys σ2 H2 h=>?_)
 ·obtain⟨rfl,rfl,_⟩:=h
  exact⟨hl,by rw[List.length_map,List.length_take];omega⟩
 ·obtain⟨rfl,rfl,o,rfl⟩:=h
  refine hs x (List.mem_of_getElem? hx) _ ⟨rfl,?_,some x,rfl⟩
  rw[List.take_add_one,hx];simp
 ·obtain⟨rfl,rfl,_⟩:=h
  rw[List.take_length]
  exact hd
end
def tCut (t u:TS):TS:=fun D σ H=>∃R:St->Hp->Prop,t {D with nx:=R} σ H/\∀σ' H',R σ' H'->u D σ' H'
theorem pss_cut {X:Cx}{st:Stmt}{rest:List Stmt}{t u:TS}(h1:PS X st t)(h2:PSs X rest u):PSs X (st::rest) (tCut t u):=by
 intro pins s σ H D I h
 obtain⟨R,ha,hb⟩:=h
 refine wpAny_execs_cons (thn (h1 pins s σ H {D with nx:=R} I ha) fun f s1 q=>?_)
 cases f with
 |next=>
  obtain⟨σ',H',I',q⟩:=q
  exact h2 pins s1 σ' H' D I' (hb σ' H' q)
 |ret v=>exact q
 |brk=>exact q
 |cont=>exact q
theorem line1000:1000000<sizeLine:=by rw[sizeLine_eq];decide
theorem mem_mapI {ns:List Int}{x:V}(h:x∈ns.map V.int):∃n,n∈ns/\x=.int n:=by
 obtain⟨n,hn,e⟩:=List.mem_map.mp h
 exact⟨n,hn,e.symm⟩
theorem get_mapI {ns:List Int}{i:Nat}{x:V}(h:(ns.map V.int)[i]?=some x):∃n,ns[i]?=some n/\x=.int n:=by
 rw[List.getElem?_map]at h
 cases e:ns[i]? with
 |none=>rw[e]at h;cases h
 |some n=>rw[e]at h;exact⟨n,rfl,(Option.some.inj h).symm⟩
def cutI (ns:List Int)(lo hi:Option Int):List Int:=(ns.drop (HT.sIx ns.length 0 lo)).take (HT.sIx ns.length ns.length hi-HT.sIx ns.length 0 lo)
theorem cut_ints (ns:List Int)(lo hi:Option Int):cutV (ns.map V.int) lo hi=(cutI ns lo hi).map V.int:=by
 unfold cutV cutI
 rw[List.length_map,<-List.map_drop,<-List.map_take]
theorem ixN_of {n:Nat}{i:Int}(h0:0<=i)(h1:i<n):ixN n i=some i.toNat:=by
 unfold ixN;rw[if_pos h0,if_pos h1]
theorem atI_of {α:Type}{xs:List α}{i:Int}{v:α}(h0:0<=i)(h:xs[i.toNat]?=some v):atI xs i=some v:=by
 have:=atI_nat h
 rwa [show ((i.toNat:Nat):Int)=i by omega]at this
theorem kit_self {K:PySem.W.Frag}{t:Value}:PySem.W.kitOne K t t=some true:=by unfold PySem.W.kitOne;rw[if_pos (by simp)]
theorem kit_int_bool {K:PySem.W.Frag}:PySem.W.kitOne K (.type "int") (.type "bool")=some false:=by
 first|rfl|decide +kernel|(unfold PySem.W.kitOne;kernel_rfl)
theorem rel_ty {n:String}:∀u,RelV (V.ty n) u->u=.type n:=fun _ h=>h
end L2
namespace L2
open PySem PySem.W PySem.Spec PySem.Calls PyProof.Rows
section
variable {prog:Program} {w:World} {A:Around} {E:Value->Shared->Prop} {s:Shared} {K:Frag} {x D:Addr} {ox:Obj}
structure ExcCls (K:Frag)(D:Addr):Prop where
 ga:findIn K (.ref D) "__getattribute__"=some (some (.builtin "BaseException.__getattribute__"))
 hk:findIn K (.ref D) "__getattr__"=some none
 cl:(clsIn K D).isSome=true
 ca:findIn K (.ref D) "__class__"=some (some (.builtin "object.__class__"))
 gs:specialIn K (.builtin "object.__class__") "__get__"=some (some (.builtin "getset_descriptor.__get__"))
 tk:takesIn K (.builtin "object.__class__")=some true
 mo:mroIn K D (.type "object")=some true
 mb:mroIn K D (.type "BaseException")=some true
def ExcAt (x D:Addr)(h:Heap):Prop:=∃ox,h.get? x=some ox/\ox.cls=.ref D
theorem ExcAt.type {M:Model}{h:Heap}(I:ExcAt x D h):Looks M h (typeOf (.ref x)) (.ref D):=by
 obtain⟨ox,h1,h2⟩:=I
 exact h2 ▸ (Looks.ld h1).andThen .now
theorem exc_find {M:Model}{h:Heap}(X:K.In h)(C:ExcCls K D):Looks M h (Builtin.ObjectAttr.find (.ref x) (.ref D) "__class__") (.bind (.builtin "getset_descriptor.__get__") (.builtin "object.__class__")):=
 (looks_findIn X C.ca).andThen ((show Looks M h (Builtin.ObjectAttr.getOf (some (.builtin "object.__class__"))) _ from looks_specialIn X C.gs).andThen
  ((show Looks M h (Builtin.ObjectAttr.dataDescriptor? (some (.builtin "object.__class__")) (some (.builtin "getset_descriptor.__get__"))) (some (.builtin "getset_descriptor.__get__",.builtin "object.__class__")) from (looks_takesIn X C.tk).andThen .now).andThen (Looks.tag .now)))
open Builtin Builtin.ObjectAttr Builtin.Getset_descriptor in
theorem exc_get {R:Result->Shared->Prop}{tp:Value}(X:K.In s.heap)(I:ExcAt x D s.heap)(hm:mroIn K D (.type "object")=some true)(h:R (.ok (.ret (.ref D))) s):codeAny (model prog w) A (.call (.builtin "getset_descriptor.__get__") ⟨[.builtin "object.__class__",.ref x,tp],[]⟩) R s:=by
 have l0:=I.type (M:=model prog w)
 have l1:=looks_mroIn (M:=model prog w) X hm
 obtain⟨_,_,_,_,_⟩:=s
 have sg:=KF.slot_gs
 refine codeAny_call_builtin sg.plain KF.entry_gs (sg.check _ _ _ _ _ _ _ _ KF.type_class (KF.args_gs _ _ _) ?_)
 unfold Builtin.«getset_descriptor.__get__» descrGet
 rw[dga_obj]
 unfold descrGetter descrCheckInstance isInstance descrNameAndClass
 refine wpAny_bind (wpAny_pure ?_)
 simp only[KF.owner_class]
 repeat lk
 refine⟨Code.quiet_builtin _ (by decide +kernel),codeAny_builtin KF.entry_class ?_⟩
 unfold Builtin.«object.__class__» shownTypeOf
 repeat lk
 exact h
theorem exc_check {M:Model}{nameV:Value}{Q:Unit->Shared->Prop}(X:K.In s.heap)(I:ExcAt x D s.heap)(C:ExcCls K D)(hq:Q () s):wpAny M A (checkBuiltinCall "BaseException.__getattribute__" ⟨[.ref x,nameV],[]⟩) Q E s:=by
 have a1:=F.args_bexc_ga (.ref x) nameV
 have l0:=I.type (M:=M)
 have l1:=looks_mroIn (M:=M) X C.mb
 obtain⟨_,_,_,_,_⟩:=s
 simp only[checkBuiltinCall,show builtinKind "BaseException.__getattribute__"=some .slot by decide +kernel,show splitId "BaseException.__getattribute__"=some ("BaseException","__getattribute__") by decide +kernel,isInstance]
 repeat (first|lk|wp_step)
 exact hq
theorem exc_entry {tk:Tok}{Q:Fin->Shared->Prop}(X:K.In s.heap)(I:ExcAt x D s.heap)(C:ExcCls K D)(hq:Q (.done (.ret (.ref D))) s):wpAny (model prog w) A (Builtin.«object.__getattribute__» ⟨[.ref x,.str "__class__" tk],[]⟩) Q E s:=by
 obtain⟨hh,g,d,t,os⟩:=s
 have L0:=I.type (M:=model prog w)
 have L1:=exc_find (M:=model prog w) (x:=x) X C
 unfold Builtin.«object.__getattribute__»
 refine wpAny_bind (wpAny_pure ?_)
 refine wpAny_bind (wpAny_pure ?_)
 refine wpAny_bind (L0.at ?_)
 refine wpAny_bind (L1.at ?_)
 show wpAny _ _ (Builtin.ObjectAttr.bindTo _ _ _ _) _ _ _
 unfold Builtin.ObjectAttr.bindTo
 dsimp only
 refine wpAny_bind (wpAny_holding (wpAny_call (exc_get (K:=K) (s:=⟨hh,g,d,t,os⟩) X I C.mo ?_)))
 exact wpAny_pure hq
theorem exc_class {Q:Option Value->Shared->Prop}(X:K.In s.heap)(I:ExcAt x D s.heap)(C:ExcCls K D)(h:Q (some (.ref D)) {s with toks:=s.toks+1}):wpAny (model prog w) A (getAttr? (.ref x) "__class__") Q E s:=by
 obtain⟨hh,g,d,t,os⟩:=s
 have L0:=I.type (M:=model prog w)
 have L1:=looks_findIn (M:=model prog w) X C.ga
 have L2:=looks_findIn (M:=model prog w) X C.hk
 unfold getAttr? getAttrBy? getAttrBy
 refine wpAny_bind (wpAny_mkText (wpAny_bind (wpAny_attempt (wpAny_holding (wpAny_bind (L0.at (wpAny_bind (L1.at ?_))))))))
 show wpAny _ _ (getAttrByItsOwn _ _ _ _ _ _) _ _ _
 unfold getAttrByItsOwn hookBefore
 refine wpAny_bind ?_
 rw[if_pos (by rfl)]
 refine L2.at (wpAny_bind (wpAny_attempt (wpAny_holding ?_)))
 unfold callGetattribute
 rw[if_neg (by decide)]
 unfold boundAndCalled
 have f3:=PySem.F.attr_ValueError.ga.bind (.ref x)
 refine wpAny_bind (wpAny_of_eq f3 ?_)
 refine wpAny_call (codeAny_call_builtin PySem.F.attr_ValueError.ga.plain F.entry_bexc_ga (exc_check (K:=K) (s:=⟨hh,g,d,t+1,os⟩) X I C (exc_entry (K:=K) (s:=⟨hh,g,d,t+1,os⟩) X I C ?_)))
 exact wpAny_pure (wpAny_pure h)
theorem kitx_exc (C:ExcCls K D):KitX K (.ref x) (.ref D) (ExcAt x D):=by
 have cl:=C.cl
 unfold clsIn at cl
 refine⟨fun _ _ _ I=>I.type,fun _ _ X _=>?_,fun h tp dd its n sl X htp=>?_,fun X I k=>exc_class X I C k⟩
 ·split at cl
  ·rename_i ho
   intro A' Q' E' s' k q
   exact wpAny_bind (wpAny_loadPart (k _ _ (X _ _ ho)) (wpAny_pure q))
  ·cases cl
 ·split at cl
  ·rename_i ho
   cases hb:(Value.ref D==Value.ref tp) with
   |false=>rfl
   |true=>
    obtain rfl:D=tp:=Value.ref.inj (beq_iff_eq.mp hb)
    cases (X _ _ ho).symm.trans htp
  ·cases cl
end
section
variable {P:Program} {w:World}
theorem ObjOk.there {H:Hp}{h:Heap}{a:Addr}{o:HO}(x:ObjOk P w H h a o):∃ob,h.get? a=some ob:=by
 induction o with
 |lst xs=>obtain⟨_,_,_,_,e⟩:=x;exact⟨_,e⟩
 |tup xs=>obtain⟨_,_,_,ob,e,_⟩:=x;exact⟨_,e⟩
 |dK kvs=>obtain⟨_,_,_,_,o,_,_,e,_⟩:=x;exact⟨_,e⟩
 |dT kvs=>obtain⟨_,_,_,_,o,_,_,e,_⟩:=x;exact⟨_,e⟩
 |set S n=>obtain⟨o,_,_,_,e,_⟩:=x;exact⟨_,e⟩
 |ins C dx fs=>obtain⟨_,_,_,e,_⟩:=x;exact⟨_,e⟩
 |own y=>obtain⟨_,e⟩:=x;exact⟨_,e⟩
 |xd fs=>obtain⟨_,⟨_,_,_,e,_⟩,_⟩:=x;exact⟨_,e⟩
 |rng lo hi=>obtain⟨_,_,_,e⟩:=x;exact⟨_,e⟩
 |frz ob u ih=>obtain⟨e,_⟩:=x;exact⟨_,e⟩
 |tbl ps=>exact⟨_,(show h.get? a=some _ from x)⟩
 |met f y=>exact⟨_,(show h.get? a=some _ from x)⟩
 |ext φ=>obtain⟨_,⟨_,e⟩,_⟩:=x;exact⟨_,e⟩
structure Fly (P:Program)(w:World)(fs:List Addr)(H1 H':Hp)(h1 g B:Heap):Prop where
 un:Un fs [] H1 H' h1 g
 hok:HOk P w H' g
 cov:∀b o,g.get? b=some o->(H' b≠none \/ ∃o',h1.get? b=some o')->b∉fs->B.get? b=some o
theorem Fly.move {fs:List Addr}{H1 H':Hp}{h1 g B h2:Heap}(x:Fly P w fs H1 H' h1 g B)(frees:∀b∈fs,H' b=none)(st:B.StaysIn h2)(up:∀b∈fs,∀o,g.get? b=some o->∃sl,h2.get? b=some {o with slots:=sl}):Fly P w fs H1 H' h1 h2 B:=by
 have keep:∀b o,g.get? b=some o->(H' b≠none \/ ∃o',h1.get? b=some o')->b∉fs->h2.get? b=some o:=fun b o e h n=>st b o (x.cov b o e h n)
 have nfs:∀b u,H' b=some u->b∉fs:=fun b u e z=>by rw[frees b z]at e;cases e
 refine⟨⟨fun b o e n hb hx=>?_,fun b o e n hb hx=>?_,fun b o e n hx=>x.un.free b o e n hx,fun b o e hx=>?_,x.un.tups,x.un.frzs,x.un.tbls⟩,fun b u e=>?_,fun b o e h n=>?_⟩
 ·exact keep b o (x.un.keep b o e n hb hx) (.inr ⟨o,e⟩) hb
 ·obtain⟨sl,e1⟩:=x.un.slot b o e n hb hx
  obtain⟨sl',e2⟩:=up b hb _ e1
  exact⟨sl',e2⟩
 ·obtain⟨o',e1⟩:=x.un.there b o e hx
  by_cases hb:b∈fs
  ·obtain⟨sl',e2⟩:=up b hb _ e1
   exact⟨_,e2⟩
  ·exact⟨o',keep b o' e1 (.inr ⟨o,e⟩) hb⟩
 ·refine (x.hok b u e).stay (fun c v hc q=>?_) (fun _ q=>q) fun _ _ q=>q
  rcases hc with rfl|hc
  ·exact keep c v q (.inl (by rw[e];simp)) (nfs c u e)
  ·exact keep c v q (.inl (by rw[hc];simp)) (nfs c _ hc)
 ·-- B has it still
  have ⟨o1,e1⟩:∃o1,g.get? b=some o1:=by
   rcases h with h|⟨o',h⟩
   ·cases q:H' b with
    |none=>exact absurd q h
    |some u=>exact (x.hok b u q).there
   ·exact x.un.there b o' h (by simp)
  have e2:=x.cov b o1 e1 h n
  have e3:=st b o1 e2
  rw[e]at e3
  cases e3
  exact e2
def CXe (P:Program)(w:World):CXT:=fun outer H s E e s'=>∃(ea:Addr) (cls a0:Value) (H':Hp) (B:Heap),e=.ref ea/\s'.os=s.os/\AllBare s'.gens/\Fly P w (frs outer) H H' s.heap s'.heap B/\Heap.FlyingW B outer ea cls a0 s'.heap/\E cls none H'
theorem fly_frees {X:Cx}{pins:List (Addr×Obj)}{σ:St}{H1 H':Hp}{s1:Shared}{g B:Heap}(I:Inv X pins σ H1 s1)(x:Fly P w (frs X.stack) H1 H' s1.heap g B):∀b∈frs X.stack,H' b=none:=fun b hb=>by
 obtain⟨_,o,ho,_⟩:=I.stack.mem hb
 exact x.un.free b o ho (I.stkFree b hb) (by simp)
theorem passE {K:PySem.W.Frag}{mg:Str->Option Value}{base:Heap}{N:List Str}{qual:Str}{scope:Scope}{f:Addr}{cd:Value}{A:Around}{outer:List Env}{s:Shared}{H:Hp}{E E':XK}(hE:∀c d H',E' c d H'->E c d H'):
  Passes (CXe P w) (cxOf (CXe P w) P w K mg base N qual scope f cd A outer s H E) E':=by
 intro pins σ H1 s1 e s' I hc
 obtain⟨ea,cls,a0,H',B,rfl,os,bare,fl,fw,q⟩:=hc
 have fr:(cxOf (CXe P w) P w K mg base N qual scope f cd A outer s H E).A.frames=some (envOfC qual scope s.heap.objs.size f cd::outer):=I.ok.frames
 refine wpAny_leaves_onW fr rfl fw fun h' fw' ups=>?_
 have fl2:=fl.move (fly_frees I fl) fw'.1 (fun b hb o e=>by
  obtain⟨_,o',ho',nf⟩:=fw.2.2.1.mem hb
  rw[e]at ho';cases ho'
  exact ups b o e nf)
 have I2:Inv (cxOf (CXe P w) P w K mg base N qual scope f cd A outer s H E) pins σ H' {s' with heap:=h' }:=I.call' (s':={s' with heap:=h' }) os fl2.un fl2.hok bare (fun b hb=>by cases hb)
 refine⟨ea,cls,a0,H',B,rfl,I2.os,I2.bare,⟨I2.base,I2.hok,fun b o e h n=>fl2.cov b o e ?_ (fun z=>?_)⟩,fw',hE _ _ _ q⟩
 ·rcases h with h|⟨o',h⟩
  ·exact .inl h
  ·obtain⟨o2,e2⟩:=I.base.there b o' h (by show b∉([]:List Addr);simp)
   exact .inr ⟨o2,e2⟩
 ·rcases List.mem_cons.mp (I.stkSub b z) with e' | e'
  ·rcases h with h|⟨o',h⟩
   ·exact h (by rw[e'];exact I2.free)
   ·have:=Heap.lt_size h
    rw[e']at this
    exact absurd (Nat.lt_of_lt_of_le this I.ok.above) (Nat.lt_irrefl _)
  ·exact n e'
theorem raiseE {K:PySem.W.Frag}{mg:Str->Option Value}{base:Heap}{N:List Str}{qual:Str}{scope:Scope}{f:Addr}{cd:Value}{A:Around}{outer:List Env}{s:Shared}{H:Hp}{E:XK}
  {pins:List (Addr×Obj)} {σ:St} {H1:Hp} {s1:Shared} {h':Heap} {ea:Addr} {cls:Value} {vs:List Value}
  (I:Inv (cxOf (CXe P w) P w K mg base N qual scope f cd A outer s H E) pins σ H1 s1) (hx:Heap.MadeExcOf s1.heap h' ea cls vs) (q:E cls none H1):
  (cxOf (CXe P w) P w K mg base N qual scope f cd A outer s H E).xe (.ref ea) {s1 with heap:=h' }:=by
 have fr:(cxOf (CXe P w) P w K mg base N qual scope f cd A outer s H E).A.frames=some (envOfC qual scope s.heap.objs.size f cd::outer):=I.ok.frames
 have hin:∀env∈(envOfC qual scope s.heap.objs.size f cd::outer),∀b,env.frame=some b->b∈frs (envOfC qual scope s.heap.objs.size f cd::outer):=fun env he b hb=>List.mem_filterMap.mpr ⟨env,he,hb⟩
 have stk:=I.stack
 have fl:Fly P w (frs (envOfC qual scope s.heap.objs.size f cd::outer)) H1 H1 s1.heap s1.heap (PySem.W.hideAll s1.heap (frs (envOfC qual scope s.heap.objs.size f cd::outer))):=⟨Un.refl,I.hok,fun b o e _ n=>PySem.W.hideAll_get _ e n⟩
 refine wpAny_leaves_madeW (base:=PySem.W.hideAll s1.heap (frs (envOfC qual scope s.heap.objs.size f cd::outer))) (h:=s1.heap) fr rfl (fun b o q=>PySem.W.of_hideAll _ q) ?_ hx fun h'' t fw' ht hnt ups=>?_
 ·exact PySem.W.funFrames_hide stk hin
 ·have fl2:=fl.move (fly_frees (X:=cxOf (CXe P w) P w K mg base N qual scope f cd A outer s H E) I fl) fw'.1 (fun b hb o e=>by
   obtain⟨_,o',ho',nf⟩:=stk.mem hb
   rw[e]at ho';cases ho'
   exact ups b o (hx.keeps b o e) nf)
  have I2:Inv (cxOf (CXe P w) P w K mg base N qual scope f cd A outer s H E) pins σ H1 {s1 with heap:=h'' }:=I.call' (s':={s1 with heap:=h'' }) rfl fl2.un fl2.hok I.bare (fun b hb=>by cases hb)
  refine⟨ea,cls,.ref t,H1,_,rfl,I2.os,I2.bare,⟨I2.base,I2.hok,fun b o e h n=>fl2.cov b o e ?_ (fun z=>?_)⟩,fw',q⟩
  ·rcases h with h|⟨o',h⟩
   ·exact .inl h
   ·obtain⟨o2,e2⟩:=I.base.there b o' h (by show b∉([]:List Addr);simp)
    exact .inr ⟨o2,e2⟩
  ·rcases List.mem_cons.mp (I.stkSub b z) with e' | e'
   ·rcases h with h|⟨o',h⟩
    ·exact h (by rw[e'];exact I2.free)
    ·have:=Heap.lt_size h
     rw[e']at this
     exact absurd (Nat.lt_of_lt_of_le this I.ok.above) (Nat.lt_irrefl _)
   ·exact n e'
end
theorem exc_obj {K:Frag}{h:Heap}{C:Addr}{bmB:List Value}{newId:String}(X:K.In h)(q:excIn K C bmB newId=true):
  ∃bm N nm q bs hdct sn sub ab col dd k0 k1 k2 k3 k5 mN,h.get? C=some (excClassObj nm q C N bs bm hdct sn sub ab col dd k0 k1 k2 k3 k5 newId)/\h.Ns N mN/\mN "__init__"=none/\OwnTail h bmB bm:=by
 unfold excIn at q
 split at q
 case h_2=>cases q
 rename_i d0 c0 s0 hl
 split at q
 case h_2=>cases q
 rename_i B tl a0 a1 a2 a3 id0 a5 em es
 have g:=X C _ hl
 repeat rw[Bool.and_eq_true]at q
 rcases q with ⟨⟨⟨⟨⟨e1,e2⟩,e3⟩,e4⟩,e5⟩,e6⟩
 cases eq_of_beq e1
 cases eq_of_beq e2
 rcases s0 with ⟨l0⟩
 cases es
 rcases c0 with ⟨f0,f1,f2,f3,f4,f5,f6,f7,f8,f9,f10⟩
 cases em
 cases f10
 ·exact⟨tl,f3,f0,f4,f1,f5,f6,f7,f8,f9,d0,a0,a1,a2,a3,a5,h.nsMap f3,g,.of_isNs (isNs_of_in X e5),nsMap_none_of_in X e5 (eq_of_beq e6),tail_of_in X e4⟩
 ·cases e3
def bmV:List Value:=[.type "ValueError",.type "Exception",.type "BaseException",.type "object"]
section
variable {P:Program} {w:World} {K:PySem.W.Frag} {mg:Str->Option Value} {base:Heap} {N:List Str} {qual:Str} {scope:Scope} {f:Addr} {cd:Value} {A:Around} {outer:List Env} {s:Shared} {H:Hp} {E:XK}
def tRaise (C:Addr)(E:XK)(ta:TA):TS:=fun _ σ H=>ta σ H fun vs H1=>vs.length<=sizeLine/\E (.ref C) none H1
theorem ps_raise {x:Str}{C:Addr}{newId:String}{np cpos pos:Pos}{e₀:Expr}{rest:List Expr}{ta:TA}(hm:mg x=some (.ref C))(hx:excIn K C bmV newId=true)(hg:Gl (cxOf (CXe P w) P w K mg base N qual scope f cd A outer s H E) x)
  (hn:newId = "ValueError.__new__") (ha:PA (cxOf (CXe P w) P w K mg base N qual scope f cd A outer s H E) (e₀::rest) ta)
  (he:starEach (e₀::rest) (cxOf (CXe P w) P w K mg base N qual scope f cd A outer s H E).env=(false,eval e₀ (cxOf (CXe P w) P w K mg base N qual scope f cd A outer s H E).env)::starEach rest (cxOf (CXe P w) P w K mg base N qual scope f cd A outer s H E).env:=by rfl)
  (hplain:(backTo cpos (starEach rest (cxOf (CXe P w) P w K mg base N qual scope f cd A outer s H E).env)).any (·.1)=false:=by rfl) (hd:(x==("__debug__" : Str))=false:=by decide):
  PS (cxOf (CXe P w) P w K mg base N qual scope f cd A outer s H E) (.Raise (some (.Call (.Name x np) (e₀::rest) [] cpos)) none pos) (tRaise C E ta):=by
 intro pins s1 σ H1 D I h
 subst hn
 obtain⟨bm,Nc,nm,q,bs,hdct,sn,sub,ab,col,dd,k0,k1,k2,k3,k5,mN,hC,hN,hni,T⟩:=exc_obj I.mod.kin hx
 refine wpAny_Raise_call_subU (C:=C) (nm:=nm) (q:=q) (N:=Nc) (bs:=bs) (bm:=bm) (hdct:=hdct) (sn:=sn) (sub:=sub) (ab:=ab) (col:=col) (dd:=dd) (k0:=k0) (k1:=k1) (k2:=k2) (k3:=k3) (k5:=k5)
  PySem.F.excBase_ValueError (bmB:=bmV) (by decide +kernel) PySem.F.excBase_ValueError (mN:=mN) (T.hasType PySem.F.excBase_ValueError.hasBase) (I.ok.hd rfl) (by rw[he];show (false||(backTo cpos (starEach rest _)).any (·.1))=false;rw[hplain];rfl) hni (ld_glob I hg hm ⟨rfl,?_⟩ hd)
 have hA:=ha cpos pins s1 σ H1 _ I h
 rw[he]at hA ⊢
 refine Calls.evalArgs_plain (thn hA fun us s2 ⟨vs,H2,I2,r2,hz,q2⟩=>⟨rfl,by rw[<-r2.length];exact hz,I2.bk _ _ hC,hN.keeps I2.bk,T.keeps I2.bk,fun h' e hm=>raiseE I2 hm q2⟩)
end
end L2
namespace L2
open PySem PySem.Spec PyProof.Rows
def excO (ea C:Addr):HO:=.ext (ExcAt ea C)
theorem call_isinstE {X:Cx}:CallR X (.builtin "isinstance") (fun xs H Q=>∃ea C c cv b,xs=[.ref ea,c]/\H ea=some (excO ea C)/\ExcCls X.K C/\(∀u,RelV c u->u=cv)/\PySem.W.kitOne X.K (.ref C) cv=some b/\Q (.bl b) H):=by
 intro pins s σ H xs us Q I r h
 obtain⟨ea,C,c,cv,b,rfl,hea,hC,hc,hk,q⟩:=h
 obtain⟨u,w',rfl,rx,rc⟩:=vals2 r
 rw[hc _ rc]
 cases rx
 obtain⟨p,_,_⟩:=(show ObjOk X.prog X.w H s.heap ea (.ext (ExcAt ea C)) from I.hok ea _ hea)
 exact PySem.W.kia_one (kitx_exc hC) I.kIn p hk (fun z=>nomatch z) fun tk=>⟨.bl b,H,I.tok tk,rfl,q⟩
end L2
namespace HT
open PySem PySem.Spec PyProof.Rows
open PySem.AutoSeq1 (wpAny_loadPart')
section
open PySem.SeqAt PySem.MeetsSeq PySem.MeetsSeq2 PySem.MeetsSeq3
theorem int_rmul_tup (a:Int)(t:Tok)(l:Addr)(items:Array Value)(n:Nat)(dd:Option Addr)(sl:Array (Option Value)):
  Meets (Builtin.«int.__rmul__» ⟨[.int a t,.ref l],[]⟩) (fun _ R s=>s.heap.get? l=some {cls:=.type "tuple",dict:=dd,data:=.seq items n,slots:=sl}/\R (.ok (.ret Value.notImplemented)) s):=
 .of_wp fun prog w A R s h=>by obtain⟨hp,g,d,tk,os⟩:=s;obtain⟨hl,h⟩:=h;wp_walk using wpAny_loadPart' hl;exact⟨_,rfl,h⟩
theorem noFill_tuple_mul:fillsNumberSlot (.type "tuple") "mul"=pure false:=by
 first|exact fillsNumberSlot_false (by decide +kernel)|(unfold fillsNumberSlot;kernel_rfl)|kernel_rfl
theorem repeat_tuple:seqRepeat? (.type "tuple")=pure (some (.builtin "tuple.__mul__")):=by
 unfold seqRepeat?
 rw[PySem.seqSlot_of (T := "tuple") (name := "__mul__") (id := "tuple.__mul__") F.slot_tuple_mul.lookup (by decide +kernel),PySem.seqSlot_of (T := "tuple") (name := "__rmul__") (id := "tuple.__rmul__") F.slot_tuple_rmul.lookup (by decide +kernel)]
 rfl
theorem tup_mul_one (l:Addr)(items:Array Value)(n:Nat)(dd:Option Addr)(sl:Array (Option Value))(u:Tok):
  Meets (Builtin.«tuple.__mul__» ⟨[.ref l,.int 1 u],[]⟩) (fun _ R s=>s.heap.get? l=some {cls:=.type "tuple",dict:=dd,data:=.seq items n,slots:=sl}/\R (.ok (.ret (Value.ref l))) s):=
 .of_wp fun prog w A R s h=>by
  obtain⟨hp,g,d,tk,os⟩:=s;obtain⟨hl,h⟩:=h
  have f1:=AutoSeq1.idx_int
  unfold Builtin.«tuple.__mul__»
  wp_walk using wpAny_loadPart' hl
  exact⟨_,rfl,h⟩
theorem tup_mul_none (l:Addr)(items:Array Value)(n:Nat)(dd:Option Addr)(sl:Array (Option Value))(x:Int)(u:Tok)(h0:¬ items.isEmpty=true)(h1:x<=0)(h2 : -(2 ^ 63)<=x):
  Meets (Builtin.«tuple.__mul__» ⟨[.ref l,.int x u],[]⟩) (fun _ R s=>s.heap.get? l=some {cls:=.type "tuple",dict:=dd,data:=.seq items n,slots:=sl}/\R (.ok (.ret (Value.ref s.heap.objs.size))) {s with heap:=s.heap.push {cls:=.type "tuple",data:=.seq #[]} }):=
 .of_wp fun prog w A R s h=>by
  obtain⟨hp,g,d,tk,os⟩:=s;obtain⟨hl,h⟩:=h
  have f1:=AutoSeq1.idx_int
  have c1:(decide (x < -(2 ^ 63:Int))||decide (x >= 2 ^ 63))=false:=by simp;omega
  have c2:(items.isEmpty||x==1)=false:=by simp at h0 ⊢;exact⟨h0,by omega⟩
  have c3:(decide (x<=0)||items.isEmpty)=true:=by simp[h1]
  unfold Builtin.«tuple.__mul__»
  wp_walk using wpAny_loadPart' hl
  rw[if_neg (by rw[c1];exact Bool.false_ne_true)]
  wp_walk using wpAny_loadPart' hl
  rw[if_neg (by rw[c2];exact Bool.false_ne_true)]
  rw[if_pos c3]
  wp_walk using wpAny_loadPart' hl
  exact⟨_,rfl,h⟩
theorem tup_mul_many (l:Addr)(items:Array Value)(n:Nat)(dd:Option Addr)(sl:Array (Option Value))(x:Int)(u:Tok)(h0:¬ items.isEmpty=true)(h1:1<x)(h2:x<2 ^ 63)(h3:items.size*x.toNat<=sizeLine):
  Meets (Builtin.«tuple.__mul__» ⟨[.ref l,.int x u],[]⟩) (fun _ R s=>s.heap.get? l=some {cls:=.type "tuple",dict:=dd,data:=.seq items n,slots:=sl}/\R (.ok (.ret (Value.ref s.heap.objs.size))) {s with heap:=s.heap.push {cls:=.type "tuple",data:=.seq ((List.replicate x.toNat items).foldl (· ++ ·) #[])} }):=
 .of_wp fun prog w A R s h=>by
  obtain⟨hp,g,d,tk,os⟩:=s;obtain⟨hl,h⟩:=h
  have f1:=AutoSeq1.idx_int
  have hs:sizeLine=16777216:=sizeLine_eq
  have c1:(decide (x < -(2 ^ 63:Int))||decide (x >= 2 ^ 63))=false:=by simp;omega
  have c2:(items.isEmpty||x==1)=false:=by simp at h0 ⊢;exact⟨h0,by omega⟩
  have c3:(decide (x<=0)||items.isEmpty)=false:=by simp at h0 ⊢;exact⟨by omega,h0⟩
  obtain⟨k,rfl⟩:∃k:Nat,x=(k:Int):=⟨x.toNat,by omega⟩
  have c4:¬ ((items.size:Int)*(k:Int) > (2 ^ 63-1) / 8):=by
   rw[Int.toNat_natCast]at h3
   have:((items.size*k:Nat):Int)=(items.size:Int)*(k:Int):=by push_cast;rfl
   omega
  have c5:Builtin.Tuple.tupleTooMany ((items.size:Int)*(k:Int))=false:=by
   unfold Builtin.Tuple.tupleTooMany
   rw[Int.toNat_natCast]at h3
   have:((items.size*k:Nat):Int)=(items.size:Int)*(k:Int):=by push_cast;rfl
   simp
   omega
  unfold Builtin.«tuple.__mul__»
  wp_walk using wpAny_loadPart' hl
  rw[if_neg (by rw[c1];exact Bool.false_ne_true)]
  wp_walk using wpAny_loadPart' hl
  rw[if_neg (by rw[c2];exact Bool.false_ne_true)]
  rw[if_neg (by rw[c3];exact Bool.false_ne_true),if_neg c4,if_neg (by rw[c5];exact Bool.false_ne_true)]
  wp_walk using wpAny_loadPart' hl
  have hz:¬ (List.foldl (fun x1 x2=>x1++x2) #[] (List.replicate ((k:Int)).toNat items)).size > sizeLine:=by
   have:=L2.foldl_rep items.toList k []
   rw[List.nil_append]at this
   have e:items.toList.toArray=items:=by simp
   rw[e]at this
   rw[Int.toNat_natCast,this,List.size_toArray,L2.len_rep]
   rw[Int.toNat_natCast]at h3
   rw[Array.length_toList,Nat.mul_comm]
   omega
  rw[if_neg hz]
  wp_walk using wpAny_loadPart' hl
  exact⟨_,rfl,h⟩
end
end HT
namespace L2
open PySem PySem.Spec PyProof.Rows
section
variable {X:Cx}
def rRepT (K:PySem.W.Frag):R2:=fun x y H Q=>∃l k xs,x=.ref l/\y=.int k/\SqT K H l xs/\xs ≠ [] /\ -(2 ^ 63)<=k/\k<2 ^ 63/\xs.length*k.toNat<=sizeLine /\
 (k=1->Q (.ref l) H)/\(k≠1->∀p,H p=none->Q (.ref p) (upd H p (.tup (List.replicate k.toNat xs).flatten)))
theorem op_repT:OpR X (binaryOp .Mult) (rRepT X.K):=by
 intro pins s σ H x y v u Q I rx ry h
 obtain⟨l,k,xs,rfl,rfl,hq,hne,h1,h2,hz,q1,q2⟩:=h
 cases rx
 obtain⟨t,rfl⟩:=ry
 obtain⟨its,r,p1,_⟩:=I.tuple hq
 have hlen:=r.length
 have hn':¬ its.toArray.isEmpty=true:=by
  intro z
  have:its=[]:=by simpa using z
  exact hne (r.nil_iff.mp this)
 obtain⟨⟨cls,dd,data,sl⟩,ho,hc,n,hd⟩:=id p1
 simp only at hc hd
 subst hc hd
 refine wpAny_binaryOp_repeat_ref (T := "tuple") (U := "int") (by decide) ⟨_,ho,rfl⟩ (fun s'=>typeIs_int s' k t) HT.noFill_tuple_mul F.fills_int_mul F.slot_int_rmul HT.repeat_tuple F.slot_int_index.lookup
  (call_meets F.slot_int_rmul (typeIs_int s k t) F.entry_int_rmul (F.args_int_rmul_2 _ _) (HT.int_rmul_tup k t l its.toArray n dd sl) ⟨ho,rfl,⟨_,ho,rfl⟩,?_⟩)
 by_cases k1:k=1
 ·subst k1
  exact call_meets F.slot_tuple_mul ⟨_,ho,rfl⟩ F.entry_tuple_mul (F.args_tuple_mul_2 _ _) (HT.tup_mul_one l its.toArray n dd sl t) ⟨ho,⟨.ref l,H,I,rfl,q1 rfl⟩⟩
 ·have fin:∀(ys:List Value),Vals (List.replicate k.toNat xs).flatten ys->EP X pins σ Q (.ref s.heap.objs.size) {s with heap:=s.heap.push {cls:=.type "tuple",data:=.seq ys.toArray} }:=fun ys rv=>
   ⟨.ref s.heap.objs.size,_,I.laid (t':=s.toks) (o:=.tup (List.replicate k.toNat xs).flatten) (fun b ob q=>Heap.get?_push_of_some _ q) (Nat.le_refl _) ⟨by rw[len_rep,Nat.mul_comm];exact hz,_,rv,IsTup.new _ _⟩,rfl,q2 k1 _ (I.hok.fresh (Nat.le_refl _))⟩
  by_cases k0:k<=0
  ·refine call_meets F.slot_tuple_mul ⟨_,ho,rfl⟩ F.entry_tuple_mul (F.args_tuple_mul_2 _ _) (HT.tup_mul_none l its.toArray n dd sl k t hn' k0 h1) ⟨ho,?_⟩
   exact fin [] (by rw[show k.toNat=0 by omega];exact .nil)
  ·refine call_meets F.slot_tuple_mul ⟨_,ho,rfl⟩ F.entry_tuple_mul (F.args_tuple_mul_2 _ _) (HT.tup_mul_many l its.toArray n dd sl k t hn' (by omega) h2 (by rw[List.size_toArray,<-hlen];exact hz)) ⟨ho,?_⟩
   have e:=foldl_rep its k.toNat []
   rw[List.nil_append]at e
   have e':List.foldl (fun x1 x2=>x1++x2) #[] (List.replicate k.toNat its.toArray)=(List.replicate k.toNat its).flatten.toArray:=e
   rw[e']
   exact fin _ (r.rep k.toNat)
def rCatT2 (K:PySem.W.Frag):R2:=fun x y H Q=>∃a b xs ys,x=.ref a/\y=.ref b/\SqT K H a xs/\SqT K H b ys/\xs.length+ys.length<=sizeLine /\
 (xs=[]->Q (.ref b) H)/\(xs ≠ []->ys=[]->Q (.ref a) H)/\(xs ≠ []->ys ≠ []->∀p,H p=none->Q (.ref p) (upd H p (.tup (xs++ys))))
theorem op_catT2:OpR X (binaryOp .Add) (rCatT2 X.K):=by
 intro pins s σ H x y v u Q I rx ry h
 obtain⟨a,b,xs,ys,rfl,rfl,ha,hb,hz,q0,q1,q2⟩:=h
 by_cases hx:xs=[]
 ·subst hx
  cases rx
  cases ry
  obtain⟨its,r1,p1,_⟩:=I.tuple ha
  obtain⟨its2,r2,p2,_⟩:=I.tuple hb
  have:its=[]:=r1.nil_iff.mpr rfl
  subst this
  obtain⟨⟨cls,dd,data,sl⟩,ho,hc,n,hd⟩:=id p1
  obtain⟨⟨cls2,dd2,data2,sl2⟩,ho2,hc2,n2,hd2⟩:=id p2
  simp only at hc hd hc2 hd2
  subst hc hd hc2 hd2
  exact concat_meets ⟨_,ho,rfl⟩ ⟨_,ho2,rfl⟩ noFill_tuple_add seq_tuple_add PySem.F.slot_tuple_add PySem.F.entry_tuple_add (PySem.F.args_tuple_add_2 _ _)
   (PyProof.Rows.tuple_addW0 a b _ _ n n2 dd dd2 sl sl2 rfl) ⟨ho,ho2,⟨.ref b,H,I,rfl,q0 rfl⟩⟩
 ·exact op_catT pins s σ H _ _ v u Q I rx ry ⟨a,b,xs,ys,rfl,rfl,ha,hb,hx,hz,q1 hx,q2 hx⟩
end
theorem whileW {c:TT}{tb:TS}{D:Ends}{σ:St}{H:Hp}(Pv:Nat->St->Hp->Prop)(h0:∃m,Pv m σ H)
  (hs:∀m σ H,Pv m σ H->c σ H fun b H1=>if b=true then ∃N:St->Hp->Prop,(∀σ' H',N σ' H'->∃m',m'<m/\Pv m' σ' H')/\tb {D with nx:=N,ct:=N,bk:=D.nx} σ H1 else D.nx σ H1):tWhile c tb D σ H:=⟨Pv,h0,hs⟩
theorem r_slT {K:PySem.W.Frag}{H:Hp}{Q:VK}{x:V}{lo hi:Option Int}:rSlT K x lo hi H Q=∃a xs,x=.ref a/\SqT K H a xs /\
 ¬ (HT.sIx xs.length 0 lo=0/\HT.sIx xs.length xs.length hi=xs.length)/\∀p,H p=none->Q (.ref p) (upd H p (.tup (cutV xs lo hi))):=rfl
theorem flat_rep1 {α:Type}(x:α)(k:Nat):(List.replicate k [x]).flatten=List.replicate k x:=by
 induction k with
 |zero=>rfl
 |succ k ih=>rw[List.replicate_succ,List.flatten_cons,ih,List.replicate_succ];rfl
inductive TyW (K:PySem.W.Frag)(H:Hp):V->Value->Prop where
 | non:TyW K H .non (.type "NoneType")
 | bl (x:Bool):TyW K H (.bl x) (.type "bool")
 | int (i:Int):TyW K H (.int i) (.type "int")
 | str (x:Str):TyW K H (.str x) (.type "str")
 | lst {a:Addr} {xs:List V} (e:SqL K H a xs):TyW K H (.ref a) (.type "list")
 | tup {a:Addr} {xs:List V} (e:SqT K H a xs):TyW K H (.ref a) (.type "tuple")
 | exc {a C:Addr} (e:H a=some (excO a C)) (c:ExcCls K C):TyW K H (.ref a) (.ref C)
theorem call_isinstW {X:Cx}:CallR X (.builtin "isinstance") (fun xs H Q=>∃x c cv t b,xs=[x,c]/\TyW X.K H x t/\(∀u,RelV c u->u=cv)/\PySem.W.kitOne X.K t cv=some b/\Q (.bl b) H):=by
 intro pins s σ H xs us Q I r h
 obtain⟨x,c,cv,t,b,rfl,ty,hc,hk,q⟩:=h
 cases ty with
 |non=>exact call_isinst pins s σ H _ us Q I r ⟨_,c,cv,_,b,rfl,.non,hc,hk,q⟩
 |bl y=>exact call_isinst pins s σ H _ us Q I r ⟨_,c,cv,_,b,rfl,.bl y,hc,hk,q⟩
 |int y=>exact call_isinst pins s σ H _ us Q I r ⟨_,c,cv,_,b,rfl,.int y,hc,hk,q⟩
 |str y=>exact call_isinst pins s σ H _ us Q I r ⟨_,c,cv,_,b,rfl,.str y,hc,hk,q⟩
 |exc e hC=>exact call_isinstE pins s σ H _ us Q I r ⟨_,_,c,cv,b,rfl,e,hC,hc,hk,q⟩
 |@lst a xs e=>
  obtain⟨u,w',rfl,rx,rc⟩:=vals2 r
  rw[hc _ rc]
  cases rx
  obtain⟨its,_,pl,_⟩:=I.list e
  obtain⟨o,ho,hcl,_⟩:=pl.isList
  exact PySem.W.kia_one PySem.W.kitx_list I.kIn ⟨o,ho,hcl⟩ hk (fun z=>nomatch z) fun tk=>⟨.bl b,H,I.tok tk,rfl,q⟩
 |@tup a xs e=>
  obtain⟨u,w',rfl,rx,rc⟩:=vals2 r
  rw[hc _ rc]
  cases rx
  obtain⟨its,_,⟨o,ho,hcl,_⟩,_⟩:=I.tuple e
  exact PySem.W.kia_one PySem.W.kitx_tuple I.kIn ⟨o,ho,hcl⟩ hk (fun z=>nomatch z) fun tk=>⟨.bl b,H,I.tok tk,rfl,q⟩
end L2
namespace GW
def nextR (L:Int):List Int->List Int
 |[]=>[0]
 |x::r=>if x=L-1 then 0::nextR L r else (x+1)::r
def nextW (L:Int)(w:List Int):List Int:=(nextR L w.reverse).reverse
def placeR (L:Int):List Int->Int
 |[]=>0
 |x::r=>placeR L r*L+x+1
def place (L:Int)(w:List Int):Int:=placeR L w.reverse
def inW (L x:Int):Bool:=decide (0<=x)&&decide (x<L)
def isW (L:Int)(ws:List Int):Bool:=ws.all (inW L)
theorem inW_iff {L x:Int}:inW L x=true↔0<=x/\x<L:=by simp[inW]
theorem isW_iff {L:Int}{ws:List Int}:isW L ws=true ↔ ∀x∈ws,0<=x/\x<L:=by simp[isW,inW_iff]
theorem nextR_rep (L:Int)(m:Nat)(r:List Int):nextR L (List.replicate m (L-1)++r)=List.replicate m 0++nextR L r:=by
 induction m with
 |zero=>rfl
 |succ m ih=>rw[List.replicate_succ,List.cons_append,nextR,if_pos rfl,ih,List.replicate_succ,List.cons_append]
theorem nextW_mid (L:Int)(a:List Int)(x:Int)(m:Nat)(h:x≠L-1):nextW L (a++[x]++List.replicate m (L-1))=a++[x+1]++List.replicate m 0:=by
 unfold nextW
 rw[List.reverse_append,List.reverse_replicate,List.reverse_append,List.reverse_singleton,nextR_rep]
 show (List.replicate m 0++nextR L (x::a.reverse)).reverse=_
 rw[nextR,if_neg h]
 simp
theorem nextW_all (L:Int)(m:Nat):nextW L (List.replicate m (L-1))=List.replicate (m+1) 0:=by
 unfold nextW
 have:=nextR_rep L m []
 rw[List.append_nil]at this
 rw[List.reverse_replicate,this]
 show (List.replicate m (0:Int)++[0]).reverse=_
 rw[List.reverse_append,List.reverse_replicate]
 rfl
theorem placeR_next (L:Int)(l:List Int):placeR L (nextR L l)=placeR L l+1:=by
 induction l with
 |nil=>simp[nextR,placeR]
 |cons x r ih=>
  rw[nextR]
  by_cases h:x=L-1
  ·rw[if_pos h,placeR,ih,placeR,h,Int.add_mul];omega
  ·rw[if_neg h,placeR,placeR];omega
theorem place_next (L:Int)(w:List Int):place L (nextW L w)=place L w+1:=by
 unfold place nextW
 rw[List.reverse_reverse,placeR_next]
theorem nextR_valid {L:Int}(hL:0<L){l:List Int}(h:∀x∈l,0<=x/\x<L):∀x∈nextR L l,0<=x/\x<L:=by
 induction l with
 |nil=>intro x hx;simp[nextR]at hx;subst hx;exact⟨Int.le_refl _,hL⟩
 |cons y r ih=>
  have hy:=h y List.mem_cons_self
  have hr:∀x∈r,0<=x/\x<L:=fun x hx=>h x (List.mem_cons_of_mem _ hx)
  intro x hx
  rw[nextR]at hx
  by_cases e:y=L-1
  ·rw[if_pos e]at hx
   rcases List.mem_cons.mp hx with rfl|hx
   ·exact⟨Int.le_refl _,hL⟩
   ·exact ih hr x hx
  ·rw[if_neg e]at hx
   rcases List.mem_cons.mp hx with rfl|hx
   ·omega
   ·exact hr x hx
theorem nextW_valid {L:Int}(hL:0<L){w:List Int}(h:isW L w=true):isW L (nextW L w)=true:=by
 rw[isW_iff]at h ⊢
 intro x hx
 unfold nextW at hx
 rw[List.mem_reverse]at hx
 exact nextR_valid hL (fun y hy=>h y (List.mem_reverse.mp hy)) x hx
theorem nextR_length (L:Int)(l:List Int):l.length<=(nextR L l).length/\(nextR L l).length<=l.length+1:=by
 induction l with
 |nil=>simp[nextR]
 |cons x r ih=>
  rw[nextR]
  by_cases h:x=L-1
  ·rw[if_pos h];simp;omega
  ·rw[if_neg h];simp
theorem nextW_length (L:Int)(w:List Int):w.length<=(nextW L w).length/\(nextW L w).length<=w.length+1:=by
 have:=nextR_length L w.reverse
 unfold nextW
 rw[List.length_reverse]at this
 rw[List.length_reverse]
 exact this
def many (L:Int):Nat->Int
 |0=>0
 |k+1=>many L k*L+1
theorem many_nonneg {L:Int}(hL:0<L):∀k,0<=many L k
 |0=>Int.le_refl _
 |k+1=>by
  have:=Int.mul_nonneg (many_nonneg hL k) (Int.le_of_lt hL)
  show 0<=many L k*L+1
  omega
theorem placeR_bounds {L:Int}(hL:0<L):∀{l:List Int},(∀x∈l,0<=x/\x<L)->many L l.length<=placeR L l/\placeR L l<many L (l.length+1)
 |[],_=>by simp[placeR,many]
 |x::r,h=>by
  have hx:=h x List.mem_cons_self
  obtain⟨h1,h2⟩:=placeR_bounds hL (l:=r) fun y hy=>h y (List.mem_cons_of_mem _ hy)
  show many L r.length*L+1<=placeR L r*L+x+1/\placeR L r*L+x+1<many L (r.length+1)*L+1
  have a1:=Int.mul_le_mul_of_nonneg_right h1 (Int.le_of_lt hL)
  have a2:=Int.mul_le_mul_of_nonneg_right (show placeR L r+1<=many L (r.length+1) by omega) (Int.le_of_lt hL)
  rw[Int.add_mul]at a2
  omega
theorem place_bounds {L:Int}(hL:0<L){w:List Int}(h:isW L w=true):many L w.length<=place L w/\place L w<many L (w.length+1):=by
 have:=placeR_bounds hL (l:=w.reverse) (fun x hx=>isW_iff.mp h x (List.mem_reverse.mp hx))
 rw[List.length_reverse]at this
 exact this
theorem many_mono {L:Int}(hL:0<L){j k:Nat}(h:j<=k):many L j<=many L k:=by
 induction h with
 |refl=>exact Int.le_refl _
 |step _ ih=>
  rename_i m _
  refine Int.le_trans ih ?_
  show many L m<=many L m*L+1
  have:many L m*1<=many L m*L:=Int.mul_le_mul_of_nonneg_left (by omega) (many_nonneg hL m)
  omega
theorem length_iff {L:Int}(hL:0<L){w:List Int}(h:isW L w=true)(k:Nat):w.length<=k↔place L w<many L (k+1):=by
 obtain⟨h1,h2⟩:=place_bounds hL h
 constructor
 ·intro hk
  exact Int.lt_of_lt_of_le h2 (many_mono hL (by omega))
 ·intro hp
  refine Nat.le_of_not_lt fun hk=>?_
  have:=many_mono hL (show k+1<=w.length from hk)
  omega
def nth (L:Int):Nat->List Int
 |0=>[]
 |n+1=>nextW L (nth L n)
theorem nth_valid {L:Int}(hL:0<L):∀n,isW L (nth L n)=true
 |0=>rfl
 |n+1=>nextW_valid hL (nth_valid hL n)
theorem place_nth (L:Int):∀n:Nat,place L (nth L n)=n
 |0=>rfl
 |n+1=>by show place L (nextW L (nth L n))=_;rw[place_next,place_nth L n];push_cast;rfl
theorem nth_length {L:Int}(hL:0<L)(n:Nat):(nth L n).length<=n:=by
 induction n with
 |zero=>simp[nth]
 |succ n ih=>have:=(nextW_length L (nth L n)).2;show (nextW L (nth L n)).length<=n+1;omega
theorem place_snoc (L:Int)(w:List Int)(x:Int):place L (w++[x])=place L w*L+x+1:=by
 unfold place
 rw[List.reverse_append];rfl
theorem drop_rep {L:Int}{w:List Int}{k:Nat}(hk:k<=w.length)(h:∀j,k<=j->j<w.length->w[j]?=some (L-1)):w=w.take k++List.replicate (w.length-k) (L-1):=by
 apply List.ext_getElem?
 intro j
 by_cases hj:j<k
 ·rw[List.getElem?_append_left (by rw[List.length_take];omega),List.getElem?_take_of_lt hj]
 ·by_cases hl:j<w.length
  ·rw[h j (by omega) hl,List.getElem?_append_right (by rw[List.length_take];omega),List.getElem?_replicate,if_pos (by rw[List.length_take];omega)]
  ·rw[List.getElem?_eq_none (by omega),List.getElem?_eq_none (by rw[List.length_append,List.length_take,List.length_replicate];omega)]
theorem next_of_kept {L:Int}{w:List Int}{k:Nat}{x:Int}(hk:k<w.length)(h:∀j,k+1<=j->j<w.length->w[j]?=some (L-1))(hx:w[k]?=some x)(hne:x≠L-1):
  nextW L w=w.take k++[x+1]++List.replicate (w.length-(k+1)) 0:=by
 have e:=drop_rep (show k+1<=w.length from hk) h
 have e2:w.take (k+1)=w.take k++[x]:=by rw[List.take_add_one,hx];rfl
 rw[e2]at e
 have:=nextW_mid L (w.take k) x (w.length-(k+1)) hne
 rw[<-e]at this
 exact this
theorem next_of_all {L:Int}{w:List Int}(h:∀j,0<=j->j<w.length->w[j]?=some (L-1)):nextW L w=List.replicate (w.length+1) 0:=by
 have e:=drop_rep (Nat.zero_le _) h
 simp at e
 have:=nextW_all L w.length
 rw[<-e]at this
 exact this
end GW
namespace PySem
section
variable {prog:Program} {w:World} {A:Around} {E:Value->Shared->Prop} {s:Shared}
abbrev lsO (acc:Array Value)(c:Nat):Obj:={cls:=.type "list",dict:=none,data:=.seq acc c,slots := #[]}
def KP (wr:Addr->Prop)(h h':Heap):Prop:=∀b o,¬ wr b->h.get? b=some o->h'.get? b=some o
structure Gat (prog:Program)(w:World)(s:Shared)(r I:Addr)(T:String)(n:Nat)(wr:Addr->Prop)(J:Nat->List Value->Heap->Prop)(Fn:List Value->Heap->Prop):Prop where
 type:s.TypeIs (.ref r) T
 nl:(Value.type T==Value.type "list")=false
 nt:(Value.type T==Value.type "tuple")=false
 le:n<=sizeLine
 hint:∀(A:Around) (t:Shared) (Q:Bool->Shared->Prop) (E:Value->Shared->Prop),(∀b o,s.heap.get? b=some o->t.heap.get? b=some o)->(∀b tk,Q b {t with toks:=tk})->wpAny (model prog w) A (Builtin.List.listLengthHint (.ref r)) Q E t
 iter:∀(A:Around) (h1:Heap) (Q:Value->Shared->Prop) (E:Value->Shared->Prop),(∀b o,s.heap.get? b=some o->h1.get? b=some o)->h1.objs.size=s.heap.objs.size+1->(∀h',J 0 [] h'->(∀b o,h1.get? b=some o->h'.get? b=some o)->Q (.ref I) {s with heap:=h' })->wpAny (model prog w) A (pyIter (.ref r)) Q E {s with heap:=h1}
 next:∀(A:Around) i acc (t:Shared) (Q:Option Value->Shared->Prop) (E:Value->Shared->Prop),A.handled=none->J i acc t.heap->acc.length=i->i<=n->s.heap.objs.size<t.heap.objs.size ->
  (∀v h' tk,i<n->J (i+1) (acc++[v]) h'->KP wr t.heap h'->Q (some v) {t with heap:=h',toks:=tk})->(∀h' tk,i=n->Fn acc h'->KP wr t.heap h'->Q none {t with heap:=h',toks:=tk})->wpAny (model prog w) A (pyNext (.ref I)) Q E t
 frame:∀i acc h h',J i acc h->(∀b o,b≠s.heap.objs.size->h.get? b=some o->h'.get? b=some o)->J i acc h'
 nw:¬ wr s.heap.objs.size
variable {I r:Addr} {T:String} {n:Nat} {wr:Addr->Prop} {J:Nat->List Value->Heap->Prop} {Fn:List Value->Heap->Prop} {R:Result->Shared->Prop} {res:Value}
theorem Gat.loop (G:Gat prog w s r I T n wr J Fn)(hh:A.handled=none)
  (hR:∀h' tk acc c,Fn acc h'->acc.length=n->h'.get? s.heap.objs.size=some (lsO acc.toArray c)->KP wr s.heap h'->R (.ok (.ret res)) {s with heap:=h',toks:=tk}):
  ∀(k:Nat) (h:Heap) (tk c:Nat) (acc:List Value),n-acc.length=k->acc.length<=n->J acc.length acc h->h.get? s.heap.objs.size=some (lsO acc.toArray c)->KP wr s.heap h->codeAny (model prog w) A (.builtin "list.extend.loop" ⟨[.ref s.heap.objs.size,.ref I,res],[]⟩) R {s with heap:=h,toks:=tk}:=by
 intro k
 induction k with
 |zero=>
  intro h tk c acc hk hi j hS kp
  refine codeAny_builtin F.entry_extend_loop ?_
  rw[Around.under_plainId F.plain_extend_loop _]
  refine wpAny_bind (G.next A.in1 _ acc {s with heap:=h,toks:=tk} _ _ hh j rfl hi (Heap.lt_size hS) (fun v h' tk l=>by omega) fun h' tk e j' kk=>?_)
  exact wpAny_pure (hR h' tk acc c j' (by omega) (kk _ _ G.nw hS) fun b o m q=>kk b o m (kp b o m q))
 |succ k ih=>
  intro h tk c acc hk hi j hS kp
  refine codeAny_builtin F.entry_extend_loop ?_
  rw[Around.under_plainId F.plain_extend_loop _]
  refine wpAny_bind (G.next A.in1 _ acc {s with heap:=h,toks:=tk} _ _ hh j rfl hi (Heap.lt_size hS) (fun v h' tk l j' kk=>?_) fun h' tk e=>by omega)
  have hS':=kk _ _ G.nw hS
  have up:∀b o,b≠s.heap.objs.size->h'.get? b=some o->(h'.update s.heap.objs.size (Obj.mapSeq (·.push v))).get? b=some o:=fun b o m q=>(Heap.get?_update_other _ _ (Ne.symm m)).trans q
  have hl:(acc++[v]).length=acc.length+1:=by simp
  have:=G.le
  obtain⟨c',hS2⟩:∃c',(h'.update s.heap.objs.size (Obj.mapSeq (·.push v))).get? s.heap.objs.size=some (lsO (acc++[v]).toArray c'):=⟨_,by rw[<-List.push_toArray];exact Heap.get?_update_self _ hS' rfl⟩
  exact wpAny_bind (wpAny_updateSeq hS' rfl (wpAny_pure ⟨plainId_quiet F.plain_extend_loop _,ih _ tk c' (acc++[v]) (by omega) (by omega) (by rw[hl];exact G.frame _ _ _ _ j' up) hS2 fun b o m q=>up b o (Nat.ne_of_lt (Heap.lt_size q)) (kk b o m (kp b o m q))⟩) (by simp;omega))
theorem Gat.extend {Z:Fin->Shared->Prop}{c₀:Nat}{h1:Heap}(G:Gat prog w s r I T n wr J Fn)(hh:A.handled=none)(k1:∀b o,s.heap.get? b=some o->h1.get? b=some o)(hz:h1.objs.size=s.heap.objs.size+1)(hS:h1.get? s.heap.objs.size=some (lsO #[] c₀))
  (hZ:∀c t,c.quiet=true->codeAny (model prog w) A c R t->Z (.again c) t)
  (hR:∀h' tk acc c,Fn acc h'->acc.length=n->h'.get? s.heap.objs.size=some (lsO acc.toArray c)->KP wr s.heap h'->R (.ok (.ret res)) {s with heap:=h',toks:=tk}):
  wpAny (model prog w) A.in1 (Builtin.List.listExtendWith (.ref s.heap.objs.size) (.ref r) res) Z E {s with heap:=h1}:=by
 have hr:r<s.heap.objs.size:=let ⟨_,ho,_⟩:=G.type;Heap.lt_size ho
 have e1:Builtin.List.listSameRef (.ref s.heap.objs.size) (.ref r)=false:=by simp[Builtin.List.listSameRef,Nat.ne_of_gt hr]
 have hT:Shared.TypeIs {s with heap:=h1} (.ref r) T:=let ⟨o,ho,x⟩:=G.type;⟨o,k1 _ _ ho,x⟩
 have oth:∀(h:Heap) f b o,b≠s.heap.objs.size->h.get? b=some o->(h.update s.heap.objs.size f).get? b=some o:=fun h f b o n q=>(Heap.get?_update_other _ _ (Ne.symm n)).trans q
 have go:∀(h:Heap) c tk,J 0 [] h->h.get? s.heap.objs.size=some (lsO #[] c)->(∀b o,b≠s.heap.objs.size->h1.get? b=some o->h.get? b=some o)->Z (.again (.builtin "list.extend.loop" ⟨[.ref s.heap.objs.size,.ref I,res],[]⟩)) {s with heap:=h,toks:=tk}:=fun h c tk j q k=>
  hZ _ _ (plainId_quiet F.plain_extend_loop _) (G.loop hh hR n h tk c [] rfl (Nat.zero_le _) j q fun b o _ x=>k b o (Nat.ne_of_lt (Heap.lt_size x)) (k1 b o x))
 unfold Builtin.List.listExtendWith
 refine wpAny_bind (wpAny_typeOf hT ?_)
 simp only[e1,G.nl,G.nt,Bool.or_false,Bool.false_eq_true,if_false]
 refine wpAny_bind (G.iter A.in1 h1 _ _ k1 hz fun h' j kk=>wpAny_bind (wpAny_holding (G.hint A.in1 _ _ _ (fun b o q=>kk b o (k1 b o q)) fun bb tk=>?_)))
 have hS':=kk _ _ hS
 refine wpAny_ite_split (fun _=>?_) fun _=>wpAny_pure (go h' c₀ tk j hS' fun b o _ q=>kk b o q)
 wp_walk
 exact go _ _ tk (G.frame _ _ _ _ (G.frame _ _ _ _ j fun b o m q=>oth _ _ b o m q) fun b o m q=>oth _ _ b o m q) (Heap.get?_update_self _ (Heap.get?_update_self _ hS' rfl) rfl) fun b o m q=>oth _ _ b o m (oth _ _ b o m (kk b o q))
theorem Gat.list {Q:Value->Shared->Prop}(G:Gat prog w s r I T n wr J Fn)(hh:A.handled=none)
  (hQ:∀h' tk acc c,Fn acc h'->acc.length=n->h'.get? s.heap.objs.size=some (lsO acc.toArray c)->KP wr s.heap h'->Q (.ref s.heap.objs.size) {s with heap:=h',toks:=tk}):wpAny (model prog w) A (call (.type "list") [.ref r]) Q E s:=by
 have hS:(s.heap.push (lsO #[] 0)).get? s.heap.objs.size=some (lsO #[] 0):=Heap.get?_push_size _ rfl
 refine callType_codes (Q₁:=fun obj s₁=>obj=.ref s.heap.objs.size/\s₁={s with heap:=s.heap.push (lsO #[] 0)}) F.called_list (F.typeCall_list_1 _) F.entry_list_init (code_list_new _ ⟨rfl,rfl⟩) fun obj s₁ h₁=>?_
 obtain⟨rfl,rfl⟩:=h₁
 have oth:∀b o,s.heap.get? b=some o->((s.heap.push (lsO #[] 0)).update s.heap.objs.size (Obj.mapSeq fun _ => #[])).get? b=some o:=fun b o q=>(Heap.get?_update_other _ _ (Nat.ne_of_gt (Heap.lt_size q))).trans (Heap.get?_push_of_some _ q)
 obtain⟨c2,hS2⟩:∃c,((s.heap.push (lsO #[] 0)).update s.heap.objs.size (Obj.mapSeq fun _ => #[])).get? s.heap.objs.size=some (lsO #[] c):=⟨_,Heap.get?_update_self _ hS rfl⟩
 have hz:((s.heap.push (lsO #[] 0)).update s.heap.objs.size (Obj.mapSeq fun _ => #[])).objs.size=s.heap.objs.size+1:=by rw[Heap.size_after_update,Heap.size_push]
 refine⟨⟨_,hS,rfl⟩,F.args_list_init_2 _ _,?_⟩
 wp_walk using Gat.extend (A:=A.in1) (R:=wants (fun r s₂=>r=.none/\Q (.ref s.heap.objs.size) s₂) E) (c₀:=c2) G hh oth hz hS2
 ·exact fun _ _ a b=>⟨a,b⟩
 exact fun h' tk acc c k1 k2 k3 k4=>⟨rfl,hQ h' tk acc c k1 k2 k3 k4⟩
end
end PySem
namespace L2
open PySem PySem.Spec PyProof.Rows
section
variable {P:Program} {w:World} {K:PySem.W.Frag} {mg:Str->Option Value} {base:Heap}
theorem Fun.okE {x qual:Str}{st:Stmt}{f:Addr}{fd:FuncData}{N ps:List Str}{k:Nat}{sp:Sp}(F:Fun K x qual st f fd)(S:FnScope N ps (defScope st))(len:∀vs H Q E,sp vs H Q E->vs.length=ps.length)
  (hbody:∀(cdv:Value) (A:Around) (outer:List Env) (s:Shared) (H:Hp) (vs:List V) (Q:VK) (E:XK),Room k (A.deeper (envOfC qual (defScope st) s.heap.objs.size f cdv))->sp vs H Q E ->
   ∃t,PSs (cxOf (CXe P w) P w K mg base N qual (defScope st) f cdv A outer s H E) (defBody st) t/\t {nx:=fun _ H'=>Q .non H',rt:=Q} (start N vs) H):FnOk P w K mg base (CXe P w) (k+1) f fd ps sp:=by
 obtain⟨oc,od,kV,doc,pm,an,cdv,ct,osl,rfl,lk,hcd⟩:=F.ex
 exact fn_of lk hcd S len fun A outer s H vs Q E hr hsp=>hbody cdv A outer s H vs Q E hr hsp
theorem passNev {X:Cx}:Passes (CXe P w) X E0:=fun _ _ _ _ _ _ _ h=>by
 obtain⟨_,_,_,_,_,_,_,_,_,_,q⟩:=h
 exact q.elim
end
section
variable {te ta tb:TE} {A:TA} {D:Ends} {σ:St} {H:Hp} {Q:VK} {K:PySem.W.Frag} {tbd ts:TS}
theorem r_extend {x:V}{vs:List V}:rExtend x vs H Q=∃l b xs zs,x=.ref l/\vs=[.ref b]/\H l=some (.lst xs)/\H b=some (.lst zs)/\xs.length+zs.length<=sizeLine/\Q .non (upd H l (.lst (xs++zs))):=rfl
theorem r_rep {x y:V}:rRep x y H Q=∃l k xs,x=.ref l/\y=.int k/\H l=some (.lst xs) /\ -(2 ^ 63)<=k/\k<2 ^ 63/\xs.length*k.toNat<=sizeLine/\∀p,H p=none->Q (.ref p) (upd H p (.lst (List.replicate k.toNat xs).flatten)):=rfl
theorem r_raise {C:Addr}{E:XK}:tRaise C E A D σ H=A σ H fun vs H1=>vs.length<=sizeLine/\E (.ref C) none H1:=rfl
end
end L2
namespace L2
open PySem PySem.Spec PyProof.Rows
theorem iteB {c A B:Prop}[Decidable c](hB:B)(h:c->B->A):if c then A else B:=by
 by_cases hc:c
 ·rw[if_pos hc];exact h hc hB
 ·rw[if_neg hc];exact hB
theorem eqV_int (x y:Int):eqV (.int x) (.int y)=decide (V.int x=V.int y):=by
 by_cases h:x=y
 ·subst h;simp[eqV]
 ·rw[decide_eq_false (fun z=>h (by injection z))];simp[eqV,h]
theorem EqD.ints {K:PySem.W.Frag}{H:Hp}{a c:Addr}{xs ys:List Int}(hq:(SqL K H a (xs.map V.int)/\SqL K H c (ys.map V.int))\/(SqT K H a (xs.map V.int)/\SqT K H c (ys.map V.int)))(n:Nat):EqD K H (n+1) (.ref a) (.ref c) (decide (xs=ys)):=by
 have:=EqD.flat hq (fun x hx=>by obtain⟨_,_,rfl⟩:=mem_mapI hx;rfl) (fun x hx=>by obtain⟨_,_,rfl⟩:=mem_mapI hx;rfl) (fun x hx y hy=>by obtain⟨_,_,rfl⟩:=mem_mapI hx;obtain⟨_,_,rfl⟩:=mem_mapI hy;exact eqV_int _ _) n
 have e:decide (xs.map V.int=ys.map V.int)=decide (xs=ys):=by
  rw[Bool.eq_iff_iff]
  simp only[decide_eq_true_eq]
  constructor
  ·intro h
   exact (List.map_inj_right (fun a b h=>by injection h)).mp h
  ·intro h;rw[h]
 rw[e]at this
 exact this
end L2
namespace L2
open PySem PySem.Spec PyProof.Rows
def iSeq (K:PySem.W.Frag)(tl:TE):TI:=fun σ H R=>tl σ H fun x H1=>∃a,x=.ref a/\(((∃xs,SqL K H1 a xs)/\R (Itl K a) H1)\/((∃xs,SqT K H1 a xs)/\R (Itt K a) H1))
theorem r_iSeq {K:PySem.W.Frag}{te:TE}{σ:St}{H:Hp}{Z:It->Hp->Prop}:iSeq K te σ H Z=te σ H fun x H1=>∃a,x=.ref a/\(((∃xs,SqL K H1 a xs)/\Z (Itl K a) H1)\/((∃xs,SqT K H1 a xs)/\Z (Itt K a) H1)):=rfl
theorem pi_seq {X:Cx}{tg l:Expr}{tl:TE}(hl:PE X l tl):PI X tg l (iSeq X.K tl):=by
 intro pins s σ H R I h
 refine thn (hl pins s σ H _ I h) fun v s1 ⟨x,H1,I1,r1,q1⟩=>?_
 obtain⟨a,e,q⟩:=q1
 subst e
 cases r1
 rcases q with ⟨⟨xs,hq⟩,q⟩|⟨⟨xs,hq⟩,q⟩
 ·obtain⟨its,rv,p,hz⟩:=I1.list hq
  refine wpAny_pyIter_list p.isList ?_
  refine⟨s1.heap.objs.size,[s1.heap.objs.size],_,_,H1,rfl,I1.kept (t':=s1.toks) fun b o e=>Heap.get?_push_of_some _ e,turn_list a _,⟨_,Heap.get?_push_size _ rfl,rfl,rfl⟩,fun b hb=>?_,q⟩
  have e:b=s1.heap.objs.size:=by simpa using hb
  subst e
  exact I1.fpOk (Nat.le_refl _) (I1.hok.fresh (Nat.le_refl _))
 ·obtain⟨its,rv,p,hz⟩:=I1.tuple hq
  refine wpAny_pyIter_tuple (show s1.heap.IsTuple a its.toArray from p) ?_
  refine⟨s1.heap.objs.size,[s1.heap.objs.size],_,_,H1,rfl,I1.kept (t':=s1.toks) fun b o e=>Heap.get?_push_of_some _ e,turn_tuple a _,⟨_,Heap.get?_push_size _ rfl,rfl,rfl⟩,fun b hb=>?_,q⟩
  have e:b=s1.heap.objs.size:=by simpa using hb
  subst e
  exact I1.fpOk (Nat.le_refl _) (I1.hok.fresh (Nat.le_refl _))
end L2
namespace GW
theorem place_inj {L:Int}(hL:0<L):∀{xs ys:List Int},isW L xs=true->isW L ys=true->place L xs=place L ys->xs=ys:=by
 have key:∀{l m:List Int},(∀x∈l,0<=x/\x<L)->(∀x∈m,0<=x/\x<L)->placeR L l=placeR L m->l=m:=by
  intro l
  induction l with
  |nil=>
   intro m _ hm h
   cases m with
   |nil=>rfl
   |cons y s=>
    have hy:=hm y List.mem_cons_self
    have:=(placeR_bounds hL (l:=s) fun z hz=>hm z (List.mem_cons_of_mem _ hz)).1
    have h0:=many_nonneg hL s.length
    have hp:=Int.mul_nonneg (show 0<=placeR L s by omega) (Int.le_of_lt hL)
    have h':(0:Int)=placeR L s*L+y+1:=h
    omega
  |cons x r ih=>
   intro m hl hm h
   have hx:=hl x List.mem_cons_self
   cases m with
   |nil=>
    have:=(placeR_bounds hL (l:=r) fun z hz=>hl z (List.mem_cons_of_mem _ hz)).1
    have h0:=many_nonneg hL r.length
    have hp:=Int.mul_nonneg (show 0<=placeR L r by omega) (Int.le_of_lt hL)
    have h':placeR L r*L+x+1=(0:Int):=h
    omega
   |cons y s=>
    have hy:=hm y List.mem_cons_self
    have h':placeR L r*L+x+1=placeR L s*L+y+1:=h
    have e1:placeR L r=placeR L s:=by
     rcases Int.lt_trichotomy (placeR L r) (placeR L s) with hlt|he|hlt
     ·have:=Int.mul_le_mul_of_nonneg_right (show placeR L r+1<=placeR L s by omega) (Int.le_of_lt hL)
      rw[Int.add_mul]at this;omega
     ·exact he
     ·have:=Int.mul_le_mul_of_nonneg_right (show placeR L s+1<=placeR L r by omega) (Int.le_of_lt hL)
      rw[Int.add_mul]at this;omega
    rw[e1]at h'
    rw[ih (fun z hz=>hl z (List.mem_cons_of_mem _ hz)) (fun z hz=>hm z (List.mem_cons_of_mem _ hz)) e1,show x=y by omega]
 intro xs ys hx hy h
 have:=key (l:=xs.reverse) (m:=ys.reverse) (fun x h=>isW_iff.mp hx x (List.mem_reverse.mp h)) (fun x h=>isW_iff.mp hy x (List.mem_reverse.mp h)) h
 exact List.reverse_inj.mp this
end GW
namespace L2
open PySem PySem.Spec PyProof.Rows
section
variable {X:Cx} {K:PySem.W.Frag}
theorem ix_tupK (h:X.K=K):IxR X (rIxT K):=by subst h;exact ix_tup
theorem ix_listK (h:X.K=K):IxR X (rIxL K):=by subst h;exact ix_list
end
end L2
namespace GW
def stepW (ways:List (List Int))(r x:Int):Int:=(ways.getD r.toNat []).getD x.toNat 0
def walkW (ways:List (List Int))(ws:List Int):Int:=ws.foldl (stepW ways) 0
def trailW (ways:List (List Int))(ws:List Int):List Int:=(List.range (ws.length+1)).map fun j=>walkW ways (ws.take j)
structure Wf (L:Int)(marks:List Int)(ways:List (List Int)):Prop where
 l1:1<=L
 l6:L<=6
 n1:1<=marks.length
 n40:marks.length<=40
 len:ways.length=marks.length
 rows:∀row∈ways,(row.length:Int)=L/\∀x∈row,0<=x/\x<marks.length
 mks:∀m∈marks,0<=m/\m<=1000000000
theorem stepW_of {ways:List (List Int)}{r x:Int}{row:List Int}{g:Int}(h1:ways[r.toNat]?=some row)(h2:row[x.toNat]?=some g):stepW ways r x=g:=by
 unfold stepW
 have e:ways.getD r.toNat []=row:=by rw[List.getD_eq_getElem?_getD,h1];rfl
 rw[e,List.getD_eq_getElem?_getD,h2];rfl
theorem Wf.row {L:Int}{marks:List Int}{ways:List (List Int)}(wf:Wf L marks ways){r:Int}(h0:0<=r)(h1:r<marks.length):∃row,ways[r.toNat]?=some row/\row∈ways/\(row.length:Int)=L:=by
 have hlt:r.toNat<ways.length:=by rw[wf.len];omega
 exact⟨ways[r.toNat],by simp[hlt],List.getElem_mem hlt,(wf.rows _ (List.getElem_mem hlt)).1⟩
theorem Wf.step {L:Int}{marks:List Int}{ways:List (List Int)}(wf:Wf L marks ways){r x:Int}(h0:0<=r)(h1:r<marks.length)(x0:0<=x)(x1:x<L):∃row g,ways[r.toNat]?=some row/\row[x.toNat]?=some g/\stepW ways r x=g/\0<=g/\g<marks.length:=by
 obtain⟨row,hr,hm,hl⟩:=wf.row h0 h1
 have hlt:x.toNat<row.length:=by omega
 have hg:row[x.toNat]?=some row[x.toNat]:=by simp[hlt]
 exact⟨row,row[x.toNat],hr,hg,stepW_of hr hg,(wf.rows row hm).2 _ (List.getElem_mem hlt)⟩
theorem walkW_snoc (ways:List (List Int))(ws:List Int)(x:Int):walkW ways (ws++[x])=stepW ways (walkW ways ws) x:=by
 unfold walkW
 rw[List.foldl_append];rfl
theorem walkW_take {ways:List (List Int)}{ws:List Int}{i:Nat}{x:Int}(h:ws[i]?=some x):walkW ways (ws.take (i+1))=stepW ways (walkW ways (ws.take i)) x:=by
 rw[List.take_add_one,h]
 exact walkW_snoc _ _ _
theorem Wf.walk {L:Int}{marks:List Int}{ways:List (List Int)}(wf:Wf L marks ways){ws:List Int}(hw:isW L ws=true):∀i,0<=walkW ways (ws.take i)/\walkW ways (ws.take i)<marks.length:=by
 intro i
 induction i with
 |zero=>have:=wf.n1;simp[walkW];omega
 |succ i ih=>
  cases e:ws[i]? with
  |none=>
   have hle:=List.getElem?_eq_none_iff.mp e
   rw[List.take_of_length_le (by omega)]
   rw[List.take_of_length_le hle]at ih
   exact ih
  |some x=>
   rw[walkW_take e]
   have hx:=isW_iff.mp hw x (List.mem_of_getElem? e)
   obtain⟨_,g,_,_,h,h0,h1⟩:=wf.step ih.1 ih.2 hx.1 hx.2
   rw[h];exact⟨h0,h1⟩
theorem trailW_length (ways:List (List Int))(ws:List Int):(trailW ways ws).length=ws.length+1:=by simp[trailW]
theorem trailW_get {ways:List (List Int)}{ws:List Int}{i:Nat}(h:i<=ws.length):(trailW ways ws)[i]?=some (walkW ways (ws.take i)):=by
 unfold trailW
 rw[List.getElem?_map,List.getElem?_range (by omega)];rfl
theorem trailW_last (ways:List (List Int))(ws:List Int):(trailW ways ws)[ws.length]?=some (walkW ways ws):=by
 rw[trailW_get (Nat.le_refl _),List.take_length]
end GW
namespace L2
open PySem PySem.Spec PyProof.Rows GW
def Rows (K:PySem.W.Frag)(H:Hp)(w:Addr)(ways:List (List Int)):Prop:=∃ts:List Addr,SqT K H w (ts.map V.ref)/\ts.length=ways.length/\∀(i:Nat) (t:Addr) (row:List Int),ts[i]?=some t->ways[i]?=some row->SqT K H t (row.map V.int)
def House (K:PySem.W.Frag)(H:Hp)(h:Addr)(L:Int)(marks:List Int)(ways:List (List Int)):Prop:=∃m w:Addr,SqT K H h [.int L,.ref m,.ref w]/\SqT K H m (marks.map V.int)/\Rows K H w ways
theorem Rows.mono {K:PySem.W.Frag}{H H':Hp}{w:Addr}{ways:List (List Int)}(h:Rows K H w ways)(e:Same H H'):Rows K H' w ways:=by
 obtain⟨ts,h1,h2,h3⟩:=h
 exact⟨ts,e.seqT h1,h2,fun i t r a b=>e.seqT (h3 i t r a b)⟩
theorem House.mono {K:PySem.W.Frag}{H H':Hp}{h:Addr}{L:Int}{marks:List Int}{ways:List (List Int)}(x:House K H h L marks ways)(e:Same H H'):House K H' h L marks ways:=by
 obtain⟨m,w,h1,h2,h3⟩:=x
 exact⟨m,w,e.seqT h1,e.seqT h2,h3.mono e⟩
theorem Rows.at {K:PySem.W.Frag}{H:Hp}{w:Addr}{ways:List (List Int)}(h:Rows K H w ways){i:Nat}{row:List Int}(hr:ways[i]?=some row):∃xs t,SqT K H w xs/\atI xs (i:Int)=some (V.ref t)/\SqT K H t (row.map V.int):=by
 obtain⟨ts,h1,h2,h3⟩:=h
 have hlt:i<ts.length:=by rw[h2];exact (List.getElem?_eq_some_iff.mp hr).1
 have ht:ts[i]?=some ts[i]:=by simp[hlt]
 exact⟨_,ts[i],h1,atI_nat (by rw[List.getElem?_map,ht];rfl),h3 i _ _ ht hr⟩
theorem Rows.atZ {K:PySem.W.Frag}{H:Hp}{w:Addr}{ways:List (List Int)}(h:Rows K H w ways){r:Int}{row:List Int}(h0:0<=r)(hr:ways[r.toNat]?=some row):∃xs t,SqT K H w xs/\atI xs r=some (V.ref t)/\SqT K H t (row.map V.int):=by
 obtain⟨xs,t,a,b,c⟩:=h.at hr
 exact⟨xs,t,a,by rw[<-b];congr 1;omega,c⟩
theorem atI_end {α:Type}{xs:List α}{v:α}(h:xs[xs.length-1]?=some v):atI xs (-1)=some v:=by
 have hlt:=(List.getElem?_eq_some_iff.mp h).1
 unfold atI ixN
 rw[if_neg (by omega),if_pos (by omega)]
 show xs[(-1+(xs.length:Int)).toNat]?=some v
 rw[show (-1+(xs.length:Int)).toNat=xs.length-1 by omega]
 exact h
theorem atI_int {ns:List Int}{i:Int}{v:Int}(h0:0<=i)(h:ns[i.toNat]?=some v):atI (ns.map V.int) i=some (V.int v):=atI_of h0 (by rw[List.getElem?_map,h];rfl)
theorem seqT_off {K:PySem.W.Frag}{H:Hp}{p t:Addr}{xs ys zs:List V}(hp:H p=some (.lst zs))(h:SqT K H t xs):SqT K (upd H p (.lst ys)) t xs:=by
 rcases h with (q|⟨o,q⟩)|q
 ·refine .inl (.inl ?_)
  rw[upd_ne (fun z=>by rw[z,hp]at q;cases q)];exact q
 ·refine .inl (.inr ⟨o,?_⟩)
  rw[upd_ne (fun z=>by rw[z,hp]at q;cases q)];exact q
 ·exact .inr q
def TupsL (K:PySem.W.Frag)(H:Hp)(l:Addr)(ws:List (List Int)):Prop:=∃ts:List Addr,H l=some (.lst (ts.map V.ref))/\ts.length=ws.length/\∀(i:Nat) (t:Addr) (w:List Int),ts[i]?=some t->ws[i]?=some w->SqT K H t (w.map V.int)
theorem TupsL.mono {K:PySem.W.Frag}{H H':Hp}{l:Addr}{ws:List (List Int)}(h:TupsL K H l ws)(e:Same H H'):TupsL K H' l ws:=by
 obtain⟨ts,h1,h2,h3⟩:=h
 exact⟨ts,e _ _ h1,h2,fun i t w a b=>e.seqT (h3 i t w a b)⟩
theorem TupsL.off {K:PySem.W.Frag}{H:Hp}{l p:Addr}{ws:List (List Int)}{zs ys:List V}(h:TupsL K H l ws)(hp:H p=some (.lst zs))(ne:l≠p):TupsL K (upd H p (.lst ys)) l ws:=by
 obtain⟨ts,h1,h2,h3⟩:=h
 exact⟨ts,by rw[upd_ne ne];exact h1,h2,fun i t w a b=>seqT_off hp (h3 i t w a b)⟩
theorem TupsL.push {K:PySem.W.Frag}{H:Hp}{l t:Addr}{ws:List (List Int)}{w:List Int}(h:TupsL K H l ws)(hw:SqT K H t (w.map V.int)):∃xs,H l=some (.lst xs)/\xs.length=ws.length/\TupsL K (upd H l (.lst (xs++[V.ref t]))) l (ws++[w]):=by
 obtain⟨ts,h1,h2,h3⟩:=h
 refine⟨ts.map V.ref,h1,by rw[List.length_map,h2],ts++[t],by rw[upd_same,List.map_append];rfl,by simp[h2],fun i t' w' a b=>seqT_off h1 ?_⟩
 by_cases hi:i<ts.length
 ·rw[List.getElem?_append_left hi]at a
  rw[List.getElem?_append_left (by omega)]at b
  exact h3 i t' w' a b
 ·have ht:=(List.getElem?_eq_some_iff.mp a).1
  rw[List.length_append,List.length_singleton]at ht
  have e:i=ts.length:=by omega
  subst e
  rw[List.getElem?_append_right (Nat.le_refl _),Nat.sub_self]at a
  rw[List.getElem?_append_right (by omega),h2,Nat.sub_self]at b
  simp at a b
  subst a b
  exact hw
theorem TupsL.nil {K:PySem.W.Frag}{H:Hp}{l:Addr}(h:H l=some (.lst [])):TupsL K H l []:=⟨[],h,rfl,fun i t w a _=>by simp at a⟩
theorem TupsL.rows {K:PySem.W.Frag}{H:Hp}{l:Addr}{ws:List (List Int)}(h:TupsL K H l ws):∃xs,H l=some (.lst xs)/\∀t,H t=none->Rows K (upd H t (.tup xs)) t ws:=by
 obtain⟨ts,h1,h2,h3⟩:=h
 exact⟨_,h1,fun t ht=>⟨ts,SqT.of upd_same,h2,fun i t' w a b=>(Same.new ht).seqT (h3 i t' w a b)⟩⟩
end L2
namespace PySem
open Sem (wp)
open AutoSeq1 (wpAny_loadPart')
section
variable {prog:Program} {w:World} {A:Around} {E:Value->Shared->Prop} {s:Shared}
theorem newT {l:List Value}{Q:Value->Shared->Prop}(hl:l.length<=sizeLine)(h:∀h',s.heap.push {cls:=.type "tuple",data:=.seq l.toArray}=h'->Q (.ref s.heap.objs.size) {s with heap:=h' }):wpAny (model prog w) A (newTuple l) Q E s:=wpAny_newTuple (h _ rfl)
theorem psh {h h':Heap}{o:Obj}(q:h.push o=h')(ho:o.isFreed=false):(∀c u,h.get? c=some u->h'.get? c=some u)/\h'.get? h.objs.size=some o/\h'.objs.size=h.objs.size+1:=by
 subst q
 exact⟨fun c u x=>Heap.get?_push_of_some _ x,Heap.get?_push_size _ ho,Heap.size_push ..⟩
theorem nextOf_tup {it l:Addr}{i:Nat}{items:Array Value}{Q:Value->Shared->Prop}(hit:s.heap.IsTupleIter it l i)(hl:s.heap.IsTuple l items)
  (hQ:∀x h',items[i]?=some x->h'.IsTupleIter it l (i+1)->Heap.SameBut it s.heap h'->Q x {s with heap:=h' })
  (hE:items[i]?=none->A.handled=none/\∀h' e,Heap.ExtBut it s.heap h'->(∃o,h'.get? e=some o/\o.cls=.type "StopIteration")->E (.ref e) {s with heap:=h' }):wpAny (model prog w) A (Builtin.SmallTypes.nextOf (.ref it)) Q E s:=by
 obtain⟨⟨c,dc,da,sl⟩,ho,hc,hd⟩:=id hit
 obtain⟨⟨c',dc',da',sl'⟩,hol,hc',nl,hdl⟩:=hl
 replace hc:c=_:=hc;replace hd:da=_:=hd;replace hc':c'=_:=hc';replace hdl:da'=_:=hdl
 subst hc hd hc' hdl
 have e1:=F.slot_tuple_iterator_next
 unfold Builtin.SmallTypes.nextOf
 refine wpAny_bind (wpAny_callSpecial?_slot hit.typeIs e1 (wpAny_call_entry e1 hit.typeIs F.entry_tuple_iterator_next ?_ (F.args_tuple_iterator_next_1 _)))
 wp_walk
 cases hx:items[i]? with
 |some x=>
  simp only[Int.toNat_natCast,hx]
  wp_walk
  exact⟨x,rfl,wpAny_pure (hQ x _ hx ⟨_,Heap.get?_update_self _ ho (by simp[Obj.mapFields,Obj.isFreed]),rfl,by simp[Obj.mapFields,rawInt]⟩ (Heap.SameBut.update ..))⟩
 |none=>
  obtain⟨hh,hE⟩:=hE hx
  have h1:A.in1.handled=none:=hh
  simp only[Int.toNat_natCast,hx]
  wp_walk
  unfold raiseNew
  wp_walk
  exact hE _ _ (((Heap.SameBut.update ..).extBut.push _).push _) ⟨_,Heap.get?_push_size _ rfl,rfl⟩
theorem Draws.tuple (hh:A.handled=none)(it l:Addr)(hne:l≠it)(items:Array Value):
  Draws prog w A it [it,l] items.size (fun i v=>items[i]?=some v) (fun i h=>h.IsTupleIter it l i/\h.IsTuple l items) where
 live:=fun _ _ st=>let ⟨o,e,_⟩:=st.1;⟨o,e⟩
 frame:=fun _ _ _ st k=>⟨st.1.at fun o e=>k it (by simp) o e,let ⟨o,e,r⟩:=st.2;⟨o,k l (by simp) o e,r⟩⟩
 item:=fun i t Q E hi st q=>nextOf_tup st.1 st.2 (fun x h' e1 e2 e3=>q x h' t.toks e1 ⟨e2,st.2.extBut e3.extBut hne⟩ e3) fun z=>by rw[Array.getElem?_eq_none_iff]at z;omega
 done:=fun t Q E st q=>nextOf_tup st.1 st.2 (fun x h' e1=>by have:=(Array.getElem?_eq_some_iff.mp e1).1;omega) fun _=>⟨hh,q⟩
theorem call_enumerate_tuple {l:Addr}{items:Array Value}{Q:Value->Shared->Prop}(hL:s.heap.IsTuple l items)
  (h:∀h',IsEnum h' (s.heap.objs.size+1) s.heap.objs.size 0 .none->h'.IsTupleIter s.heap.objs.size l 0->h'.objs.size=s.heap.objs.size+2->(∀b o,s.heap.get? b=some o->h'.get? b=some o)->Q (.ref (s.heap.objs.size+1)) {s with heap:=h' }):
  wpAny (model prog w) A (call (.type "enumerate") [.ref l]) Q E s:=by
 have M:Meets (Builtin.«enumerate.__new__» ⟨[.type "enumerate",.ref l],[]⟩) fun _ R t=>t.heap.IsTuple l items/\∀h',IsEnum h' (t.heap.objs.size+1) t.heap.objs.size 0 .none->h'.IsTupleIter t.heap.objs.size l 0->h'.objs.size=t.heap.objs.size+2->(∀b o,t.heap.get? b=some o->h'.get? b=some o)->R (.ok (.ret (.ref (t.heap.objs.size+1)))) {t with heap:=h' }:=.of_wp fun prog w A R t ⟨hl,q⟩=>by
  have hsub:=sub_enumerate
  obtain⟨hp,g,d,tk,os⟩:=t
  obtain⟨⟨c,dc,da,sl⟩,e1,hc,n,hd⟩:=id hl
  have fin:∀f,f=Fin.done (.ret (.ref (hp.push {cls:=.type "tuple_iterator",data:=.fields #[.ref l,.int 0 0]}).objs.size))->∃x,f=.done (.ret x)/\R (.ok (.ret x)) ⟨(hp.push {cls:=.type "tuple_iterator",data:=.fields #[.ref l,.int 0 0]}).push {cls:=.type "enumerate",data:=.fields #[.none,.bool false,.ref hp.objs.size,rawInt 0,.none,.none]},g,d,tk,os⟩:=fun f hf=>by
   have z:=Heap.size_push hp {cls:=.type "tuple_iterator",data:=.fields #[.ref l,.int 0 0]}
   rw[z]at hf
   have y:=Heap.get?_push_size (hp.push {cls:=.type "tuple_iterator",data:=.fields #[.ref l,.int 0 0]}) (o:={cls:=.type "enumerate",data:=.fields #[.none,.bool false,.ref hp.objs.size,rawInt 0,.none,.none]}) rfl
   rw[z]at y
   exact⟨_,hf,q _ y ⟨_,Heap.get?_push_of_some _ (Heap.get?_push_size _ rfl),rfl,rfl⟩ (by rw[Heap.size_push,z]) fun b o x=>Heap.get?_push_of_some _ (Heap.get?_push_of_some _ x)⟩
  wp_walk using AutoSeq1.wpAny_loadPart' e1
  refine wpAny_stack_any fun st=>wpAny_pure ?_
  split
  ·rename_i c _ _ _ _ _
   cases (c==Value.type "enumerate")<;>(wp_walk using AutoSeq1.wpAny_loadPart' e1,wpAny_pyIter_tuple hl;exact fin _ rfl)
  ·wp_walk using AutoSeq1.wpAny_loadPart' e1,wpAny_pyIter_tuple hl
   exact fin _ rfl
 exact callType_new F.called_enumerate (by decide) (F.typeCall_enumerate_1 _) (F.newCall_enumerate_1 _) (fun obj=>F.args_object_init_2 obj _) F.entry_enumerate_new M ⟨hL,fun h' a b c d=>⟨⟨_,a,rfl⟩,h h' a b c d⟩⟩
end
end PySem
namespace L2
open PySem PySem.Spec PyProof.Rows
section
variable {X:Cx} {pins:List (Addr×Obj)} {σ:St} {H:Hp} {s:Shared}
theorem Inv.un2 {h':Heap}{e it:Addr}(I:Inv X pins σ H s)(k:∀b o,b≠e->b≠it->s.heap.get? b=some o->h'.get? b=some o)(f1:FpOk X pins H e)(f2:FpOk X pins H it):Un (frs X.stack) [e,it] H H s.heap h'/\HOk X.prog X.w H h':=by
 have ne:∀b u,H b=some u->b≠e/\b≠it:=fun b u q=>⟨(fun z=>by rw[z,f1.1]at q;cases q),(fun z=>by rw[z,f2.1]at q;cases q)⟩
 have nch:∀{b:Addr},b ∉ [e,it]->b≠e/\b≠it:=fun hb=>by simpa using hb
 refine⟨⟨fun b o q _ _ hb=>k b o (nch hb).1 (nch hb).2 q,fun b o q _ _ hb=>⟨o.slots,k b o (nch hb).1 (nch hb).2 q⟩,fun _ _ _ n _=>n,fun b o q hb=>⟨o,k b o (nch hb).1 (nch hb).2 q⟩,fun _ _ q=>q,fun _ _ _ q=>q,fun b ps q=>⟨#[],by rw[q];simp⟩⟩,fun b u q=>?_⟩
 refine (I.hok b u q).stay (fun c v hc qv=>?_) (fun _ q=>q) fun _ _ q=>q
 have hne:c≠e/\c≠it:=by
  rcases hc with rfl|hc
  ·exact ne _ _ q
  ·exact ne _ _ hc
 exact k c v hne.1 hne.2 qv
theorem FpOk.ch {b:Addr}(f:FpOk X pins H b):(b∈X.ex\/X.s₀.heap.objs.size<=b)/\b≠X.env.locals/\(∀x c,X.env.cells.lookup x=some c->c≠b)/\∀p∈X.pn++pins,p.1≠b:=⟨f.2.2.2.1,f.2.1,f.2.2.2.2.1,f.2.2.2.2.2⟩
end
def Itn (K:PySem.W.Frag)(a:Addr)(xs:List V):It:=⟨fun i H=>i<xs.length/\SqT K H a xs,fun i H x H'=>∃t v,H t=none/\xs[i]?=some v/\x=.ref t/\H'=upd H t (.tup [.int i,v]),fun i H=>i=xs.length/\SqT K H a xs⟩
theorem turn_enumT {P:Program}{w:World}{K:PySem.W.Frag}{elts:List Expr}{x1}{tpos:Pos}(a e it:Addr)(hei:e≠it)(hai:a≠it)(hae:a≠e)(xs:List V):Turn P w K (.Tuple elts x1 tpos) (Itn K a xs) [e,it] e (fun i h=>∃old,IsEnum h e it (i:Nat) old/\h.IsTupleIter it a i) where
 mem:=by simp
 obj:=fun i h st b hb=>by
  obtain⟨old,h1,o,h2,c,d⟩:=st
  rcases List.mem_cons.mp hb with rfl|hb
  ·exact⟨_,h1,fun v z=>by cases z⟩
  ·rw[List.mem_singleton.mp hb]
   exact⟨o,h2,fun v z=>by rw[d]at z;cases z⟩
 keep:=fun i h h' st k=>by
  obtain⟨old,h1,h2⟩:=st
  exact⟨old,k e (by simp) _ h1,h2.at fun o q=>k it (by simp) o q⟩
 item:=by
  intro X hP hw hK hc i pins s σ H E I hf st hg
  subst hP hw hK
  obtain⟨hi,hq⟩:=hg
  obtain⟨old,he,hit⟩:=st
  obtain⟨its,rv,p,hz⟩:=I.tuple hq
  have hl:=rv.length
  have pt:s.heap.IsTuple a its.toArray:=p
  have f1:=hf e (by simp)
  have f2:=hf it (by simp)
  have Dw:=Draws.tuple (prog:=X.prog) (w:=X.w) (A:=X.A.in1) (I.ok.hd hc) it a hai its.toArray
  refine wpAny_pyNext_enum_itemD Dw he ⟨hit,pt⟩ (by simp;omega) hei (by simp[hei,Ne.symm hae]) fun u h' tk hu heo hst' hget hsz hk=>?_
  have hT:s.heap.objs.size≠e:=Nat.ne_of_gt (Heap.lt_size he)
  refine⟨_,rfl,wpAny_letOwnedTupleGo_enum heo fun h2 he2 hs2=>?_⟩
  have hk2:∀b o,b≠e->b≠it->s.heap.get? b=some o->h2.get? b=some o:=fun b o h1 h3 q=>(hs2.2 b h1).trans (hk b o h1 h3 q)
  obtain⟨un,hok⟩:=I.un2 hk2 f1 f2
  have hn:H s.heap.objs.size=none:=I.hok.fresh (Nat.le_refl _)
  have hv:xs[i]?=some xs[i]:=by simp[hi]
  obtain⟨u',hu',ru⟩:=rv.get hv
  have eu:u'=u:=by
   have hu2:its[i]?=some u:=by simpa using hu
   rw[hu']at hu2
   exact Option.some.inj hu2
  subst eu
  have hget2:h2.get? s.heap.objs.size=some {cls:=.type "tuple",data:=.seq #[.int i tk,u']}:=(hs2.2 _ hT).trans hget
  have new:ObjOk X.prog X.w (upd H s.heap.objs.size (.tup [.int i,xs[i]])) h2 s.heap.objs.size (.tup [.int i,xs[i]]):=⟨by have:=line1000;simp;omega,[.int i tk,u'],.cons ⟨tk,rfl⟩ (.cons ru .nil),_,hget2,rfl,_,rfl⟩
  refine⟨.ref s.heap.objs.size,upd H s.heap.objs.size (.tup [.int i,xs[i]]),I.call' (s':={s with heap:=h2,toks:=tk+1}) (ch:=[e,it]) rfl (un.track (Nat.le_refl _) hn) (hok.track hn new) I.bare (fun b hb=>?_),rfl,⟨_,_,hn,hv,rfl,rfl⟩,?_,fun b hb=>?_⟩
  ·exact (hf b hb).ch
  ·refine⟨u',by simpa using he2,?_⟩
   exact hst'.1.at fun o q=>(hs2.2 it (Ne.symm hei)).trans q
  ·have hb':=hf b hb
   have:∃o,s.heap.get? b=some o:=by
    rcases List.mem_cons.mp hb with rfl|hb
    ·exact⟨_,he⟩
    ·rw[List.mem_singleton.mp hb]
     obtain⟨o,ho,_⟩:=hit
     exact⟨o,ho⟩
   obtain⟨o,ho⟩:=this
   rw[upd_ne (Nat.ne_of_lt (Heap.lt_size ho))]
   exact hb'.1
 done:=by
  intro X hP hw hK hc i pins s σ H E I hf st hg
  subst hP hw hK
  obtain⟨hi,hq⟩:=hg
  subst hi
  obtain⟨old,he,hit⟩:=st
  obtain⟨its,rv,p,hz⟩:=I.tuple hq
  have hl:=rv.length
  have pt:s.heap.IsTuple a its.toArray:=p
  have Dw:=Draws.tuple (prog:=X.prog) (w:=X.w) (A:=X.A.in1) (I.ok.hd hc) it a hai its.toArray
  obtain⟨f0,f1,f2,f3,f4,f5⟩:=hf it (by simp)
  refine wpAny_pyNext_enum_endD Dw he ⟨by rw[List.size_toArray,<-hl];exact hit,pt⟩ fun h' eb=>⟨rfl,I.turned (t':=s.toks) (fun b o hb e=>eb b o hb e) f0 f1 f3 f4 f5⟩
 self:=fun A i s Q E st h=>by
  obtain⟨old,he,_⟩:=st
  exact wpAny_pyIter_enum he h
def iEnumT (K:PySem.W.Frag)(tl:TE):TI:=fun σ H R=>tl σ H fun x H1=>∃a xs,x=.ref a/\SqT K H1 a xs/\R (Itn K a xs) H1
theorem r_iEnumT {K:PySem.W.Frag}{te:TE}{σ:St}{H:Hp}{Z:It->Hp->Prop}:iEnumT K te σ H Z=te σ H fun x H1=>∃a xs,x=.ref a/\SqT K H1 a xs/\Z (Itn K a xs) H1:=rfl
theorem r_gTup {K:PySem.W.Frag}{n:Nat}{t:TGs}{v:V}{σ:St}{H:Hp}{N:St->Hp->Prop}:gTup K n t v σ H N=∃a xs,v=.ref a/\SqT K H a xs/\xs.length=n/\t xs σ H N:=rfl
theorem r_gCons {t:TG}{u:TGs}{vs:List V}{σ:St}{H:Hp}{N:St->Hp->Prop}:gCons t u vs σ H N=∃v r,vs=v::r/\t v σ H fun σ' H'=>u r σ' H' N:=rfl
theorem r_gNil {vs:List V}{σ:St}{H:Hp}{N:St->Hp->Prop}:gNil vs σ H N=(vs=[]/\N σ H):=rfl
theorem pi_enumT {X:Cx}{elts:List Expr}{x1}{tpos:Pos}{e:Expr}{te:TE}{p pos:Pos}(hg:Gl X "enumerate")(hm:X.mg "enumerate"=none)(he:PE X e te)(hs:starEach [e] X.env=[(false,eval e X.env)]:=by rfl):PI X (.Tuple elts x1 tpos) (.Call (.Name "enumerate" p) [e] [] pos) (iEnumT X.K te):=by
 intro pins s σ H R I h
 refine Call_ (ld_blt I hg hm boot_enumerate (PyProof.Rows.callWith_type1 (thn (pa_cons he pa_nil hs pos pins s σ H (fun vs H1=>∃a xs,vs=[.ref a]/\SqT X.K H1 a xs/\R (Itn X.K a xs) H1) I ?_) fun us s1 ⟨vs,H1,I1,r1,q1⟩=>?_) hs rfl))
 ·show te σ H _
  have:(fun x H1=>∃a xs,x=V.ref a/\SqT X.K H1 a xs/\R (Itn X.K a xs) H1)=(fun x H1=>tNil σ H1 fun xs H2=>∃a ys,x::xs=[V.ref a]/\SqT X.K H2 a ys/\R (Itn X.K a ys) H2):=by
   funext x H1
   simp[tNil]
  rw[<-this]
  exact h
 ·obtain⟨a,xs,rfl,hq,q⟩:=q1
  cases r1 with
  |cons r rr=>
   cases rr
   cases r
   obtain⟨its,rv,p,hz⟩:=I1.tuple hq
   have pt:s1.heap.IsTuple a its.toArray:=p
   obtain⟨oa,hoa,_⟩:=id pt
   have ha:=Heap.lt_size hoa
   refine call_enumerate_tuple pt fun h' he' hit' hsz hk=>?_
   refine wpAny_pyIter_enum (s:={s1 with heap:=h' }) he' ?_
   have I2:Inv X pins σ H1 {s1 with heap:=h' }:=I1.kept (t':=s1.toks) hk
   refine⟨s1.heap.objs.size+1,[s1.heap.objs.size+1,s1.heap.objs.size],_,_,H1,rfl,I2,turn_enumT a (s1.heap.objs.size+1) s1.heap.objs.size (Nat.succ_ne_self _) (Nat.ne_of_lt ha) (Nat.ne_of_lt (Nat.lt_succ_of_lt ha)) xs,⟨_,he',hit'⟩,fun b hb=>?_,q⟩
   have hle:s1.heap.objs.size<=b:=by
    rcases List.mem_cons.mp hb with rfl|hb
    ·omega
    ·rw[List.mem_singleton.mp hb];exact Nat.le_refl _
   exact I1.fpOk hle (I1.hok.fresh hle)
theorem forN {K:PySem.W.Frag}{a:Addr}{xs:List V}{g:TG}{tb:TS}{D:Ends}{σ:St}{H:Hp}(Pv:Nat->St->Hp->Prop)(h0:Pv 0 σ H)(hl:∀i σ H,i<=xs.length->Pv i σ H->SqT K H a xs)
  (hs:∀i v σ H t,xs[i]?=some v->Pv i σ H->H t=none->g (.ref t) σ (upd H t (.tup [.int i,v])) fun σ2 H2=>tb {D with nx:=Pv (i+1),ct:=Pv (i+1),bk:=D.nx} σ2 H2) (hd:∀σ H,Pv xs.length σ H->D.nx σ H):ForW (Itn K a xs) g tb D σ H:=by
 refine⟨fun i m σ H=>m=xs.length-i/\i<=xs.length/\Pv i σ H,⟨xs.length,by simp,Nat.zero_le _,h0⟩,?_⟩
 rintro i m σ H ⟨rfl,hi,p⟩
 by_cases hlt:i<xs.length
 ·refine .inr ⟨⟨hlt,hl i σ H hi p⟩,Pv (i+1),fun σ' H' p'=>⟨xs.length-(i+1),by omega,rfl,hlt,p'⟩,fun x H' y=>?_⟩
  obtain⟨t,v,hn,hv,rfl,rfl⟩:=y
  exact hs i v σ H t hv p hn
 ·have e:i=xs.length:=by omega
  subst e
  exact .inl ⟨⟨rfl,hl _ σ H hi p⟩,hd σ H p⟩
section
variable {td ty tv tx:TE} {D:Ends} {σ:St} {H:Hp} {Q:VK}
theorem r_dget:tDGet td ty σ H Q=td σ H fun x H1=>ty σ H1 fun y H2=>∃a v,x=.ref a/\DGet H2 a y (some v)/\Q v H2:=rfl
theorem r_dnotin:tDNotIn ty td σ H Q=ty σ H fun y H1=>td σ H1 fun x H2=>∃a o,x=.ref a/\DGet H2 a y o/\Q (.bl (!o.isSome)) H2:=rfl
theorem r_dput:sDPut td ty tv D σ H=tv σ H fun v H1=>td σ H1 fun x H2=>ty σ H2 fun y H3=>∃a H4,x=.ref a/\DPut H3 a y v H4/\D.nx σ H4:=rfl
theorem r_dget1:tDGet1 td ty σ H Q=td σ H fun x H1=>∃a,x=.ref a/\IsD H1 a/\ty σ H1 fun y H2=>∃o,DGet H2 a y o/\Q (o.getD .non) H2:=rfl
theorem r_disp {trs:List (TE×TE)}:tDisp trs σ H Q=∀p,H p=none->tPairs trs σ (upd H p (.dK [])) fun ps H2=>H2 p=some (.dK [])/\∃kvs:List (Key×V),ps=kvs.map (fun kv=>(kV kv.1,kv.2))/\kvs.length<=15/\Q (.ref p) (upd H2 p (.dK (mergeK [] kvs))):=rfl
theorem r_pairs0 {R:List (V×V)->Hp->Prop}:tPairs [] σ H R=R [] H:=rfl
theorem r_pairs1 {r:List (TE×TE)}{R:List (V×V)->Hp->Prop}:tPairs ((td,tv)::r) σ H R=td σ H fun x H1=>tv σ H1 fun y H2=>tPairs r σ H2 fun ps H3=>R ((x,y)::ps) H3:=rfl
end
end L2
namespace GW
def addRow (w:List Int):List (Int×List Int)->Nat->List Int->List (Int×List Int)
 |ents,_,[]=>ents
 |ents,x,g::r=>addRow w (if g∈ents.map (·.1) then ents else ents++[(g,w++[(x:Int)])]) (x+1) r
def bfs (ways:List (List Int)):Nat->List (Int×List Int)->Nat->List (Int×List Int)
 |0,ents,_=>ents
 |f+1,ents,i=>match ents[i]? with
  |none=>ents
  |some e=>bfs ways f (addRow e.2 ents 0 (ways.getD e.1.toNat [])) (i+1)
def wordsIn (ways:List (List Int)):List (Int×List Int):=bfs ways (ways.length+1) [(0,[])] 0
theorem bfs_stop {ways:List (List Int)}{ents:List (Int×List Int)}{i:Nat}(h:ents[i]?=none):∀f,bfs ways f ents i=ents
 |0=>rfl
 |f+1=>by rw[bfs,h]
theorem bfs_step {ways:List (List Int)}{ents:List (Int×List Int)}{i:Nat}{e:Int×List Int}(h:ents[i]?=some e)(f:Nat):bfs ways (f+1) ents i=bfs ways f (addRow e.2 ents 0 (ways.getD e.1.toNat [])) (i+1):=by rw[bfs,h]
theorem nodup_len:∀(n:Nat) {l:List Int},l.Nodup->(∀x∈l,0<=x/\x<(n:Int))->l.length<=n
 |0,l,_,h=>by
  cases l with
  |nil=>simp
  |cons x r=>have:=h x List.mem_cons_self;omega
 |n+1,l,hn,h=>by
  by_cases hm:(n:Int)∈l
  ·have e:=List.length_erase_of_mem hm
   have:=nodup_len n (l:=l.erase (n:Int)) (hn.erase _) (fun x hx=>by
    have h1:=(hn.mem_erase_iff).mp hx
    have h2:=h x h1.2
    have h3:=h1.1
    omega)
   omega
  ·have:=nodup_len n hn (fun x hx=>by
    have h2:=h x hx
    have:x≠n:=fun z=>hm (z ▸ hx)
    omega)
   omega
structure Bfs (L:Int)(n:Nat)(ways:List (List Int))(ents:List (Int×List Int))(i:Nat)(top:Int):Prop where
 hd:ents[0]?=some (0,[])
 il:i<=ents.length
 sh:∀(j:Nat) (e:Int×List Int),ents[j]?=some e->e.2.length<=j
 nod:(ents.map (·.1)).Nodup
 rng:∀e∈ents,0<=e.1/\e.1<(n:Int)
 wd:∀e∈ents,isW L e.2=true/\walkW ways e.2=e.1
 inc:∀(j k:Nat) (a b:Int×List Int),j<k->ents[j]?=some a->ents[k]?=some b->place L a.2<place L b.2
 bnd:∀e∈ents,place L e.2<top
 don:∀j,j<i->∀e,ents[j]?=some e->∀x:Int,0<=x->x<L->∃e'∈ents,e'.1=stepW ways e.1 x/\place L e'.2<=place L (e.2++[x])
theorem Bfs.len {L:Int}{n:Nat}{ways:List (List Int)}{ents:List (Int×List Int)}{i:Nat}{top:Int}(h:Bfs L n ways ents i top):ents.length<=n:=by
 have:=nodup_len n h.nod (fun x hx=>by
  obtain⟨e,he,rfl⟩:=List.mem_map.mp hx
  exact h.rng e he)
 simpa using this
theorem Bfs.start (L:Int){n:Nat}(hn:1<=n)(ways:List (List Int)):Bfs L n ways [(0,[])] 0 1:=by
 refine⟨rfl,by simp,(fun j e he=>by cases j with|zero=>(simp at he;subst he;simp)|succ j=>simp at he),by simp,fun e he=>?_,fun e he=>?_,fun j k a b h h1 h2=>?_,fun e he=>?_,fun j hj=>absurd hj (Nat.not_lt_zero _)⟩
 ·simp at he;subst he;simp;omega
 ·simp at he;subst he;exact⟨rfl,rfl⟩
 ·have:=(List.getElem?_eq_some_iff.mp h2).1;simp at this;omega
 ·simp at he;subst he;simp[place,placeR]
theorem Bfs.add {L:Int}(hL:0<L){n:Nat}{ways:List (List Int)}{ents:List (Int×List Int)}{i:Nat}{top:Int}(h:Bfs L n ways ents i top){w:List Int}{r x g:Int}(hw:(r,w)∈ents)(hx:0<=x/\x<L)(ht:top<=place L w*L+x+1)
  (hg:g=stepW ways r x) (hgr:0<=g/\g<(n:Int)) (hno:g∉ents.map (·.1)):Bfs L n ways (ents++[(g,w++[x])]) i (place L w*L+x+2):=by
 obtain⟨v1,v2⟩:=h.wd _ hw
 have hp:=place_snoc L w x
 have hlen:0<ents.length:=by have:=(List.getElem?_eq_some_iff.mp h.hd).1;omega
 refine⟨?_,by have:=h.il;simp;omega,fun j e he=>?_,?_,fun e he=>?_,fun e he=>?_,fun j k a b hjk h1 h2=>?_,fun e he=>?_,fun j hj e he y hy0 hy1=>?_⟩
 ·rw[List.getElem?_append_left hlen];exact h.hd
 ·have hj:=(List.getElem?_eq_some_iff.mp he).1
  rw[List.length_append,List.length_singleton]at hj
  by_cases hjl:j<ents.length
  ·rw[List.getElem?_append_left hjl]at he
   exact h.sh j e he
  ·have e1:j=ents.length:=by omega
   subst e1
   rw[List.getElem?_append_right (Nat.le_refl _),Nat.sub_self]at he
   simp at he
   subst he
   obtain⟨j',hj',ej⟩:=List.getElem_of_mem hw
   have:=h.sh j' (r,w) (by rw[List.getElem?_eq_getElem hj',ej])
   have this':w.length<=j':=this
   show (w++[x]).length<=ents.length
   simp;omega
 ·rw[List.map_append,List.nodup_append]
  refine⟨h.nod,by simp,fun a ha b hb=>?_⟩
  simp at hb
  subst hb
  exact fun z=>hno (z ▸ ha)
 ·rcases List.mem_append.mp he with he|he
  ·exact h.rng e he
  ·rw[List.mem_singleton.mp he];exact hgr
 ·rcases List.mem_append.mp he with he|he
  ·exact h.wd e he
  ·rw[List.mem_singleton.mp he]
   refine⟨?_,?_⟩
   ·rw[isW_iff]at v1 ⊢
    intro z hz
    rcases List.mem_append.mp hz with hz|hz
    ·exact v1 z hz
    ·rw[List.mem_singleton.mp hz];exact hx
   ·show walkW ways (w++[x])=g
    rw[walkW_snoc]
    have v2':walkW ways w=r:=v2
    rw[v2',hg]
 ·have hk:=(List.getElem?_eq_some_iff.mp h2).1
  rw[List.length_append,List.length_singleton]at hk
  by_cases hkl:k<ents.length
  ·rw[List.getElem?_append_left hkl]at h2
   rw[List.getElem?_append_left (by omega)]at h1
   exact h.inc j k a b hjk h1 h2
  ·have hke:k=ents.length:=by omega
   subst hke
   rw[List.getElem?_append_left (by omega)]at h1
   rw[List.getElem?_append_right (Nat.le_refl _),Nat.sub_self]at h2
   simp at h2
   subst h2
   have:=h.bnd a (List.mem_of_getElem? h1)
   show place L a.2<place L (w++[x])
   rw[hp];omega
 ·rcases List.mem_append.mp he with he|he
  ·have:=h.bnd e he;omega
  ·rw[List.mem_singleton.mp he]
   show place L (w++[x])<_
   rw[hp];omega
 ·have hjl:j<ents.length\/j=ents.length:=by
   have:=(List.getElem?_eq_some_iff.mp he).1
   rw[List.length_append,List.length_singleton]at this
   omega
  rcases hjl with hjl|hjl
  ·rw[List.getElem?_append_left hjl]at he
   obtain⟨e',m,q⟩:=h.don j hj e he y hy0 hy1
   exact⟨e',List.mem_append_left _ m,q⟩
  ·exact absurd hjl (by have:=h.il;omega)
theorem Bfs.up {L:Int}{n:Nat}{ways:List (List Int)}{ents:List (Int×List Int)}{i:Nat}{top top':Int}(h:Bfs L n ways ents i top)(ht:top<=top'):Bfs L n ways ents i top' :=
 ⟨h.hd,h.il,h.sh,h.nod,h.rng,h.wd,h.inc,fun e he=>Int.lt_of_lt_of_le (h.bnd e he) ht,h.don⟩
def Seen (L:Int)(ways:List (List Int))(ents:List (Int×List Int))(r:Int)(w:List Int)(x:Nat):Prop:=∀y:Int,0<=y->y<x->∃e'∈ents,e'.1=stepW ways r y/\place L e'.2<=place L (w++[y])
theorem Bfs.letter {L:Int}(hL:0<L){n:Nat}{ways:List (List Int)}{ents:List (Int×List Int)}{i x:Nat}{w:List Int}{r g:Int}(h:Bfs L n ways ents i (place L w*L+x+1))(hs:Seen L ways ents r w x)(hw:(r,w)∈ents)(hx:(x:Int)<L)
  (hg:g=stepW ways r x) (hgr:0<=g/\g<(n:Int)):Bfs L n ways (if g∈ents.map (·.1) then ents else ents++[(g,w++[(x:Int)])]) i (place L w*L+((x+1:Nat):Int)+1)/\Seen L ways (if g∈ents.map (·.1) then ents else ents++[(g,w++[(x:Int)])]) r w (x+1):=by
 by_cases hm:g∈ents.map (·.1)
 ·rw[if_pos hm]
  refine⟨h.up (by push_cast;omega),fun y hy0 hy1=>?_⟩
  by_cases hyx:y<x
  ·exact hs y hy0 hyx
  ·have e:y=x:=by push_cast at hy1;omega
   subst e
   obtain⟨e',he',e1⟩:=List.mem_map.mp hm
   refine⟨e',he',by rw[<-hg];exact e1,?_⟩
   have:=h.bnd e' he'
   rw[place_snoc];omega
 ·rw[if_neg hm]
  refine⟨(h.add hL hw ⟨by omega,hx⟩ (Int.le_refl _) hg hgr hm).up (by push_cast;omega),fun y hy0 hy1=>?_⟩
  by_cases hyx:y<x
  ·obtain⟨e',m,q⟩:=hs y hy0 hyx
   exact⟨e',List.mem_append_left _ m,q⟩
  ·have e:y=x:=by push_cast at hy1;omega
   subst e
   exact⟨_,List.mem_append_right _ List.mem_cons_self,hg,Int.le_refl _⟩
theorem Bfs.next {L:Int}(hL:0<L){n i m:Nat}{ways:List (List Int)}{ents:List (Int×List Int)}{w:List Int}{r:Int}(h:Bfs L n ways ents i (place L w*L+m+1))(hm:(m:Int)=L)(hs:Seen L ways ents r w m)(hw:ents[i]?=some (r,w)):
  Bfs L n ways ents (i+1) (place L w*L+L+1)/\∀e,ents[i+1]?=some e->place L w*L+L+1<=place L e.2*L+1:=by
 have hi:=(List.getElem?_eq_some_iff.mp hw).1
 rw[hm]at h
 refine⟨⟨h.hd,hi,h.sh,h.nod,h.rng,h.wd,h.inc,h.bnd,fun j hj e he x h0 h1=>?_⟩,fun e he=>?_⟩
 ·by_cases hji:j<i
  ·exact h.don j hji e he x h0 h1
  ·have e1:j=i:=by omega
   subst e1
   rw[hw]at he
   cases he
   exact hs x h0 (by omega)
 ·have:=h.inc i (i+1) _ _ (Nat.lt_succ_self _) hw he
  have h2:=Int.mul_le_mul_of_nonneg_right (show place L w+1<=place L e.2 from this) (Int.le_of_lt hL)
  rw[Int.add_mul]at h2
  omega
theorem addRow_nil (w:List Int)(ents:List (Int×List Int))(x:Nat):addRow w ents x []=ents:=rfl
theorem addRow_cons (w:List Int)(ents:List (Int×List Int))(x:Nat)(g:Int)(r:List Int):addRow w ents x (g::r)=addRow w (if g∈ents.map (·.1) then ents else ents++[(g,w++[(x:Int)])]) (x+1) r:=rfl
theorem letter_keep {ents:List (Int×List Int)}{g:Int}{v:List Int}{i:Nat}{e:Int×List Int}(h:ents[i]?=some e):(if g∈ents.map (·.1) then ents else ents++[(g,v)])[i]?=some e:=by
 split
 ·exact h
 ·rw[List.getElem?_append_left (List.getElem?_eq_some_iff.mp h).1];exact h
end GW
namespace L2
open PySem PySem.Spec PyProof.Rows
def ups (n:Nat):List Int:=(List.range n).map fun i:Nat=>(i:Int)
def tListRng (te:TE):TE:=fun σ H Q=>te σ H fun x H1=>∃j:Int,x=.int j/\0<=j/\j<=100000/\∀p,H1 p=none->Q (.ref p) (upd H1 p (.lst ((ups j.toNat).map V.int)))
theorem r_listRng {te:TE}{σ:St}{H:Hp}{Q:VK}:tListRng te σ H Q=te σ H fun x H1=>∃j:Int,x=.int j/\0<=j/\j<=100000/\∀p,H1 p=none->Q (.ref p) (upd H1 p (.lst ((ups j.toNat).map V.int))):=rfl
theorem items_ups {n:Nat}{acc:Array Value}(h:ItemsOf (fun i v=>∃t,v=.int ((0:Int)+(i:Nat)*1) t) acc n):Vals ((ups n).map V.int) acc.toList:=by
 have hs:=h.1
 have key:∀(l:List Value) (k:Nat),(∀i v,l[i]?=some v->∃t,v=Value.int ((k+i:Nat):Int) t)->Vals (((List.range l.length).map fun i=>((k+i:Nat):Int)).map V.int) l:=by
  intro l
  induction l with
  |nil=>intro k _;exact .nil
  |cons u r ih=>
   intro k hk
   rw[List.length_cons,List.range_succ_eq_map,List.map_cons,List.map_cons]
   refine .cons ?_ ?_
   ·obtain⟨t,e⟩:=hk 0 u (by simp)
    exact⟨t,by simpa using e⟩
   ·have:=ih (k+1) (fun i v hv=>by
     obtain⟨t,e⟩:=hk (i+1) v (by simpa using hv)
     exact⟨t,by rw[e];congr 1;push_cast;omega⟩)
    have e:((List.map Nat.succ (List.range r.length)).map fun i=>((k+i:Nat):Int))=((List.range r.length).map fun i=>((k+1+i:Nat):Int)):=by
     rw[List.map_map]
     apply List.map_congr_left
     intro i _
     show ((k+(i+1):Nat):Int)=_
     congr 1;omega
    rw[e]
    exact this
 have:=key acc.toList 0 (fun i v hv=>by
  obtain⟨t,e⟩:=h.2 i v (by simpa using hv)
  exact⟨t,by rw[e];congr 1;push_cast;omega⟩)
 have hl:acc.toList.length=n:=by simpa using hs
 rw[hl]at this
 have e2:((List.range n).map fun i=>((0+i:Nat):Int))=ups n:=by
  unfold ups
  apply List.map_congr_left
  intro i _
  congr 1;omega
 rw[e2]at this
 exact this
theorem pe_listRng {X:Cx}{e:Expr}{te:TE}{p p2 pos pos2:Pos}(hc:X.calm=true)(hg:Gl X "list")(hm:X.mg "list"=none)(hg2:Gl X "range")(hm2:X.mg "range"=none)(he:PE X e te)
  (hs1:starEach [.Call (.Name "range" p2) [e] [] pos2] X.env=[(false,eval (.Call (.Name "range" p2) [e] [] pos2) X.env)]:=by rfl) (hs:starEach [e] X.env=[(false,eval e X.env)]:=by rfl):
  PE X (.Call (.Name "list" p) [.Call (.Name "range" p2) [e] [] pos2] [] pos) (tListRng te):=by
 intro pins s σ H Q I h
 refine wpAny_Call_Name_kw (ld_blt I hg hm boot_list ?_)
 refine PyProof.Rows.callWith_type1 ?_ hs1 rfl
 rw[hs1]
 refine Calls.spliced_cons ?_
 refine Call_ (ld_blt I hg2 hm2 boot_range (PyProof.Rows.callWith_type1 (thn (pa_cons he pa_nil hs pos2 pins s σ H (fun vs H1=>∃j:Int,vs=[.int j]/\0<=j/\j<=100000/\∀p,H1 p=none->Q (.ref p) (upd H1 p (.lst ((ups j.toNat).map V.int)))) I ?_) fun us s1 ⟨vs,H1,I1,r1,q1⟩=>?_) hs rfl))
 ·show te σ H _
  have:(fun x H1=>∃j:Int,x=V.int j/\0<=j/\j<=100000/\∀p,H1 p=none->Q (.ref p) (upd H1 p (.lst ((ups j.toNat).map V.int))))=(fun x H1=>tNil σ H1 fun xs H2=>∃j:Int,x::xs=[V.int j]/\0<=j/\j<=100000/\∀p,H2 p=none->Q (.ref p) (upd H2 p (.lst ((ups j.toNat).map V.int)))):=by
   funext x H1
   simp[tNil]
  rw[<-this]
  exact h
 ·obtain⟨j,rfl,h0,h1,q⟩:=q1
  cases r1 with
  |cons r rr=>
   cases rr
   obtain⟨t,rfl⟩:=r
   refine call_range_1 ?_
   refine Calls.spliced_nil ?_
   refine call_list_range (n:=j.toNat) (I.ok.hd hc) (IsRange.new ..) (small_one (by omega) (by omega) (by omega) (by omega)) ?_ (by omega) fun h' tk acc' c' hk hS hacc=>?_
   ·rw[rangeSize_one];split<;>omega
   ·have kp:∀b o,s1.heap.get? b=some o->h'.get? b=some o:=fun b o e=>hk b o (Heap.get?_push_of_some _ e)
    have hz:(ups j.toNat).length=j.toNat:=by simp[ups]
    have hl:=line1000
    refine⟨.ref _,_,I1.laid (t':=tk) kp (by rw[Heap.size_push];exact Nat.le_succ _) (show ObjOk X.prog X.w _ h' _ (.lst ((ups j.toNat).map V.int)) from ⟨by rw[List.length_map,hz];omega,acc'.toList,c',items_ups hacc,by simpa using hS⟩),rfl,q _ (I1.hok.fresh (by rw[Heap.size_push];exact Nat.le_succ _))⟩
def tDisp1 (tk tv:TE):TE:=tDisp [(tk,tv)]
theorem pe_disp1 {X:Cx}{pos:Pos}{k v:Expr}{tk tv:TE}(hk:PE X k tk)(hv:PE X v tv):PE X (.Dict [some k] [v] pos) (tDisp1 tk tv):=pe_disp (pps_cons hk hv pps_nil) rfl rfl (by intro z;cases z) (by show 1<=15;decide)
theorem r_disp1 {tk tv:TE}{σ:St}{H:Hp}{Q:VK}:tDisp1 tk tv σ H Q=∀p,H p=none->tk σ (upd H p (.dK [])) fun x H1=>tv σ H1 fun y H2=>H2 p=some (.dK [])/\∃kvs:List (Key×V),[(x,y)]=kvs.map (fun kv=>(kV kv.1,kv.2))/\kvs.length<=15/\Q (.ref p) (upd H2 p (.dK (mergeK [] kvs))):=rfl
theorem ps_setD {X:Cx}{i:Nat}{x:Str}{k v:Expr}{tk tv:TE}{pos pos' dpos:Pos}(hN:X.N.Nodup)(hi:X.N[i]?=some x)(hx:Loc X.env.scope x)(hk:PE X k tk)(hv:PE X v tv)(hs:swapsWith (.Dict [some k] [v] dpos) (some (.Name x pos')) pos.line X.env=pure false)
  (hf:X.fn x=true\/X.env.scope.names.lookup x=some .local):PS X (.Assign [.Name x pos'] (.Dict [some k] [v] dpos) pos) (tAsg (tDisp1 tk tv) (gName i)):=ps_set hN hi hx (pe_disp1 hk hv) hs hf
end L2
namespace L2
open PySem GW
def mkW (marks:List Int)(r:Int):Int:=marks.getD r.toNat 0
theorem mkW_in {marks:List Int}{r:Int}(h0:0<=r)(h1:r<marks.length):mkW marks r∈marks:=by
 have hlt:r.toNat<marks.length:=by omega
 unfold mkW
 rw[List.getD_eq_getElem?_getD,List.getElem?_eq_getElem hlt]
 exact List.getElem_mem hlt
theorem mkW_at {marks:List Int}{r:Int}(h0:0<=r)(h1:r<marks.length):atI (marks.map V.int) r=some (V.int (mkW marks r)):=by
 have hlt:r.toNat<marks.length:=by omega
 refine atI_int h0 ?_
 unfold mkW
 rw[List.getD_eq_getElem?_getD,List.getElem?_eq_getElem hlt];rfl
end L2
namespace GW
theorem Bfs.least {L:Int}{n:Nat}{ways:List (List Int)}{top:Int}{ents:List (Int×List Int)}(h:Bfs L n ways ents ents.length top){ws:List Int}(hv:isW L ws=true):∀i,i<=ws.length->∃w',(walkW ways (ws.take i),w')∈ents/\place L w'<=place L (ws.take i)
 |0,_=>⟨[],by simpa [walkW] using List.mem_of_getElem? h.hd,by simp⟩
 |i+1,hi=>by
  obtain⟨w',m,hp⟩:=Bfs.least h hv i (by omega)
  have hwi:ws[i]?=some ws[i]:=by simp
  have hin:=isW_iff.mp hv ws[i] (List.getElem_mem _)
  obtain⟨j,hj,ej⟩:=List.getElem_of_mem m
  obtain⟨e',me,e1,e2⟩:=h.don j hj _ (by rw[List.getElem?_eq_getElem hj,ej]) ws[i] hin.1 hin.2
  obtain⟨g,v⟩:=e'
  have e1:g=stepW ways (walkW ways (ws.take i)) ws[i]:=e1
  have e2:place L v<=place L (w'++[ws[i]]):=e2
  have et:ws.take (i+1)=ws.take i++[ws[i]]:=by rw[List.take_add_one,hwi];rfl
  have hL:0<=L:=by omega
  refine⟨v,?_,?_⟩
  ·rw[et,walkW_snoc,<-e1];exact me
  ·rw[et]
   rw[place_snoc]at e2 ⊢
   have:=Int.mul_le_mul_of_nonneg_right hp hL
   omega
end GW
namespace L2
open PySem PySem.Spec PyProof.Rows
theorem Vals.ofIx:∀{xs:List V} {us:List Value},us.length=xs.length->(∀(i:Nat) (v:Value),us[i]?=some v->∃x,xs[i]?=some x/\RelV x v)->Vals xs us
 |[],[],_,_=>.nil
 |[],_::_,h,_=>by simp at h
 |_::_,[],h,_=>by simp at h
 |x::xs,u::us,h,k=>by
  refine .cons ?_ (Vals.ofIx (by simpa using h) fun i v hv=>?_)
  ·obtain⟨y,e,r⟩:=k 0 u rfl
   cases e
   exact r
  ·obtain⟨y,e,r⟩:=k (i+1) v (by simpa using hv)
   exact⟨y,by simpa using e,r⟩
theorem keyIs_rel {k:Key}{v:Value}(h:keyIs k v=true):RelV (kV k) v:=by
 rcases keyIs_shape h with ⟨i,t,rfl,e⟩|⟨x,t,rfl,e⟩
 ·exact⟨t,e⟩
 ·exact⟨t,e⟩
theorem call_list_dict {X:Cx}(hc:X.calm=true):CallR X (.type "list") (fun xs H Q=>∃p kvs,xs=[.ref p]/\H p=some (.dK kvs)/\∀l,H l=none->Q (.ref l) (upd H l (.lst (kvs.map fun kv=>kV kv.1)))):=by
 intro pins s σ H xs us Q I r h
 obtain⟨p,kvs,rfl,hp,q⟩:=h
 obtain⟨u,rfl,rx⟩:=vals1 r
 cases rx
 obtain⟨hz,hS,vs,rr,m⟩:=dk_of I.hok hp
 obtain⟨ep,hat⟩:=m.dictAt
 have hlen:=rr.length
 have hks:=rr.keys
 refine PySem.W.kdl_call (PySem.W.kdl_dict (knd:=mixKind X.prog X.w) (kvs:=vs) (ep:=ep) hS) (I.ok.hd hc) hat (by omega) fun h' tk acc' c' hk hD hacc=>?_
 have hv:Vals (kvs.map fun kv=>kV kv.1) acc'.toList:=by
  refine Vals.ofIx (by rw[List.length_map,hlen];simpa using hacc.1) fun i v hv=>?_
  obtain⟨k,x,hx,hki⟩:=hacc.2 i v (by simpa using hv)
  refine⟨kV k,?_,keyIs_rel hki⟩
  have e1:(kvs.map (·.1))[i]?=some k:=by rw[hks,List.getElem?_map,hx];rfl
  rw[List.getElem?_map]at e1 ⊢
  cases hq:kvs[i]? with
  |none=>rw[hq]at e1;cases e1
  |some kv=>rw[hq]at e1;cases e1;rfl
 exact⟨.ref _,_,I.laid (t':=tk) hk (Nat.le_refl _) (show ObjOk X.prog X.w _ h' _ (.lst (kvs.map fun kv=>kV kv.1)) from ⟨by rw[List.length_map];exact hz,acc'.toList,c',hv,by simpa using hD⟩),rfl,q _ (I.hok.fresh (Nat.le_refl _))⟩
end L2
namespace HT
open PySem PyProof.Rows
inductive GeD (A:Around)(s:Shared):List Value->List Value->Bool->Prop
 | eq {v w:Value} {vs ws:List Value} {b:Bool}:SeqAt.EqAt A s v w true->GeD A s vs ws b->GeD A s (v::vs) (w::ws) b
 | ne {v w:Value} {vs ws:List Value} {b:Bool}:SeqAt.EqAt A s v w false->(∀(prog:Program) (wd:World) (E:Value->Shared->Prop) (Q:Value->Shared->Prop),Q (.bool b) s->wpAny (model prog wd) A (richCompare .GtE v w) Q E s)->GeD A s (v::vs) (w::ws) b
section
open PySem.SeqAt
open PySem.AutoSeq1 (wpAny_loadPart')
open PySem.MeetsSeq PySem.MeetsSeq2 PySem.MeetsSeq3
theorem tuple_ge_d (l b:Addr)(items items2:Array Value)(n n2:Nat)(dd dd2:Option Addr)(sl sl2:Array (Option Value))(r:Bool):
  Meets (Builtin.«tuple.__ge__» ⟨[.ref l,.ref b],[]⟩)
   (fun A R s=>s.heap.get? l=some {cls:=.type "tuple",dict:=dd,data:=.seq items n,slots:=sl}/\s.heap.get? b=some {cls:=.type "tuple",dict:=dd2,data:=.seq items2 n2,slots:=sl2} /\
    GeD A.in1 s items.toList items2.toList r/\R (.ok (.ret (.bool r))) s):=
 .of_wp fun prog w A R s h=>by
  obtain⟨hp,g,d,tk,os⟩:=s;obtain⟨hl,hb,hg,h⟩:=h
  have f2:=AutoSeq1.sub_tuple_tuple
  wp_walk using wpAny_loadPart' hl,wpAny_loadPart' hb,wpAny_forIn_list _ (fun rest b s'=>b.1=none/\s'=⟨hp,g,d,tk,os⟩/\∃(vs ws:List Value),rest=vs.zip ws/\GeD A.in1 ⟨hp,g,d,tk,os⟩ vs ws r) _
  case turn=>
   rintro⟨y,x⟩ rest b s' ⟨hb',rfl,vs,ws,hz,hgd⟩
   cases hgd with
   |eq he hgd' =>
    rw[List.zip_cons_cons]at hz
    injection hz with hyx hrest
    injection hyx with hy hx
    subst hy hx
    refine wpAny_bind (he prog w _ _ ?_)
    wp_walk
    exact⟨rfl,rfl,_,_,hrest,hgd'⟩
   |ne he hrc=>
    rw[List.zip_cons_cons]at hz
    injection hz with hyx hrest
    injection hyx with hy hx
    subst hy hx
    refine wpAny_bind (he prog w _ _ ?_)
    have hri:=hrc prog w
    wp_walk using hri
    exact⟨_,rfl,h⟩
  case fin=>
   rintro⟨b1,b2⟩ s' ⟨hb',rfl,vs,ws,hz,hgd⟩
   cases hgd with
   |eq he hgd'=>rw[List.zip_cons_cons]at hz;cases hz
   |ne he hrc=>rw[List.zip_cons_cons]at hz;cases hz
  case h=>
   exact⟨rfl,rfl,items.toList,items2.toList,rfl,hg⟩
end
theorem ge_tupD {A:Around}{s:Shared}{l b:Addr}{items items2:Array Value}{r:Bool}(hl:IsTup s.heap l items)(hb:IsTup s.heap b items2)(hg:GeD A.in1 s items.toList items2.toList r)(hu:A.units<cLine)
  (prog:Program) (w:World) (E Q:Value->Shared->Prop) (h:Q (.bool r) s):wpAny (model prog w) A (richCompare .GtE (.ref l) (.ref b)) Q E s:=by
 obtain⟨⟨cls,dd,data,sl⟩,ho,hc,n,hd⟩:=id hl
 obtain⟨⟨cls2,dd2,data2,sl2⟩,ho2,hc2,n2,hd2⟩:=id hb
 simp only at hc hd hc2 hd2
 subst hc hd hc2 hd2
 exact richCompare_meets_room (op:=.GtE) ⟨_,ho,rfl⟩ ⟨_,ho2,rfl⟩ PySem.F.slot_tuple_ge PySem.F.entry_tuple_ge (PySem.F.args_tuple_ge_2 _ _) (tuple_ge_d l b items items2 n n2 dd dd2 sl sl2 r)
  ⟨ho,ho2,hg,show Value.bool r≠Value.notImplemented/\Q (.bool r) s from ⟨(fun x=>nomatch x),h⟩⟩ hu
theorem rcGe_int (A:Around)(s:Shared)(a:Int)(t:Tok)(c:Int)(u:Tok)(prog:Program)(w:World)(E:Value->Shared->Prop)(Q:Value->Shared->Prop)(h:Q (.bool (decide (c<=a))) s):
  wpAny (model prog w) A (richCompare .GtE (.int a t) (.int c u)) Q E s:=
 (PyProof.Rows.ge_int h:wpAny (model prog w) A (compareOp .GtE (.int a t) (.int c u)) Q E s)
theorem GeD.ints {A:Around}{s:Shared}:∀{vs ws:List Value} {ns ms:List Int},IntsAre vs ns->IntsAre ws ms->ns.length=ms.length->lexLt ns ms=true->GeD A s vs ws false:=by
 intro vs ws ns ms h1
 induction h1 generalizing ws ms with
 |nil=>intro h2 hl hx;cases h2 with
  |nil=>cases hx
  |cons=>cases hl
 |cons a t h1' ih=>intro h2 hl hx;cases h2 with
  |nil=>cases hl
  |cons c u h2' =>
   rw[lexLt_cons]at hx
   obtain⟨e,he,hiff⟩:=eqAt_int A s a t c u
   cases e with
   |true=>
    rw[if_pos (hiff.mp rfl)]at hx
    exact .eq he (ih h2' (by simpa using hl) hx)
   |false=>
    rw[if_neg (fun q=>absurd (hiff.mpr q) Bool.false_ne_true)]at hx
    have hlt:=of_decide_eq_true hx
    refine .ne he fun prog w E Q hq=>rcGe_int A s a t c u prog w E Q ?_
    rw[decide_eq_false (by omega)]
    exact hq
end HT
namespace L2
open PySem PySem.Spec PyProof.Rows
def rGeP (K:PySem.W.Frag):R2:=fun x y H Q=>∃a b n m ta tb xs ys,x=.ref a/\y=.ref b/\SqT K H a [.int n,.ref ta]/\SqT K H b [.int m,.ref tb]/\SqT K H ta (xs.map V.int)/\SqT K H tb (ys.map V.int)/\(n<m\/(n=m/\xs.length=ys.length/\HT.lexLt xs ys=true))/\Q (.bl false) H
theorem r_geP {K:PySem.W.Frag}{x y:V}{H:Hp}{Q:VK}:rGeP K x y H Q=∃a b n m ta tb xs ys,x=.ref a/\y=.ref b/\SqT K H a [.int n,.ref ta]/\SqT K H b [.int m,.ref tb]/\SqT K H ta (xs.map V.int)/\SqT K H tb (ys.map V.int)/\(n<m\/(n=m/\xs.length=ys.length/\HT.lexLt xs ys=true))/\Q (.bl false) H:=rfl
theorem lexLt_irr:∀{xs:List Int},HT.lexLt xs xs=false
 |[]=>rfl
 |x::xs=>by rw[HT.lexLt_cons,if_pos rfl];exact lexLt_irr
theorem op_geP {X:Cx}(hu:X.A.units+8<cLine):OpR X (compareOp .GtE) (rGeP X.K):=by
 intro pins s σ H x y v u Q I rx ry h
 obtain⟨a,b,n,m,ta,tb,xs,ys,rfl,rfl,ha,hb,hta,htb,hc,q⟩:=h
 cases rx
 cases ry
 obtain⟨its,r1,p1,_⟩:=I.tuple ha
 obtain⟨its2,r2,p2,_⟩:=I.tuple hb
 obtain⟨jts,k1,o1,_⟩:=I.tuple hta
 obtain⟨jts2,k2,o2,_⟩:=I.tuple htb
 have i1:IntsAre jts.toArray.toList xs:=intsAre_of k1
 have i2:IntsAre jts2.toArray.toList ys:=intsAre_of k2
 have eqT:=fun (bb:Bool) (he:EqD X.K H 2 (.ref ta) (.ref tb) bb)=>(EqD.at (x:=V.ref ta) (y:=V.ref tb) (u:=Value.ref ta) (v:=Value.ref tb) I 2 X.A.in1 (by rw[in1_units];omega) rfl rfl he).1
 cases r1 with
 |cons e1 r1'=>cases r1' with
  |cons e2 r1''=>cases r1'';cases r2 with
   |cons e3 r2'=>cases r2' with
    |cons e4 r2'' =>
     cases r2''
     obtain⟨t1,rfl⟩:=e1
     obtain⟨t2,rfl⟩:=e3
     cases e2
     cases e4
     refine HT.ge_tupD (r:=false) p1 p2 ?_ (by omega) _ _ _ _ ⟨.bl false,H,I,rfl,q⟩
     obtain⟨e,he,hiff⟩:=HT.eqAt_int X.A.in1 s n t1 m t2
     rcases hc with hc|⟨rfl,hlen,hlex⟩
     ·cases e with
      |true=>have:=hiff.mp rfl;omega
      |false=>
       refine .ne he fun prog w E Q hq=>HT.rcGe_int _ s n t1 m t2 prog w E Q ?_
       rw[decide_eq_false (by omega)]
       exact hq
     ·cases e with
      |false=>exact absurd (hiff.mpr rfl) Bool.false_ne_true
      |true=>
       refine .eq he (.ne (eqT false ?_) ?_)
       ·have:=EqD.ints (K:=X.K) (H:=H) (a:=ta) (c:=tb) (xs:=xs) (ys:=ys) (.inr ⟨hta,htb⟩) 1
        rw[decide_eq_false (fun z=>by subst z;rw[lexLt_irr]at hlex;cases hlex)]at this
        exact this
       ·exact HT.ge_tupD o1 o2 (HT.GeD.ints i1 i2 hlen hlex) (by rw[in1_units];omega)
def rng (i j:Int):List Int:=(List.range (j-i).toNat).map fun k:Nat=>i+(k:Int)
end L2
namespace PySem
open Sem (wp)
def Heap.DEnt (h:Heap)(d:Addr)(es:Array DictEntry)(ep:Nat):Prop:=∃o,h.get? d=some o/\o.ExactDict/\o.data=.dict es ep
section
variable {prog:Program} {w:World} {A:Around} {E:Value->Shared->Prop} {s:Shared} {d it:Addr} {es:Array DictEntry} {i ep:Nat}
theorem Heap.DEnt.typeIs (h:s.heap.DEnt d es ep):s.TypeIs (.ref d) "dict" := let ⟨o,ho,hc,_⟩:=h;⟨o,ho,hc.1⟩
theorem Heap.DEnt.at {h h':Heap}(x:h.DEnt d es ep)(e:∀o,h.get? d=some o->h'.get? d=some o):h'.DEnt d es ep:=let ⟨o,ho,r⟩:=x;⟨o,e _ ho,r⟩
theorem Heap.DEnt.lt_size {h:Heap}(x:h.DEnt d es ep):d<h.objs.size:=let ⟨_,ho,_⟩:=x;Heap.lt_size ho
theorem pyIter_dent {Q:Value->Shared->Prop}(hd:(d==sysModules)=false)(hm:s.heap.DEnt d es ep)
  (hQ:Q (.ref s.heap.objs.size) {s with heap:=s.heap.push {cls:=.type "dict_keyiterator",data:=.fields #[.ref d,.int 0 0,.int es.size 0,.int ep 0]} }):wpAny (model prog w) A (pyIter (.ref d)) Q E s:=by
 have hT:=hm.typeIs
 obtain⟨o,ho,hc,hdat⟩:=id hm
 refine wpAny_pyIter_slot hT F.slot_dict_iter (wpAny_call_entry F.slot_dict_iter hT F.entry_dict_iter (?_:wpAny _ _ (Builtin.«dict.__iter__» _) _ _ s) (F.args_dict_iter_1 _))
 unfold Builtin.«dict.__iter__»;refine wpAny_bind ?_
 unfold Builtin.Dict.dictSlotNone;refine wpAny_bind (wpAny_notOrdered_dict hT ?_)
 show wpAny _ _ (pure (Value.ref d)) _ _ s;refine wpAny_pure ?_
 show wpAny _ _ (Builtin.Dict.showsAll d >>= _) _ _ s;unfold Builtin.Dict.showsAll
 rw[if_neg (fun z=>by rw[hd]at z;cases z)]
 refine wpAny_bind (wpAny_pure (wpAny_bind (wpAny_dictEntries ho hdat (wpAny_bind (wpAny_dictEpoch ho hdat ?_)))))
 refine wpAny_bind (wpAny_newObj_type (wpAny_pure ⟨_,rfl,"dict_keyiterator",_,⟨_,Heap.get?_push_size _ rfl,rfl⟩,F.slot_dict_keyiterator_next.lookup,?_⟩));simpa [rawInt] using hQ
theorem pyNext_dent_item {Q:Option Value->Shared->Prop}(hit:s.heap.IsKeyIter it d i es.size ep)(hm:s.heap.DEnt d es ep)(hlt:i<es.size)
  (hQ:∀h',h'.IsKeyIter it d (i+1) es.size ep->Heap.SameBut it s.heap h'->Q (some es[i].key) {s with heap:=h' }):wpAny (model prog w) A (pyNext (.ref it)) Q E s:=by
 obtain⟨o,ho,hc,hd⟩:=id hit
 obtain⟨od,hod,hcd,hdd⟩:=id hm
 have hown:Builtin.Dict_items.ownsTuple "dict_keyiterator"=false:=by decide
 unfold pyNext
 refine wpAny_bind (wpAny_attempt (wpAny_callSpecial?_slot (name:=Str.ofString "__next__") hit.typeIs F.slot_dict_keyiterator_next (wpAny_call_entry F.slot_dict_keyiterator_next hit.typeIs F.entry_dict_keyiterator_next ?_ (F.args_dict_keyiterator_next_1 _))))
 refine wpAny_bind (wpAny_pure (wpAny_bind (wpAny_bind ?_)))
 first|refine wpAny_bind (wpAny_typeNameOfWhole_keyiter hit.typeIs (wpAny_pure (wpAny_bind (wpAny_fieldsOf ho hd ?_))))|refine wpAny_bind (wpAny_typeNameOf_keyiter hit.typeIs (wpAny_pure (wpAny_bind (wpAny_fieldsOf ho hd ?_))))
 simp only[hown,Bool.false_eq_true,if_false];show wpAny _ _ (if (Value.ref d==Value.none)=true then _ else _) _ _ s
 rw[if_neg (show ¬ ((Value.ref d==Value.none)=true) from fun z=>Bool.false_ne_true z)]
 refine wpAny_bind (wpAny_pure (wpAny_bind (wpAny_dictEntries hod hdd ?_)))
 rw[if_neg (by simp)];refine wpAny_bind (wpAny_pure (wpAny_bind (wpAny_dictEpoch hod hdd ?_)))
 rw[if_neg (by simp)];refine wpAny_pure ?_
 simp only[show ¬ ((i:Int)<0) from by omega,if_false,Int.toNat_natCast,Array.getElem?_eq_getElem hlt];refine wpAny_bind ?_
 first|refine wpAny_bind (wpAny_typeNameOfWhole_keyiter hit.typeIs (wpAny_pure (wpAny_bind (wpAny_isOneOf_keyiter hit.typeIs ?_))))|refine wpAny_bind (wpAny_typeNameOf_keyiter hit.typeIs (wpAny_pure (wpAny_bind (wpAny_isOneOf_keyiter hit.typeIs ?_))))
 show wpAny _ _ (setField (.ref it) 1 (rawInt ((i:Int)+1)) >>= _) _ _ s;refine wpAny_bind (wpAny_setField ho hd (by simp) ?_)
 have hit':(s.heap.update it (Obj.mapFields (·.setIfInBounds 1 (rawInt ((i:Int)+1))))).IsKeyIter it d (i+1) es.size ep:=⟨_,Heap.get?_update_self _ ho (Obj.isFreed_of_fields (Obj.data_mapFields hd _)),(Obj.cls_mapFields ..).trans hc,by rw[Obj.data_mapFields hd];simp[rawInt]⟩
 refine wpAny_bind (wpAny_holding (wpAny_bind (wpAny_isOneOf_keyiter (s:={s with heap:=s.heap.update it (Obj.mapFields (·.setIfInBounds 1 (rawInt ((i:Int)+1))))}) hit'.typeIs ?_)))
 show wpAny _ _ (pure es[i].key) _ _ _;exact wpAny_pure (wpAny_pure ⟨_,rfl,wpAny_pure (hQ _ hit' (Heap.SameBut.update ..))⟩)
theorem pyNext_dent_end {Q:Option Value->Shared->Prop}(hh:A.handled=none)(hit:s.heap.IsKeyIter it d i es.size ep)(hm:s.heap.DEnt d es ep)(hge:es.size<=i)
  (hQ:∀h',Heap.ExtBut it s.heap h'->Q none {s with heap:=h' }):wpAny (model prog w) A (pyNext (.ref it)) Q E s:=by
 obtain⟨o,ho,hc,hd⟩:=id hit
 obtain⟨od,hod,hcd,hdd⟩:=id hm
 have hown:Builtin.Dict_items.ownsTuple "dict_keyiterator"=false:=by decide
 unfold pyNext
 refine wpAny_bind (wpAny_attempt (wpAny_callSpecial?_slot (name:=Str.ofString "__next__") hit.typeIs F.slot_dict_keyiterator_next (wpAny_call_entry F.slot_dict_keyiterator_next hit.typeIs F.entry_dict_keyiterator_next ?_ (F.args_dict_keyiterator_next_1 _))))
 refine wpAny_bind (wpAny_pure (wpAny_bind (wpAny_bind ?_)))
 first|refine wpAny_bind (wpAny_typeNameOfWhole_keyiter hit.typeIs (wpAny_pure (wpAny_bind (wpAny_fieldsOf ho hd ?_))))|refine wpAny_bind (wpAny_typeNameOf_keyiter hit.typeIs (wpAny_pure (wpAny_bind (wpAny_fieldsOf ho hd ?_))))
 simp only[hown,Bool.false_eq_true,if_false];show wpAny _ _ (if (Value.ref d==Value.none)=true then _ else _) _ _ s
 rw[if_neg (show ¬ ((Value.ref d==Value.none)=true) from fun z=>Bool.false_ne_true z)]
 refine wpAny_bind (wpAny_pure (wpAny_bind (wpAny_dictEntries hod hdd ?_)))
 rw[if_neg (by simp)];refine wpAny_bind (wpAny_pure (wpAny_bind (wpAny_dictEpoch hod hdd ?_)))
 rw[if_neg (by simp)];refine wpAny_pure ?_
 simp only[show ¬ ((i:Int)<0) from by omega,if_false,Int.toNat_natCast,Array.getElem?_eq_none hge];refine wpAny_bind ?_
 first|refine wpAny_bind (wpAny_typeNameOfWhole_keyiter hit.typeIs (wpAny_pure ?_))|refine wpAny_bind (wpAny_typeNameOf_keyiter hit.typeIs (wpAny_pure ?_))
 show wpAny _ _ (setField (.ref it) 0 .none >>= _) _ _ s;refine wpAny_bind (wpAny_setField ho hd (by simp) ?_)
 show wpAny _ _ (newExc (.type "StopIteration") [] >>= _) _ _ _;refine wpAny_bind ?_
 simp only[newExc,newTuple];refine wpAny_bind (wpAny_newObj_type ?_ (by size_fits))
 refine wpAny_bind (m:=firstArgMember _ _) (wpAny_of_eq (a:=Value.none) (by first|rfl|(simp only[firstArgMember];rfl)) (wpAny_newObj_type ?_ (by size_fits)))
 simp only[raiseNew];refine wpAny_bind (wpAny_handled ?_)
 rw[show A.in1.handled=none from hh];refine wpAny_bind (wpAny_pure (wpAny_throw ?_))
 refine wpAny_bind (wpAny_isInstance (T := "StopIteration") (b:=true) ⟨_,Heap.get?_push_size _ rfl,rfl⟩ isSubtype_stop (wpAny_pure (hQ _ (((Heap.SameBut.update ..).extBut.push _).push _))))
theorem Walks.dent (hh:A.handled=none)(I:Addr)(hne:d≠I):Walks prog w A I [I,d] [I] es.size (fun i v=>∃e,es[i]?=some e/\v=e.key) (fun i h=>h.IsKeyIter I d i es.size ep/\h.DEnt d es ep) where
 sub:=fun b hb=>by simp at hb;simp[hb]
 frame:=fun _ _ _ st hk=>⟨st.1.at fun o e=>hk I (by simp) o e,st.2.at fun o e=>hk d (by simp) o e⟩
 item:=fun i s Q E hi st hQ=>by
  refine pyNext_dent_item st.1 st.2 hi fun h' hit' hs'=>?_
  exact hQ _ h' s.toks ⟨es[i],by simp[hi],rfl⟩ ⟨hit',st.2.at fun o e=>hs'.extBut d o hne e⟩ fun b o hb e=>hs'.extBut b o (fun z=>hb (by simp[z])) e
 done:=fun s Q E st hQ=>pyNext_dent_end hh st.1 st.2 (Nat.le_refl _) fun h' he'=>hQ h' s.toks fun b o hb e=>he' b o (fun z=>hb (by simp[z])) e
 self:=fun _ _ _ _ st hQ=>wpAny_pyIter_keyiter st.1 hQ
theorem kdl_dent (lo:(d==sysModules)=false):PySem.W.KdlSrc prog w "dict" d d es.size (fun i v=>∃e,es[i]?=some e/\v=e.key) (fun h=>h.DEnt d es ep) where
 type:=fun _ hm=>hm.typeIs
 there:=fun _ hm=>⟨hm.lt_size,hm.lt_size⟩
 keep:=fun _ _ hm hk=>hm.at fun o e=>hk d (.inl rfl) o e
 notList:=by decide
 notTuple:=by decide
 hint:=fun _ _ _ _ hm hq=>PySem.W.kdl_hint_dict hm.typeIs hq
 iter:=fun _ _ hh hm=>⟨_,_,(fun _ _ hq=>pyIter_dent lo hm hq),Walks.dent hh _ (Nat.ne_of_lt hm.lt_size),⟨⟨_,Heap.get?_push_size _ rfl,rfl,rfl⟩,hm.at fun o e=>Heap.get?_push_of_some _ e⟩⟩
end
end PySem
namespace L2
open PySem PySem.Spec PyProof.Rows
theorem paired_get {α β:Type}{F:α->β->Prop}:∀{l:List α} {m:List β} {i:Nat} {a:α},Paired F l m->l[i]?=some a->∃b,m[i]?=some b/\F a b
 |_,_,_,_,.nil,e=>by simp at e
 |_,_,0,_,.cons r _,e=>by simp at e;subst e;exact⟨_,rfl,r⟩
 |_,_,i+1,a,.cons _ t,e=>by
  obtain⟨b,h1,h2⟩:=paired_get (i:=i) (a:=a) t (by simpa using e)
  exact⟨b,by simpa using h1,h2⟩
theorem dent_of {P:Program}{w:World}{H:Hp}{h:Heap}{a:Addr}{kvs:List (List Key×V)}(ok:HOk P w H h)(e:Rd H a (.dT kvs)):
  ∃o es ep,h.get? a=some o/\o.ExactDict/\o.data=.dict es ep/\es.size=kvs.length/\(a==sysModules)=false/\kvs.length<=sizeLine /\
   ∀(i:Nat) (k:List Key) (v:V),kvs[i]?=some (k,v)->∃b en,es[i]?=some en/\en.key=.ref b/\H b=some (.tup (k.map kV)):=by
 obtain⟨z,y,xs,r,o,es,ep,h1,h2,h3,h4,h5⟩:=(show ObjOk P w H h a (.dT kvs) from rd_of ok e)
 have hl:=Paired.length r
 have hs:es.size=kvs.length:=by rw[<-Array.length_toList,h4,List.length_map,hl]
 refine⟨o,es,ep,h1,h2,h3,hs,y,z,fun i k v hk=>?_⟩
 obtain⟨q,hq,e1,e2,_⟩:=paired_get r hk
 refine⟨q.2.1,entryOfKey (tupleKind (mixKind P w)) q,?_,rfl,e2⟩
 rw[<-Array.getElem?_toList,h4,List.getElem?_map,hq];rfl
theorem call_list_dictT {X:Cx}(hc:X.calm=true):CallR X (.type "list") (fun xs H Q=>∃p kvs,xs=[.ref p]/\Rd H p (.dT kvs)/\∀l rs,H l=none->rs.length=kvs.length ->
  (∀(i:Nat) (k:List Key) (v:V),kvs[i]?=some (k,v)->∃b,rs[i]?=some (V.ref b)/\H b=some (.tup (k.map kV)))->Q (.ref l) (upd H l (.lst rs))):=by
 intro pins s σ H xs us Q I r h
 obtain⟨p,kvs,rfl,hp,q⟩:=h
 obtain⟨u,rfl,rx⟩:=vals1 r
 cases rx
 obtain⟨o,es,ep,g1,g2,g3,g4,g5,g6,g7⟩:=dent_of I.hok hp
 refine PySem.W.kdl_call (kdl_dent (es:=es) (ep:=ep) g5) (I.ok.hd hc) ⟨o,g1,g2,g3⟩ (by omega) fun h' tk acc' c' hk hD hacc=>?_
 let f:DictEntry->V:=fun e=>match e.key with | .ref b=>V.ref b|_=>.non
 have hat:∀(i:Nat) (k:List Key) (v:V),kvs[i]?=some (k,v)->∃b,(es.toList.map f)[i]?=some (V.ref b)/\H b=some (.tup (k.map kV)):=fun i k v hkv=>by
  obtain⟨b,en,e1,e2,e3⟩:=g7 i k v hkv
  refine⟨b,?_,e3⟩
  rw[List.getElem?_map,Array.getElem?_toList,e1]
  show some (f en)=_
  simp only[f,e2]
 have hlen:(es.toList.map f).length=kvs.length:=by rw[List.length_map,Array.length_toList,g4]
 have hv:Vals (es.toList.map f) acc'.toList:=by
  refine Vals.ofIx (by rw[hlen,<-g4];simpa using hacc.1) fun i v hv=>?_
  obtain⟨e,he,rfl⟩:=hacc.2 i v (by simpa using hv)
  have hi:i<kvs.length:=by rw[<-g4];exact (Array.getElem?_eq_some_iff.mp he).1
  obtain⟨b,en,e1,e2,e3⟩:=g7 i kvs[i].1 kvs[i].2 (by simp[hi])
  rw[he]at e1
  cases e1
  refine⟨V.ref b,?_,by rw[e2];rfl⟩
  rw[List.getElem?_map,Array.getElem?_toList,he]
  show some (f e)=_
  simp only[f,e2]
 exact⟨.ref _,_,I.laid (t':=tk) hk (Nat.le_refl _) (show ObjOk X.prog X.w _ h' _ (.lst (es.toList.map f)) from ⟨by rw[hlen];exact g6,acc'.toList,c',hv,by simpa using hD⟩),rfl,q _ _ (I.hok.fresh (Nat.le_refl _)) hlen hat⟩
end L2
namespace GB
open GW
variable {α:Type} [DecidableEq α]
def walkF (step:α->Int->α)(a:α)(ws:List Int):α:=ws.foldl step a
def put (step:α->Int->α)(r:α)(w:List Int)(ents:List (α×List Int))(x:Nat):List (α×List Int):=if step r x∈ents.map (·.1) then ents else ents++[(step r x,w++[(x:Int)])]
structure B (L:Int)(step:α->Int->α)(st:α)(ok:α->Prop)(ents:List (α×List Int))(i:Nat)(top:Int):Prop where
 hd:ents[0]?=some (st,[])
 il:i<=ents.length
 sh:∀(j:Nat) (e:α×List Int),ents[j]?=some e->e.2.length<=j
 nod:(ents.map (·.1)).Nodup
 rng:∀e∈ents,ok e.1
 wd:∀e∈ents,isW L e.2=true/\walkF step st e.2=e.1
 inc:∀(j k:Nat) (a b:α×List Int),j<k->ents[j]?=some a->ents[k]?=some b->place L a.2<place L b.2
 bnd:∀e∈ents,place L e.2<top
 don:∀j,j<i->∀e,ents[j]?=some e->∀x:Int,0<=x->x<L->∃e'∈ents,e'.1=step e.1 x/\place L e'.2<=place L (e.2++[x])
variable {L:Int} {step:α->Int->α} {st:α} {ok:α->Prop} {ents:List (α×List Int)} {i:Nat} {top:Int}
def walkR (ways:List (List Int))(r:Int)(ws:List Int):Int:=ws.foldl (stepW ways) r
theorem walkR_zero (ways:List (List Int))(ws:List Int):walkR ways 0 ws=walkW ways ws:=rfl
theorem walkR_cons (ways:List (List Int))(r x:Int)(ws:List Int):walkR ways r (x::ws)=walkR ways (stepW ways r x) ws:=rfl
end GB
namespace L2
open PySem PySem.Spec PyProof.Rows GW GB
def TK (H H':Hp):Prop:=∀b xs,H b=some (.tup xs)->H' b=some (.tup xs)
theorem TK.refl (H:Hp):TK H H:=fun _ _ h=>h
theorem TK.of {H H':Hp}(s:Same H H'):TK H H':=fun b xs h=>s b _ h
theorem TK.trans {H H' H'':Hp}(a:TK H H')(b:TK H' H''):TK H H'':=fun c xs h=>b c xs (a c xs h)
theorem TK.new {H:Hp}{p:Addr}{o:HO}(h:H p=none):TK H (upd H p o):=TK.of (Same.new h)
theorem TK.lst {H:Hp}{p:Addr}{o:HO}{xs:List V}(h:H p=some (.lst xs)):TK H (upd H p o):=fun b ys e=>by rw[upd_ne (fun z=>by rw[z,h]at e;cases e)];exact e
theorem TK.dT {H:Hp}{p:Addr}{o:HO}{kvs:List (List Key×V)}(h:H p=some (.dT kvs)):TK H (upd H p o):=fun b ys e=>by rw[upd_ne (fun z=>by rw[z,h]at e;cases e)];exact e
theorem valV_at {κ:Type}[DecidableEq κ]{kvs:List (κ×V)}{i:Nat}{k:κ}{v:V}(hn:(kvs.map (·.1)).Nodup)(h:kvs[i]?=some (k,v)):valV kvs k=some v:=by
 induction kvs generalizing i with
 |nil=>simp at h
 |cons p r ih=>
  rw[List.map_cons,List.nodup_cons]at hn
  cases i with
  |zero=>simp at h;subst h;exact valV_pos rfl
  |succ i=>
   have h':r[i]?=some (k,v):=by simpa using h
   rw[valV_neg (fun z=>hn.1 (List.mem_map.mpr ⟨(k,v),List.mem_of_getElem? h',z.symm⟩))]
   exact ih hn.2 h'
end L2
namespace L2
theorem r_dnewK {σ:St}{H:Hp}{Q:VK}:tDNewK σ H Q=∀p,H p=none->Q (.ref p) (upd H p (.dK [])):=rfl
theorem r_dnewT {σ:St}{H:Hp}{Q:VK}:tDNewT σ H Q=∀p,H p=none->Q (.ref p) (upd H p (.dT [])):=rfl
end L2
namespace GB
open GW
theorem isW_cons {L x:Int}{w:List Int}:isW L (x::w)=true↔(0<=x/\x<L)/\isW L w=true:=by
 rw[isW_iff,isW_iff]
 simp
end GB
namespace L2
open PySem PySem.Spec PyProof.Rows GW
theorem Same.none {H H':Hp}(s:Same H H'){p:Addr}(h:H' p=none):H p=none:=by
 cases e:H p with
 |none=>rfl
 |some u=>rw[s _ _ e]at h;cases h
def WordsT (K:PySem.W.Frag)(H:Hp)(xs:List V)(ws:List (List Int)):Prop:=xs.length=ws.length/\∀(i:Nat) (w:List Int),ws[i]?=some w->∃t,xs[i]?=some (.ref t)/\H t=some (.tup (w.map V.int))
theorem WordsT.nil {K:PySem.W.Frag}{H:Hp}:WordsT K H [] []:=⟨rfl,fun i w h=>by simp at h⟩
theorem WordsT.mono {K:PySem.W.Frag}{H H':Hp}{xs:List V}{ws:List (List Int)}(h:WordsT K H xs ws)(k:TK H H'):WordsT K H' xs ws:=by
 refine⟨h.1,fun i w hw=>?_⟩
 obtain⟨t,a,b⟩:=h.2 i w hw
 exact⟨t,a,k _ _ b⟩
theorem WordsT.snoc {K:PySem.W.Frag}{H:Hp}{xs:List V}{ws:List (List Int)}(h:WordsT K H xs ws){t:Addr}{w:List Int}(ht:H t=some (.tup (w.map V.int))):WordsT K H (xs++[.ref t]) (ws++[w]):=by
 refine⟨by rw[List.length_append,List.length_append,h.1];rfl,fun i v hi=>?_⟩
 by_cases hil:i<ws.length
 ·rw[List.getElem?_append_left hil]at hi
  rw[List.getElem?_append_left (by rw[h.1];exact hil)]
  exact h.2 i v hi
 ·have:=(List.getElem?_eq_some_iff.mp hi).1
  rw[List.length_append,List.length_singleton]at this
  have ei:i=ws.length:=by omega
  subst ei
  rw[List.getElem?_append_right (Nat.le_refl _),Nat.sub_self]at hi
  simp at hi
  subst hi
  refine⟨t,?_,ht⟩
  rw[List.getElem?_append_right (by rw[h.1];exact Nat.le_refl _),h.1,Nat.sub_self];rfl
theorem WordsT.at {K:PySem.W.Frag}{H:Hp}{xs:List V}{ws:List (List Int)}(h:WordsT K H xs ws){i:Nat}{x:V}(hx:xs[i]?=some x):∃t w,ws[i]?=some w/\x=.ref t/\H t=some (.tup (w.map V.int)):=by
 have hi:i<ws.length:=by rw[<-h.1];exact (List.getElem?_eq_some_iff.mp hx).1
 obtain⟨t,a,b⟩:=h.2 i ws[i] (by simp[hi])
 rw[hx]at a
 exact⟨t,ws[i],by simp[hi],Option.some.inj a,b⟩
theorem rCatT2.ofS {K:PySem.W.Frag}{H:Hp}{Q:VK}{a b:Addr}{xs ys:List V}(ha:H a=some (.tup xs))(hb:H b=some (.tup ys))(hz:xs.length+ys.length<=sizeLine)(h:∀p H',Same H H'->H' p=some (.tup (xs++ys))->Q (.ref p) H'):rCatT2 K (.ref a) (.ref b) H Q:=by
 refine⟨a,b,xs,ys,rfl,rfl,SqT.of ha,SqT.of hb,hz,fun e=>?_,fun _ e=>?_,fun _ _ p hp=>h p _ (Same.new hp) upd_same⟩
 ·subst e;exact h b H (Same.refl _) (by simpa using hb)
 ·subst e;exact h a H (Same.refl _) (by simpa using ha)
end L2
namespace GW
def ins (s:List (List Int))(w:List Int):List (List Int):=if w∈s then s else s++[w]
theorem ins_len (s:List (List Int))(w:List Int):(ins s w).length<=s.length+1:=by
 unfold ins;split
 ·omega
 ·simp
theorem insAll_len:∀(l s:List (List Int)),(l.foldl ins s).length<=s.length+l.length
 |[],s=>by simp
 |w::l,s=>by
  have h1:=insAll_len l (ins s w)
  have h2:=ins_len s w
  rw[List.foldl_cons,List.length_cons];omega
end GW
namespace L2
open PySem PySem.Spec PyProof.Rows GW
def wkey (w:List Int):List Key:=w.map Sum.inl
theorem wkey_kV (w:List Int):(wkey w).map kV=w.map V.int:=by unfold wkey;rw[List.map_map];rfl
theorem wkey_inj {v w:List Int}(h:wkey v=wkey w):v=w:=(List.map_inj_right (fun x y z=>Sum.inl.inj z)).mp h
def KeysW (ws:List (List Int))(kvs:List (List Key×V)):Prop:=kvs.map (·.1)=ws.map wkey
theorem KeysW.len {ws:List (List Int)}{kvs:List (List Key×V)}(h:KeysW ws kvs):kvs.length=ws.length:=by
 have:=congrArg List.length h
 simpa using this
theorem KeysW.some_iff {ws:List (List Int)}{kvs:List (List Key×V)}(h:KeysW ws kvs)(w:List Int):(valV kvs (wkey w)).isSome=decide (w∈ws):=by
 rw[<-valV_any,Bool.eq_iff_iff,decide_eq_true_eq,List.any_eq_true]
 constructor
 ·rintro⟨kv,hkv,e⟩
  have e:=of_decide_eq_true e
  have:wkey w∈ws.map wkey:=by rw[<-h,<-e];exact List.mem_map.mpr ⟨kv,hkv,rfl⟩
  obtain⟨q,hq,e2⟩:=List.mem_map.mp this
  exact wkey_inj e2 ▸ hq
 ·intro hw
  have:wkey w∈kvs.map (·.1):=by rw[h];exact List.mem_map.mpr ⟨w,hw,rfl⟩
  obtain⟨kv,hkv,e⟩:=List.mem_map.mp this
  exact⟨kv,hkv,decide_eq_true e⟩
theorem KeysW.put {ws:List (List Int)}{kvs:List (List Key×V)}(h:KeysW ws kvs)(w:List Int)(v:V):KeysW (ins ws w) (putK kvs (wkey w) v):=by
 have hs:=h.some_iff w
 unfold putK ins
 rw[valV_any,hs]
 by_cases hw:w∈ws
 ·rw[if_pos hw,if_pos (show decide (w∈ws)=true from decide_eq_true hw)]
  unfold KeysW
  rw[<-h,List.map_map]
  refine List.map_congr_left fun kv _=>?_
  show (if kv.1=wkey w then (kv.1,v) else kv).1=kv.1
  split<;>rfl
 ·rw[if_neg hw,if_neg (show ¬ decide (w∈ws)=true by simp[hw])]
  unfold KeysW
  rw[List.map_append,List.map_append,h];rfl
theorem KeysW.nil:KeysW [] []:=rfl
theorem KeysW.words {K:PySem.W.Frag}{H:Hp}{ws:List (List Int)}{kvs:List (List Key×V)}{rs:List V}(h:KeysW ws kvs)(hl:rs.length=kvs.length)(hr:∀(i:Nat) (k:List Key) (v:V),kvs[i]?=some (k,v)->∃b,rs[i]?=some (V.ref b)/\H b=some (.tup (k.map kV))):WordsT K H rs ws:=by
 refine⟨by rw[hl,h.len],fun i w hw=>?_⟩
 have hi:i<kvs.length:=by rw[h.len];exact (List.getElem?_eq_some_iff.mp hw).1
 have e:(kvs.map (·.1))[i]?=some (wkey w):=by rw[h,List.getElem?_map,hw];rfl
 rw[List.getElem?_map,List.getElem?_eq_getElem hi]at e
 have e:kvs[i].1=wkey w:=Option.some.inj e
 obtain⟨b,b1,b2⟩:=hr i kvs[i].1 kvs[i].2 (by simp[hi])
 exact⟨b,b1,by rw[b2,e,wkey_kV]⟩
end L2
namespace PySem.W
open PySem PySem.Calls PyProof.Rows PyProof.V PySem.Spec
end PySem.W
namespace L2
open PySem PySem.Spec PyProof.Rows
theorem lay_tups {P:Program}{w:World}{fs:List Addr}{H0:Hp}{h0 h':Heap}:∀(as:List (Addr×List V)),(as.map (·.1)).Nodup ->
  (∀p∈as,h0.objs.size<=p.1/\p.2.length<=sizeLine/\∃its:List Value,Vals p.2 its/\IsTup h' p.1 its.toArray)->∀H,Un fs [] H0 H h0 h'->HOk P w H h'->(∀p∈as,H p.1=none) ->
  ∃H2,Un fs [] H0 H2 h0 h'/\HOk P w H2 h'/\Same H H2/\(∀p∈as,H2 p.1=some (.tup p.2))/\∀b,b∉as.map (·.1)->H2 b=H b
 |[],_,_,H,u,k,_=>⟨H,u,k,Same.refl _,(fun p hp=>by simp at hp),fun b _=>rfl⟩
 |p::r,nd,hp,H,u,k,hn=>by
  rw[List.map_cons,List.nodup_cons]at nd
  obtain⟨h1,h2,its,h3,h4⟩:=hp p List.mem_cons_self
  have hnp:=hn p List.mem_cons_self
  have k2:HOk P w (upd H p.1 (.tup p.2)) h':=k.track hnp ⟨h2,its,h3,h4⟩
  obtain⟨H2,e1,e2,e3,e4,e5⟩:=lay_tups r nd.2 (fun q hq=>hp q (List.mem_cons_of_mem _ hq)) (upd H p.1 (.tup p.2)) (u.track h1 hnp) k2 (fun q hq=>by
   have hne:q.1≠p.1:=fun z=>nd.1 (by rw[<-z];exact List.mem_map_of_mem hq)
   rw[upd_ne hne]
   exact hn q (List.mem_cons_of_mem _ hq))
  refine⟨H2,e1,e2,(Same.new hnp).trans e3,fun q hq=>?_,fun b hb=>?_⟩
  ·rcases List.mem_cons.mp hq with rfl|hq
   ·exact e3 _ _ upd_same
   ·exact e4 q hq
  ·rw[List.map_cons,List.mem_cons,not_or]at hb
   rw[e5 b hb.2,upd_ne hb.1]
theorem Vals.two' {x y:V}{u v:Value}(h1:RelV x u)(h2:RelV y v):Vals [x,y] [u,v]:=.cons h1 (.cons h2 .nil)
theorem valsR:∀as:List Addr,Vals (as.map V.ref) (as.map Value.ref)
 |[]=>.nil
 |_::r=>.cons rfl (valsR r)
def ents (es:List (List Int×Int)):List (List Key×V):=es.map fun e=>(wkey e.1,V.int e.2)
end L2
namespace L2
open PySem PySem.W PySem.Spec PySem.Calls PyProof.Rows
theorem rRepT.ofS {K:PySem.W.Frag}{H:Hp}{Q:VK}{l:Addr}{k:Int}{xs:List V}(hq:H l=some (.tup xs))(hne:xs ≠ [])(h1 : -(2 ^ 63)<=k)(h2:k<2 ^ 63)(hz:xs.length*k.toNat<=sizeLine)(h:∀p H',Same H H'->H' p=some (.tup (List.replicate k.toNat xs).flatten)->Q (.ref p) H'):rRepT K (.ref l) (.int k) H Q:=by
 refine⟨l,k,xs,rfl,rfl,SqT.of hq,hne,h1,h2,hz,fun e=>?_,fun _ p hp=>h p _ (Same.new hp) upd_same⟩
 subst e
 exact h l H (Same.refl _) (by simpa using hq)
end L2
namespace PrimeO
def NoDiv (p:Nat):Prop:=∀d,2<=d->d<p->p%d≠0
def Pr (p:Int):Prop:=2<=p/\p<1000000000000000000/\NoDiv p.toNat
end PrimeO
namespace PySem
open Sem (wp)
open PySem.F
def SqAny (t:Bool)(h:Heap)(l:Addr)(xs:Array Value):Prop:=match t with|false=>h.IsList l xs|true=>h.IsTuple l xs
def ItAny (t:Bool)(h:Heap)(i l:Addr)(k:Nat):Prop:=match t with|false=>h.IsListIter i l k|true=>h.IsTupleIter i l k
theorem SqAny.extBut {t:Bool}{h h':Heap}{a b items}(x:SqAny t h a items)(hs:Heap.ExtBut b h h')(hab:a≠b):SqAny t h' a items:=by
 cases t
 ·exact Heap.IsList.extBut x hs hab
 ·exact Heap.IsTuple.extBut x hs hab
theorem SqAny.push {t:Bool}{h:Heap}{a items}(x:SqAny t h a items)(o:Obj):SqAny t (h.push o) a items:=by
 cases t
 ·exact Heap.IsList.push x o
 ·exact Heap.IsTuple.push x o
theorem SqAny.lt {t:Bool}{h:Heap}{a items}(x:SqAny t h a items):a<h.objs.size:=by
 cases t
 ·obtain⟨_,e,_⟩:=x;exact Heap.lt_size e
 ·obtain⟨_,e,_⟩:=x;exact Heap.lt_size e
theorem ItAny.extBut {t:Bool}{h h':Heap}{a b l i}(x:ItAny t h a l i)(hs:Heap.ExtBut b h h')(hab:a≠b):ItAny t h' a l i:=by
 cases t
 ·exact Heap.IsListIter.extBut x hs hab
 ·exact Heap.IsTupleIter.extBut x hs hab
theorem ItAny.at {t:Bool}{h h':Heap}{a l i}(x:ItAny t h a l i)(e:∀o,h.get? a=some o->h'.get? a=some o):ItAny t h' a l i:=by
 cases t
 ·exact Heap.IsListIter.at x e
 ·exact Heap.IsTupleIter.at x e
theorem ItAny.ob {t:Bool}{h:Heap}{a l i}(x:ItAny t h a l i):∃o,h.get? a=some o/\o.data=.fields #[.ref l,.int i 0]:=by
 cases t
 ·obtain⟨o,e,_,d⟩:=x;exact⟨o,e,d⟩
 ·obtain⟨o,e,_,d⟩:=x;exact⟨o,e,d⟩
theorem ItAny.lt {t:Bool}{h:Heap}{a l i}(x:ItAny t h a l i):a<h.objs.size:=by
 obtain⟨_,e,_⟩:=x.ob;exact Heap.lt_size e
section
variable {prog:Program} {w:World} {A:Around} {E:Value->Shared->Prop} {s:Shared}
theorem nextAny {t:Bool}{it l:Addr}{i:Nat}{items:Array Value}{Q:Value->Shared->Prop}(hit:ItAny t s.heap it l i)(hl:SqAny t s.heap l items)
  (hQ:∀x h',items[i]?=some x->ItAny t h' it l (i+1)->Heap.SameBut it s.heap h'->Q x {s with heap:=h' })
  (hE:items[i]?=none->A.handled=none/\∀h' e,Heap.ExtBut it s.heap h'->(∃o,h'.get? e=some o/\o.cls=.type "StopIteration")->E (.ref e) {s with heap:=h' }):wpAny (model prog w) A (Builtin.SmallTypes.nextOf (.ref it)) Q E s:=by
 cases t
 ·cases hx:items[i]? with
  |some x=>exact wpAny_nextOf_list_item hit hl hx fun h'=>hQ x h' hx
  |none=>exact wpAny_nextOf_list_end (hE hx).1 hit hl hx (hE hx).2
 ·exact nextOf_tup hit hl hQ hE
def itCls (t:Bool):Value:=match t with|false=>.type "list_iterator" |true=>.type "tuple_iterator"
theorem ItAny.mk {t:Bool}{h:Heap}{a l:Addr}(g:h.get? a=some {cls:=itCls t,data:=.fields #[.ref l,.int 0 0]}):ItAny t h a l 0:=by
 cases t
 ·exact⟨_,g,rfl,rfl⟩
 ·exact⟨_,g,rfl,rfl⟩
theorem wpAny_pyIter_any {t:Bool}{l:Addr}{items}{Q:Value->Shared->Prop}(hl:SqAny t s.heap l items)
  (hQ:Q (.ref s.heap.objs.size) {s with heap:=s.heap.push {cls:=itCls t,data:=.fields #[.ref l,.int 0 0]} }):wpAny (model prog w) A (pyIter (.ref l)) Q E s:=by
 cases t
 ·exact wpAny_pyIter_list hl hQ
 ·exact wpAny_pyIter_tuple hl hQ
end
section
variable {prog:Program} {w:World} {A:Around} {E:Value->Shared->Prop} {s:Shared}
theorem pyIterA {t:Bool}{l:Addr}{items}{Q:Value->Shared->Prop}(hl:SqAny t s.heap l items)(h:∀h',s.heap.push {cls:=itCls t,data:=.fields #[.ref l,.int 0 0]}=h'->Q (.ref s.heap.objs.size) {s with heap:=h' }):wpAny (model prog w) A (pyIter (.ref l)) Q E s:=wpAny_pyIter_any hl (h _ rfl)
theorem zipN {t1 t2:Bool}{z TI TO i1 i2 l1 l2:Addr}{k1 k2:Nat}{xs ys:Array Value}{a b:Value}{Q:Option Value->Shared->Prop}(D:ZipApart z TI TO i1 i2 l1 l2)(hz:IsZip s.heap z TI TO .none)(hTI:IsPair s.heap TI (.ref i1) (.ref i2))(hTO:IsPair s.heap TO a b)
  (h1:ItAny t1 s.heap i1 l1 k1) (h2:ItAny t2 s.heap i2 l2 k2) (hl1:SqAny t1 s.heap l1 xs) (hl2:SqAny t2 s.heap l2 ys)
  (hQ:∀x y h',xs[k1]?=some x->ys[k2]?=some y->IsZip h' z TI TO (rawInt s.heap.objs.size)->IsPair h' TO x y->ItAny t1 h' i1 l1 (k1+1)->ItAny t2 h' i2 l2 (k2+1)->IsPair h' s.heap.objs.size x y->h'.objs.size=s.heap.objs.size+1->(∀c o,c≠z->c≠TO->c≠i1->c≠i2->s.heap.get? c=some o->h'.get? c=some o)->Q (some (.ref s.heap.objs.size)) {s with heap:=h' })
  (hN:xs[k1]?=none\/ys[k2]?=none->A.handled=none/\∀h',(∀c o,c≠z->c≠TO->c≠i1->c≠i2->s.heap.get? c=some o->h'.get? c=some o)->Q none {s with heap:=h' }):wpAny (model prog w) A (pyNext (.ref z)) Q E s:=by
 have hT:s.TypeIs (.ref z) "zip" := ⟨_,hz,rfl⟩
 have e1:=F.slot_zip_next
 unfold pyNext
 refine wpAny_bind (wpAny_attempt (wpAny_callSpecial?_slot hT e1 (wpAny_call_entry e1 hT F.entry_zip_next ?_ (F.args_zip_next_1 _))))
 wp_walk using wpAny_setField_rec hz
 ·exact Nat.lt_of_sub_eq_succ rfl
 intro u0 g0 k0
 replace g0:IsZip u0 z TI TO .ellipsis:=g0
 have m1:ItAny t1 u0 i1 l1 k1:=h1.extBut k0.extBut D.i1z
 have m2:SqAny t1 u0 l1 xs:=hl1.extBut k0.extBut D.l1z
 simp only[List.zipIdx_cons,List.zipIdx_nil,List.forIn_cons,List.forIn_nil]
 have stop:∀h' (e:Addr),(∀c o,c≠z->c≠TO->c≠i1->c≠i2->s.heap.get? c=some o->h'.get? c=some o)->IsZip h' z TI TO .ellipsis->(∃o,h'.get? e=some o/\o.cls=.type "StopIteration")->xs[k1]?=none\/ys[k2]?=none ->
   wpAny (model prog w) A.in1 (setField (.ref z) 0 .none) (fun _ s''=>wpAny (model prog w) A (do if <- isInstance (.ref e) (.type "StopIteration") then pure none else throw (.ref e)) Q E s'') (fun e s'=>wpAny (model prog w) A (do if <- isInstance e (.type "StopIteration") then pure none else throw e) Q E s') {s with heap:=h' }:=fun h' e kk hz' he hx=>by
  obtain⟨o,e2,e3⟩:=he
  have n:e≠z:=fun x=>by subst x;rw[hz']at e2;cases e2;simp at e3
  refine wpAny_setField_rec hz' (Nat.lt_of_sub_eq_succ rfl) fun h2 _ k2=>wpAny_bind (wpAny_isInstance (T := "StopIteration") (b:=true) ⟨o,k2.extBut e o n e2,e3⟩ isSubtype_stop (wpAny_pure ((hN hx).2 h2 fun c o n1 n2 n3 n4 q=>k2.extBut c o n1 (kk c o n1 n2 n3 n4 q))))
 wp_walk using wpAny_onRaise,nextAny (A:=A.in1) (s:={s with heap:=u0}) m1 m2
 ·intro x u1 hx m3 k3
  have y0:IsPair u1 TO a b:=k3.extBut TO _ D.TOi1 (k0.extBut TO _ D.TOz hTO)
  wp_walk using wpAny_updateSeq_pair y0
  intro u2 y2 k4
  replace y2:IsPair u2 TO x b:=y2
  have kk:∀c o,c≠z->c≠TO->c≠i1->s.heap.get? c=some o->u2.get? c=some o:=fun c o n1 n2 n3 q=>k4.extBut c o n2 (k3.extBut c o n3 (k0.extBut c o n1 q))
  have g2:IsZip u2 z TI TO .ellipsis:=k4.extBut _ _ D.TOz.symm (k3.extBut _ _ D.i1z.symm g0)
  have m4:ItAny t2 u2 i2 l2 k2:=h2.at fun o q=>kk _ o D.i2z D.TOi2.symm D.i12.symm q
  have m5:SqAny t2 u2 l2 ys:=((hl2.extBut k0.extBut D.l2z).extBut k3.extBut D.l2i1).extBut k4.extBut D.l2TO
  wp_walk using wpAny_onRaise,nextAny (A:=A.in1) (s:={s with heap:=u2}) m4 m5
  ·intro y u3 hy m6 k5
   have y3:IsPair u3 TO x b:=k5.extBut TO _ D.TOi2 y2
   wp_walk using wpAny_updateSeq_pair y3
   intro u4 y4 k6
   replace y4:IsPair u4 TO x y:=y4
   have g4:IsZip u4 z TI TO .ellipsis:=k6.extBut _ _ D.TOz.symm (k5.extBut _ _ D.i2z.symm g2)
   have zz:u4.objs.size=s.heap.objs.size:=k6.1.trans (k5.1.trans (k4.1.trans (k3.1.trans k0.1)))
   wp_walk using newT
   ·exact (show 2<=sizeLine from by decide)
   intro u5 q5
   have kp:∀c o,u4.get? c=some o->u5.get? c=some o:=fun c o q=>by rw[<-q5];exact Heap.get?_push_of_some _ q
   have g5:=kp z _ g4
   have y5:IsPair u5 u4.objs.size x y:=by rw[<-q5];exact Heap.get?_push_size _ rfl
   have z5:u5.objs.size=u4.objs.size+1:=by rw[<-q5];exact Heap.size_push ..
   wp_walk using wpAny_setField_rec g5
   ·exact Nat.lt_of_sub_eq_succ rfl
   intro u6 g6 k7
   replace g6:IsZip u6 z TI TO (rawInt u4.objs.size):=g6
   wp_walk using wpAny_setField_rec g6
   ·exact Nat.lt_of_sub_eq_succ rfl
   intro u7 g7 k8
   replace g7:IsZip u7 z TI TO (rawInt u4.objs.size):=g7
   refine wpAny_pure ⟨_,rfl,wpAny_pure ?_⟩
   show Q (some (Value.ref u4.objs.size)) _
   have up:∀c o,c≠z->u4.get? c=some o->u7.get? c=some o:=fun c o n q=>k8.extBut c o n (k7.extBut c o n (kp c o q))
   have nz:u4.objs.size≠z:=Nat.ne_of_gt (Heap.lt_size g4)
   have y7:=k8.extBut _ _ nz (k7.extBut _ _ nz y5)
   rw[zz]at g7 y7 z5 ⊢
   exact hQ x y u7 hx hy g7 (up _ _ D.TOz y4) ((m3.at fun o q=>k6.extBut _ o D.TOi1.symm (k5.extBut _ o D.i12 (k4.extBut _ o D.TOi1.symm q))).at fun o q=>up _ o D.i1z q) ((m6.at fun o q=>k6.extBut _ o D.TOi2.symm q).at fun o q=>up _ o D.i2z q) y7 ((k8.1.trans k7.1).trans z5)
    fun c o n1 n2 n3 n4 q=>up c o n1 (k6.extBut c o n2 (k5.extBut c o n4 (kk c o n1 n2 n3 q)))
  ·refine fun hy=>⟨(hN (.inr hy)).1,fun u3 e k5 he=>?_⟩
   exact stop u3 e (fun c o n1 n2 n3 n4 q=>k5 c o n4 (kk c o n1 n2 n3 q)) (k5 z _ D.i2z.symm g2) he (.inr hy)
 ·refine fun hx=>⟨(hN (.inl hx)).1,fun u1 e k3 he=>?_⟩
  exact stop u1 e (fun c o n1 n2 n3 n4 q=>k3 c o n3 (k0.extBut c o n1 q)) (k3 z _ D.i1z.symm g0) he (.inl hx)
theorem call_zip_2G {t1 t2:Bool}{l1 l2:Addr}{xs ys:Array Value}{Q:Value->Shared->Prop}(hl1:SqAny t1 s.heap l1 xs)(hl2:SqAny t2 s.heap l2 ys)
  (h:∀h',IsZip h' (s.heap.objs.size+4) (s.heap.objs.size+2) (s.heap.objs.size+3) .none->IsPair h' (s.heap.objs.size+2) (.ref s.heap.objs.size) (.ref (s.heap.objs.size+1))->IsPair h' (s.heap.objs.size+3) .none .none->ItAny t1 h' s.heap.objs.size l1 0->ItAny t2 h' (s.heap.objs.size+1) l2 0->h'.objs.size=s.heap.objs.size+5->(∀c o,s.heap.get? c=some o->h'.get? c=some o)->Q (.ref (s.heap.objs.size+4)) {s with heap:=h' }):
  wpAny (model prog w) A (call (.type "zip") [.ref l1,.ref l2]) Q E s:=by
 have M:Meets (Builtin.«zip.__new__» ⟨[.type "zip",.ref l1,.ref l2],[]⟩) fun _ R t=>t=s/\∀h',IsZip h' (s.heap.objs.size+4) (s.heap.objs.size+2) (s.heap.objs.size+3) .none->IsPair h' (s.heap.objs.size+2) (.ref s.heap.objs.size) (.ref (s.heap.objs.size+1))->IsPair h' (s.heap.objs.size+3) .none .none->ItAny t1 h' s.heap.objs.size l1 0->ItAny t2 h' (s.heap.objs.size+1) l2 0->h'.objs.size=s.heap.objs.size+5->(∀c o,s.heap.get? c=some o->h'.get? c=some o)->R (.ok (.ret (.ref (s.heap.objs.size+4)))) {s with heap:=h' }:=.of_wp fun prog w A R t ⟨e,q⟩=>by
  subst e
  obtain⟨hp,g,d,tk,os⟩:=t
  have hsub:=sub_zip
  wp_walk using pyIterA hl1
  intro u1 q1
  obtain⟨a1,b1,c1⟩:=psh q1 rfl
  have hl2':SqAny t2 u1 l2 ys:=by rw[<-q1];exact SqAny.push hl2 _
  wp_walk using pyIterA (s:=⟨u1,g,d,tk,os⟩) hl2'
  intro u2 q2
  obtain⟨a2,b2,c2⟩:=psh q2 rfl
  wp_walk using newT
  ·exact (show 2<=sizeLine from by decide)
  intro u3 q3
  obtain⟨a3,b3,c3⟩:=psh q3 rfl
  wp_walk using newT
  ·exact (show 2<=sizeLine from by decide)
  intro u4 q4
  obtain⟨a4,b4,c4⟩:=psh q4 rfl
  wp_walk
  refine⟨_,rfl,?_⟩
  have Z1:u1.objs.size=hp.objs.size+1:=c1
  have Z2:u2.objs.size=hp.objs.size+2:=(show u2.objs.size=u1.objs.size+1 from c2).trans (by rw[Z1])
  have Z3:u3.objs.size=hp.objs.size+3:=(show u3.objs.size=u2.objs.size+1 from c3).trans (by rw[Z2])
  have Z4:u4.objs.size=hp.objs.size+4:=(show u4.objs.size=u3.objs.size+1 from c4).trans (by rw[Z3])
  obtain⟨a5,b5,c5⟩:=psh (rfl:u4.push {cls:=.type "zip",data:=.fields #[.none,.bool false,.bool false,.ref u2.objs.size,.ref u3.objs.size]}=_) rfl
  replace b1:u1.get? hp.objs.size=_:=b1
  replace b2:u2.get? u1.objs.size=_:=b2
  replace b3:IsPair u3 u2.objs.size (.ref hp.objs.size) (.ref u1.objs.size):=b3
  replace b4:IsPair u4 u3.objs.size .none .none:=b4
  show R (.ok (.ret (.ref u4.objs.size))) ⟨u4.push {cls:=.type "zip",data:=.fields #[.none,.bool false,.bool false,.ref u2.objs.size,.ref u3.objs.size]},g,d,tk,os⟩
  rw[Z1,Z2]at b3
  rw[Z1]at b2
  rw[Z3]at b4
  rw[Z2,Z3,Z4]at b5
  rw[Z2,Z3]at a5 c5 ⊢
  rw[Z4]at c5 ⊢
  exact q _ b5 (a5 _ _ (a4 _ _ b3)) (a5 _ _ b4) (ItAny.mk (a5 _ _ (a4 _ _ (a3 _ _ (a2 _ _ b1))))) (ItAny.mk (a5 _ _ (a4 _ _ (a3 _ _ b2)))) c5 fun c o x=>a5 _ _ (a4 _ _ (a3 _ _ (a2 _ _ (a1 _ _ x))))
 exact callType_new F.called_zip (by decide) (F.typeCall_zip_2 _ _) (F.newCall_zip_2 _ _) (fun obj=>F.args_object_init_3 obj _ _) F.entry_zip_new M ⟨rfl,fun h' a b c d e f g=>⟨⟨_,a,rfl⟩,h h' a b c d e f g⟩⟩
end
end PySem
namespace PySem
section
variable {prog:Program} {w:World} {A:Around} {E:Value->Shared->Prop} {s:Shared}
abbrev zpO (T TI TO:Addr)(f:Bool):Obj:={cls:=.type "zip",dict:=none,data:=.fields #[rawInt T,.bool f,.bool false,.ref TI,.ref TO],slots := #[]}
theorem zipH {t1 t2:Bool}{z TI TO T i1 i2 l1 l2:Addr}{k1 k2:Nat}{f:Bool}{oT:Obj}{xs ys:Array Value}{Q:Option Value->Shared->Prop}(D:ZipApart z TI TO i1 i2 l1 l2)(hz:s.heap.get? z=some (zpO T TI TO f))(hTo:s.heap.get? T=some oT)(hTI:IsPair s.heap TI (.ref i1) (.ref i2))
  (h1:ItAny t1 s.heap i1 l1 k1) (h2:ItAny t2 s.heap i2 l2 k2) (hl1:SqAny t1 s.heap l1 xs) (hl2:SqAny t2 s.heap l2 ys)
  (hQ:∀x y h',xs[k1]?=some x->ys[k2]?=some y->h'.get? z=some (zpO T TI TO true)->ItAny t1 h' i1 l1 (k1+1)->ItAny t2 h' i2 l2 (k2+1)->IsPair h' s.heap.objs.size x y->h'.objs.size=s.heap.objs.size+1->(∀c o,c≠z->c≠i1->c≠i2->s.heap.get? c=some o->h'.get? c=some o)->Q (some (.ref s.heap.objs.size)) {s with heap:=h' })
  (hN:xs[k1]?=none\/ys[k2]?=none->A.handled=none/\∀h',(∀c o,c≠z->c≠i1->c≠i2->s.heap.get? c=some o->h'.get? c=some o)->Q none {s with heap:=h' }):wpAny (model prog w) A (pyNext (.ref z)) Q E s:=by
 have hT:s.TypeIs (.ref z) "zip" := ⟨_,hz,rfl⟩
 have e1:=F.slot_zip_next
 have e:((T:Int)).toNat=T:=Int.toNat_natCast T
 have lz:=Heap.lt_size hz
 unfold pyNext
 refine wpAny_bind (wpAny_attempt (wpAny_callSpecial?_slot hT e1 (wpAny_call_entry e1 hT F.entry_zip_next ?_ (F.args_zip_next_1 _))))
 wp_walk
 simp only[<-Array.forIn_toList,List.forIn_cons,List.forIn_nil]
 refine PySem.W.kdx_alive (a:=(T:Int).toNat) (by rw[e];exact hTo) ?_
 have stop:∀h' (e:Addr),(∀c o,c≠z->c≠i1->c≠i2->s.heap.get? c=some o->h'.get? c=some o)->(∃o,h'.get? e=some o/\o.cls=.type "StopIteration")->xs[k1]?=none\/ys[k2]?=none ->
   wpAny (model prog w) A (do if <- isInstance (.ref e) (.type "StopIteration") then pure none else throw (.ref e)) Q E {s with heap:=h' }:=fun h' e kk ⟨o,e2,e3⟩ hx=>wpAny_bind (wpAny_isInstance (T := "StopIteration") (b:=true) ⟨o,e2,e3⟩ isSubtype_stop (wpAny_pure ((hN hx).2 h' kk)))
 cases f
 ·wp_walk using wpAny_setField_rec hz
  ·exact Nat.lt_of_sub_eq_succ rfl
  intro u0 g0 k0
  have m1:=h1.extBut k0.extBut D.i1z
  have m2:=hl1.extBut k0.extBut D.l1z
  wp_walk using nextAny (A:=A.in1) (s:={s with heap:=u0}) m1 m2
  ·intro x u1 hx m3 k3
   have m4:=(h2.extBut k0.extBut D.i2z).extBut k3.extBut D.i12.symm
   have m5:=(hl2.extBut k0.extBut D.l2z).extBut k3.extBut D.l2i1
   wp_walk using nextAny (A:=A.in1) (s:={s with heap:=u1}) m4 m5
   ·intro y u2 hy m6 k4
    wp_walk using newT
    ·exact (show 2<=sizeLine from by decide)
    intro u3 q3
    obtain⟨a3,b3,c3⟩:=psh q3 rfl
    wp_walk
    have zz:u2.objs.size=s.heap.objs.size:=k4.1.trans (k3.1.trans k0.1)
    have b4:IsPair u3 u2.objs.size x y:=b3
    have c4:u3.objs.size=u2.objs.size+1:=c3
    have kk:∀c o,c≠z->c≠i1->c≠i2->s.heap.get? c=some o->u3.get? c=some o:=fun c o n1 n2 n3 q=>a3 _ _ (k4.extBut c o n3 (k3.extBut c o n2 (k0.extBut c o n1 q)))
    have g3:=a3 _ _ (k4.extBut z _ D.i2z.symm (k3.extBut z _ D.i1z.symm g0))
    refine⟨_,rfl,wpAny_pure ?_⟩
    show Q (some (Value.ref u2.objs.size)) _
    rw[zz]at b4 c4 ⊢
    exact hQ x y u3 hx hy g3 ((m3.extBut k4.extBut D.i12).at fun o q=>a3 _ _ q) (m6.at fun o q=>a3 _ _ q) b4 c4 kk
   ·exact fun hy=>⟨(hN (.inr hy)).1,fun u2 e k4 he=>stop u2 e (fun c o n1 n2 n3 q=>k4 c o n3 (k3.extBut c o n2 (k0.extBut c o n1 q))) he (.inr hy)⟩
  ·exact fun hx=>⟨(hN (.inl hx)).1,fun u1 e k3 he=>stop u1 e (fun c o n1 n2 n3 q=>k3 c o n2 (k0.extBut c o n1 q)) he (.inl hx)⟩
 ·have k0:=Heap.SameBut.refl z s.heap
  have m1:=h1.extBut k0.extBut D.i1z
  have m2:=hl1.extBut k0.extBut D.l1z
  wp_walk using nextAny (A:=A.in1) (s:={s with heap:=s.heap}) m1 m2
  ·intro x u1 hx m3 k3
   have m4:=(h2.extBut k0.extBut D.i2z).extBut k3.extBut D.i12.symm
   have m5:=(hl2.extBut k0.extBut D.l2z).extBut k3.extBut D.l2i1
   wp_walk using nextAny (A:=A.in1) (s:={s with heap:=u1}) m4 m5
   ·intro y u2 hy m6 k4
    wp_walk using newT
    ·exact (show 2<=sizeLine from by decide)
    intro u3 q3
    obtain⟨a3,b3,c3⟩:=psh q3 rfl
    wp_walk
    have zz:u2.objs.size=s.heap.objs.size:=k4.1.trans (k3.1.trans k0.1)
    have b4:IsPair u3 u2.objs.size x y:=b3
    have c4:u3.objs.size=u2.objs.size+1:=c3
    have kk:∀c o,c≠z->c≠i1->c≠i2->s.heap.get? c=some o->u3.get? c=some o:=fun c o n1 n2 n3 q=>a3 _ _ (k4.extBut c o n3 (k3.extBut c o n2 (k0.extBut c o n1 q)))
    have g3:=a3 _ _ (k4.extBut z _ D.i2z.symm (k3.extBut z _ D.i1z.symm hz))
    refine⟨_,rfl,wpAny_pure ?_⟩
    show Q (some (Value.ref u2.objs.size)) _
    rw[zz]at b4 c4 ⊢
    exact hQ x y u3 hx hy g3 ((m3.extBut k4.extBut D.i12).at fun o q=>a3 _ _ q) (m6.at fun o q=>a3 _ _ q) b4 c4 kk
   ·exact fun hy=>⟨(hN (.inr hy)).1,fun u2 e k4 he=>stop u2 e (fun c o n1 n2 n3 q=>k4 c o n3 (k3.extBut c o n2 (k0.extBut c o n1 q))) he (.inr hy)⟩
  ·exact fun hx=>⟨(hN (.inl hx)).1,fun u1 e k3 he=>stop u1 e (fun c o n1 n2 n3 q=>k3 c o n2 (k0.extBut c o n1 q)) he (.inl hx)⟩
end
def ZTp (xs ys:Array Value)(lo:Addr)(h:Heap)(as:List Addr):Prop:=as.Pairwise (· < ·)/\∀(j:Nat) a,as[j]?=some a->lo<a/\∃x y,xs[j]?=some x/\ys[j]?=some y/\IsPair h a x y
theorem ZTp.keep {xs ys:Array Value}{lo:Addr}{h h':Heap}{as:List Addr}(g:ZTp xs ys lo h as)(k:∀b o,lo<b->h.get? b=some o->h'.get? b=some o):ZTp xs ys lo h' as:=⟨g.1,fun j a q=>let ⟨l,x,y,e1,e2,e3⟩:=g.2 j a q;⟨l,x,y,e1,e2,k a _ l e3⟩⟩
theorem ZTp.snoc {xs ys:Array Value}{lo b:Addr}{h:Heap}{as:List Addr}{x y:Value}(g:ZTp xs ys lo h as)(hl:lo<b)(hb:∀a o,h.get? a=some o->a∈as->a<b)(e1:xs[as.length]?=some x)(e2:ys[as.length]?=some y)(ht:IsPair h b x y):ZTp xs ys lo h (as++[b]):=by
 refine⟨List.pairwise_append.mpr ⟨g.1,List.pairwise_singleton _ _,fun a ha c hc=>?_⟩,fun j a q=>?_⟩
 ·obtain⟨j,hj⟩:=List.mem_iff_getElem?.mp ha
  obtain⟨_,_,_,_,_,e⟩:=g.2 j a hj
  rw[List.mem_singleton.mp hc]
  exact hb a _ e ha
 ·rcases Nat.lt_or_ge j as.length with l|l
  ·rw[List.getElem?_append_left l]at q
   exact g.2 j a q
  ·have:=(List.getElem?_eq_some_iff.mp q).1
   obtain rfl:j=as.length:=by simp at this;omega
   rw[List.getElem?_append_right l,Nat.sub_self]at q
   obtain rfl:b=a:=by simpa using q
   exact⟨hl,x,y,e1,e2,ht⟩
section
variable {prog:Program} {w:World} {s:Shared}
theorem zip_no_len:typeLookup (.type "zip") "__len__"=pure none:=by rw[typeLookup_type,builtinLookup_eq_fast];kernel_rfl
theorem zip_no_hint:typeLookup (.type "zip") "__length_hint__"=pure none:=by rw[typeLookup_type,builtinLookup_eq_fast];kernel_rfl
theorem zip_gat {t1 t2:Bool}{z TI TO i1 i2 l1 l2:Addr}{xs ys:Array Value}{a b:Value}(D:ZipApart z TI TO i1 i2 l1 l2)(hn:xs.size<=sizeLine)(hxy:xs.size=ys.size)(hz:IsZip s.heap z TI TO .none)(hTI:IsPair s.heap TI (.ref i1) (.ref i2))(hTO:IsPair s.heap TO a b)(h1:ItAny t1 s.heap i1 l1 0)(h2:ItAny t2 s.heap i2 l2 0)(hl1:SqAny t1 s.heap l1 xs)(hl2:SqAny t2 s.heap l2 ys):
  Gat prog w s z z "zip" xs.size (fun b=>b=z\/b=TO\/b=i1\/b=i2) (fun i acc h=>∃as,acc=as.map Value.ref/\as.length=i/\ZTp xs ys s.heap.objs.size h as/\(IsPair h TI (.ref i1) (.ref i2)/\ItAny t1 h i1 l1 i/\ItAny t2 h i2 l2 i/\SqAny t1 h l1 xs/\SqAny t2 h l2 ys)/\((IsZip h z TI TO .none/\∃a b,IsPair h TO a b) \/ ∃T f oT,h.get? z=some (zpO T TI TO f)/\h.get? T=some oT/\s.heap.objs.size<T)) (fun acc h=>∃as,acc=as.map Value.ref/\as.length=xs.size/\ZTp xs ys s.heap.objs.size h as):=by
 have lz:=Heap.lt_size hz
 have lI:=Heap.lt_size hTI
 have lO:=Heap.lt_size hTO
 have a1:=h1.lt
 have a2:=h2.lt
 have b1:=hl1.lt
 have b2:=hl2.lt
 have sq:∀{t:Bool} {h h':Heap} {l:Addr} {v:Array Value},SqAny t h l v->(∀o,h.get? l=some o->h'.get? l=some o)->SqAny t h' l v:=fun {t} {h h' l v} x k=>by
  cases t
  ·obtain⟨o,e,r⟩:=x;exact⟨o,k o e,r⟩
  ·obtain⟨o,e,r⟩:=x;exact⟨o,k o e,r⟩
 refine⟨⟨_,hz,rfl⟩,by decide,by decide,hn,fun A t Q E k q=>?_,fun A u Q E k zz q=>?_,fun A i acc t Q E hh j hl hi lt q1 q2=>?_,fun i acc h h' j k=>?_,?_⟩
 ·have hT:t.TypeIs (.ref z) "zip" := ⟨_,k _ _ hz,rfl⟩
  unfold Builtin.List.listLengthHint
  wp_walk using wpAny_specialOf hT zip_no_len,wpAny_specialOf hT zip_no_hint
  exact q _ t.toks
 ·exact wpAny_pyIter_zip (k _ _ hz) (q u ⟨[],rfl,rfl,⟨.nil,fun j a e=>by simp at e⟩,⟨k _ _ hTI,h1.at fun o e=>k _ o e,h2.at fun o e=>k _ o e,sq hl1 fun o e=>k _ o e,sq hl2 fun o e=>k _ o e⟩,.inl ⟨k _ _ hz,_,_,k _ _ hTO⟩⟩ fun b o e=>e)
 ·obtain⟨as,rfl,e2,e3,⟨e4,e5,e6,e7,e8⟩,e9⟩:=j
  have old:∀{b:Addr},s.heap.objs.size<b->¬ (b=z\/b=TO\/b=i1\/b=i2):=fun {b} l x=>by
   rcases x with rfl|rfl|rfl|rfl
   ·exact absurd lz (Nat.not_lt.mpr (Nat.le_of_lt l))
   ·exact absurd lO (Nat.not_lt.mpr (Nat.le_of_lt l))
   ·exact absurd a1 (Nat.not_lt.mpr (Nat.le_of_lt l))
   ·exact absurd a2 (Nat.not_lt.mpr (Nat.le_of_lt l))
  have fin:∀h',(xs[i]?=none\/ys[i]?=none)->KP (fun b=>b=z\/b=TO\/b=i1\/b=i2) t.heap h'->Q none {t with heap:=h' }:=fun h' e k=>by
   have:i=xs.size:=by rcases e with e|e<;>rw[Array.getElem?_eq_none_iff]at e<;>omega
   exact q2 h' t.toks this ⟨as,rfl,by omega,e3.keep fun b o l q=>k b o (old l) q⟩ k
  have one:∀x y h',xs[i]?=some x->ys[i]?=some y->ItAny t1 h' i1 l1 (i+1)->ItAny t2 h' i2 l2 (i+1)->IsPair h' t.heap.objs.size x y->KP (fun b=>b=z\/b=TO\/b=i1\/b=i2) t.heap h'->(∃T f oT,h'.get? z=some (zpO T TI TO f)/\h'.get? T=some oT/\s.heap.objs.size<T)->Q (some (.ref t.heap.objs.size)) {t with heap:=h' }:=fun x y h' ex ey i1' i2' hp k st=>by
   refine q1 _ h' t.toks (Array.getElem?_eq_some_iff.mp ex).1 ⟨as++[t.heap.objs.size],by simp,by simp[e2],(e3.keep fun b o l q=>k b o (old l) q).snoc lt (fun a o _ m=>?_) (by rw[e2];exact ex) (by rw[e2];exact ey) hp,⟨k _ _ (fun x=>?_) e4,i1',i2',sq e7 fun o q=>k _ o (fun x=>?_) q,sq e8 fun o q=>k _ o (fun x=>?_) q⟩,.inr st⟩ k
   ·obtain⟨j,hj⟩:=List.mem_iff_getElem?.mp m
    obtain⟨_,_,_,_,_,e⟩:=e3.2 j a hj
    exact Heap.lt_size e
   ·rcases x with x|x|x|x
    ·exact D.TIz x
    ·exact D.TITO x
    ·exact D.TIi1 x
    ·exact D.TIi2 x
   ·rcases x with x|x|x|x
    ·exact D.l1z x
    ·exact D.l1TO x
    ·exact D.l1i1 x
    ·exact D.l1i2 x
   ·rcases x with x|x|x|x
    ·exact D.l2z x
    ·exact D.l2TO x
    ·exact D.l2i1 x
    ·exact D.l2i2 x
  rcases e9 with ⟨c1,c,d,c2⟩|⟨T,f,oT,c1,c2,c3⟩
  ·refine zipN D c1 e4 c2 e5 e6 e7 e8 (fun x y h' ex ey g1 g2 g3 g4 g5 gs gk=>one x y h' ex ey g3 g4 g5 (fun b o n q=>gk b o (fun z=>n (.inl z)) (fun z=>n (.inr (.inl z))) (fun z=>n (.inr (.inr (.inl z)))) (fun z=>n (.inr (.inr (.inr z)))) q) ⟨_,false,_,g1,g5,lt⟩) fun e=>⟨hh,fun h' gk=>fin h' e fun b o n q=>gk b o (fun z=>n (.inl z)) (fun z=>n (.inr (.inl z))) (fun z=>n (.inr (.inr (.inl z)))) (fun z=>n (.inr (.inr (.inr z)))) q⟩
  ·refine zipH D c1 c2 e4 e5 e6 e7 e8 (fun x y h' ex ey g1 g3 g4 g5 gs gk=>one x y h' ex ey g3 g4 g5 (fun b o n q=>gk b o (fun z=>n (.inl z)) (fun z=>n (.inr (.inr (.inl z)))) (fun z=>n (.inr (.inr (.inr z)))) q) ⟨T,true,oT,g1,gk T oT (fun z=>old c3 (.inl z)) (fun z=>old c3 (.inr (.inr (.inl z)))) (fun z=>old c3 (.inr (.inr (.inr z)))) c2,c3⟩) fun e=>⟨hh,fun h' gk=>fin h' e fun b o n q=>gk b o (fun z=>n (.inl z)) (fun z=>n (.inr (.inr (.inl z)))) (fun z=>n (.inr (.inr (.inr z)))) q⟩
 ·obtain⟨as,r1,r2,r3,⟨r4,r5,r6,r7,r8⟩,r9⟩:=j
  refine⟨as,r1,r2,r3.keep fun b o l q=>k b o (Nat.ne_of_gt l) q,⟨k _ _ (Nat.ne_of_lt lI) r4,r5.at fun o q=>k _ o (Nat.ne_of_lt a1) q,r6.at fun o q=>k _ o (Nat.ne_of_lt a2) q,sq r7 fun o q=>k _ o (Nat.ne_of_lt b1) q,sq r8 fun o q=>k _ o (Nat.ne_of_lt b2) q⟩,?_⟩
  rcases r9 with ⟨c1,c,d,c2⟩|⟨T,f,oT,c1,c2,c3⟩
  ·exact .inl ⟨k _ _ (Nat.ne_of_lt lz) c1,c,d,k _ _ (Nat.ne_of_lt lO) c2⟩
  ·exact .inr ⟨T,f,oT,k _ _ (Nat.ne_of_lt lz) c1,k _ _ (Nat.ne_of_gt c3) c2,c3⟩
 ·rintro (x|x|x|x)
  ·exact absurd x (Nat.ne_of_gt lz)
  ·exact absurd x (Nat.ne_of_gt lO)
  ·exact absurd x (Nat.ne_of_gt a1)
  ·exact absurd x (Nat.ne_of_gt a2)
end
end PySem
namespace Nest
def sl (row:List Int)(b i:Nat):List Int:=(row.take i).drop b
def outF (p e:Int)(s:List Int×Int)(x:Int):List Int×Int:=if x=e then (s.1,s.2-1) else (if s.2=0 then s.1++[x] else s.1,if p<=x then s.2+1 else s.2)
def outS (p e:Int)(l:List Int):List Int×Int:=l.foldl (outF p e) ([],0)
def outW (p e:Int)(l:List Int):List Int:=(outS p e l).1
def wd (p e:Int)(row:List Int)(i a:Nat):List Int:=outW p e (sl row (a+1) i)
end Nest
namespace L2
open PySem PySem.Spec PyProof.Rows
theorem op_catT2K {X:Cx}{K:PySem.W.Frag}(h:X.K=K):OpR X (binaryOp .Add) (rCatT2 K):=by subst h;exact op_catT2
end L2
namespace L2
open PySem PySem.W PySem.Spec PySem.Calls PyProof.Rows
theorem meets_lenH {prog:Program}{w:World}{κ:Type}[DecidableEq κ](knd:HeapKind prog w κ){d:Addr}(hd:(d==sysModules)=false):
  MeetsIn prog w (Builtin.«dict.__len__» ⟨[.ref d],[]⟩) (fun _ R s=>∃xs,s.heap.DictOfH knd d xs/\R (.ok (.ret (.int (xs.length:Nat) s.toks))) {s with toks:=s.toks+1}):=
 .of_wp fun A R s ⟨xs,⟨o,es,ep,ho,_,hdat,he,_⟩,h⟩=>by
  show wpAny _ _ (dictSize d >>= _) _ _ s
  unfold dictSize
  refine wpAny_bind (wpAny_bind (wpAny_dictEntries ho hdat (wpAny_pure ?_)))
  refine wpAny_bind (wpAny_pendingCount_other hd (wpAny_ret_mkInt ?_))
  rw[Nat.add_zero,size_of_entries he]
  exact h
theorem len_dT {prog:Program}{w:World}{κ:Type}[DecidableEq κ]{knd:HeapKind prog w κ}{A:Around}{E:Value->Shared->Prop}{s:Shared}{d:Addr}{xs:List (κ×Addr×Value)}{Q:Value->Shared->Prop}(hd:(d==sysModules)=false)(hm:s.heap.DictOfH knd d xs)(hfit:(xs.length:Int)<2 ^ 63)
  (h:Q (.int xs.length (s.toks+1)) {s with toks:=s.toks+1+1}):wpAny (model prog w) A (call (.builtin "len") [.ref d]) Q E s:=by
 refine Calls.call_function_entry kind_len plain_len entry_len (args_len1 _) ?_
 unfold Builtin.«len»
 refine wpAny_bind (m:=oneArg "len" _) (wpAny_pure (wpAny_bind (m:=callSpecial? (.ref d) (Str.ofString "__len__")) (wpAny_callSpecial?_slot (name:=Str.ofString "__len__") hm.typeIs F.slot_dict_len (call_meetsIn F.slot_dict_len hm.typeIs F.entry_dict_len (F.args_dict_len_1 _) (meets_lenH knd hd) ⟨xs,hm,?_⟩))))
 show wpAny _ _ _ _ _ {s with toks:=s.toks+1}
 refine wpAny_bind (wpAny_holding (wpAny_pure (wpAny_bind (wpAny_letGo ?_))))
 show wpAny _ _ (if ((xs.length:Nat):Int)<0 then _ else _) _ _ _
 rw[if_neg (by omega)]
 show wpAny _ _ (if ((xs.length:Nat):Int) >= 2 ^ 63 then _ else _) _ _ _
 rw[if_neg (by omega)]
 exact wpAny_bind (wpAny_mkInt (wpAny_pure ⟨_,rfl,h⟩))
theorem call_len_dictT {X:Cx}:CallR X (.builtin "len") (fun xs H Q=>∃p kvs,xs=[.ref p]/\H p=some (.dT kvs)/\Q (.int kvs.length) H):=by
 intro pins s σ H xs us Q I r h
 obtain⟨p,kvs,rfl,e,q⟩:=h
 obtain⟨u,rfl,rx⟩:=vals1 r
 cases rx
 obtain⟨z,hd,xs,rel,dd⟩:=dt_of I.hok e
 have hn:=line63
 have hlen:kvs.length=xs.length:=rel.length
 exact len_dT hd dd (by omega) ⟨.int kvs.length,H,I.tok _,⟨_,by rw[hlen]⟩,q⟩
end L2
set_option maxHeartbeats 1000000
set_option maxHeartbeats 4000000
namespace L2
open PySem PySem.W PySem.Spec PySem.Calls PyProof.Rows
theorem list_zip {X:Cx}{pins:List (Addr×Obj)}{σ:St}{H:Hp}{s:Shared}{t1 t2:Bool}{a b:Addr}{xs ys:List V}{us vs:List Value}{Q:VK}(I:Inv X pins σ H s)(hc:X.calm=true)(rv:Vals xs us)(rw2:Vals ys vs)(pl:SqAny t1 s.heap a us.toArray)(pl2:SqAny t2 s.heap b vs.toArray)(hlen:xs.length=ys.length)(hz:xs.length<=sizeLine)
  (q:∀l rs H',Same H H'->H' l=none->rs.length=xs.length->(∀(i:Nat) (x y:V),xs[i]?=some x->ys[i]?=some y->∃t,rs[i]?=some (V.ref t)/\H' t=some (.tup [x,y]))->Q (.ref l) (upd H' l (.lst rs))):
  wpAny (model X.prog X.w) X.A (call (.type "zip") [.ref a,.ref b]) (fun v s2=>wpAny (model X.prog X.w) X.A (call (.type "list") [v]) (EP X pins σ Q) X.xe s2) X.xe s:=by
 have l1:=rv.length
 have l2:=rw2.length
 refine call_zip_2G pl pl2 fun h1 z1 z2 z3 z4 z5 z6 z7=>?_
 have sq:∀{t:Bool} {l:Addr} {v:Array Value},SqAny t s.heap l v->SqAny t h1 l v:=fun {t} {l v} x=>by
  cases t
  ·obtain⟨o,e,r⟩:=x;exact⟨o,z7 _ o e,r⟩
  ·obtain⟨o,e,r⟩:=x;exact⟨o,z7 _ o e,r⟩
 have G:Gat X.prog X.w {s with heap:=h1} (s.heap.objs.size+4) _ "zip" us.toArray.size _ _ _:=zip_gat (s:={s with heap:=h1}) (zipApart_new pl.lt pl2.lt) (by rw[List.size_toArray,<-l1];exact hz) (by simp;omega) z1 z2 z3 z4 z5 (sq pl) (sq pl2)
 refine G.list (I.ok.hd hc) fun h' tk acc c ⟨as,f1,f2,f3⟩ _ hS k4=>?_
 have hle:s.heap.objs.size<=h1.objs.size:=by omega
 have hk:∀b o,s.heap.get? b=some o->h'.get? b=some o:=fun b o e=>by
  have:=Heap.lt_size e
  refine k4 b o (fun x=>?_) (z7 b o e)
  rcases x with x|x|x|x
  ·exact absurd x (Nat.ne_of_lt (Nat.lt_of_lt_of_le this (Nat.le_add_right _ 4)))
  ·exact absurd x (Nat.ne_of_lt (Nat.lt_of_lt_of_le this (Nat.le_add_right _ 3)))
  ·exact absurd x (Nat.ne_of_lt this)
  ·exact absurd x (Nat.ne_of_lt (Nat.lt_of_lt_of_le this (Nat.le_add_right _ 1)))
 have hal:as.length=xs.length:=by simp at f2;omega
 let cs:List (List V):=(xs.zip ys).map fun p=>[p.1,p.2]
 have hcl:cs.length=xs.length:=by simp[cs,hlen]
 have hci:∀(i:Nat) (x y:V),xs[i]?=some x->ys[i]?=some y->cs[i]?=some [x,y]:=fun i x y h1 h2=>by
  simp only[cs]
  rw[List.getElem?_map,show (xs.zip ys)[i]?=some (x,y) from List.getElem?_zip_eq_some.mpr ⟨h1,h2⟩];rfl
 have hzz:(as.zip cs).map (·.1)=as:=List.map_fst_zip (by rw[hal,hcl];exact Nat.le_refl _)
 have hmem:∀p∈as.zip cs,∃(i:Nat) (x y:V),as[i]?=some p.1/\xs[i]?=some x/\ys[i]?=some y/\p.2=[x,y]:=fun p hp=>by
  obtain⟨i,hi⟩:=List.mem_iff_getElem?.mp hp
  obtain⟨e1,e2⟩:=List.getElem?_zip_eq_some.mp hi
  have l:i<xs.length:=by rw[<-hal];exact (List.getElem?_eq_some_iff.mp e1).1
  have ex:xs[i]?=some xs[i]:=by simp
  have ey:ys[i]?=some (ys[i]'(by omega)):=by simp
  rw[hci i _ _ ex ey]at e2
  exact⟨i,_,_,e1,ex,ey,(Option.some.inj e2).symm⟩
 have ab:∀x∈as,h1.objs.size<x:=fun x hx=>by
  obtain⟨j,hj⟩:=List.mem_iff_getElem?.mp hx
  exact (f3.2 j x hj).1
 have fr:∀p∈as.zip cs,h1.objs.size<p.1:=fun p hp=>by
  obtain⟨i,_,_,e,_⟩:=hmem p hp
  exact ab _ (List.mem_of_getElem? e)
 obtain⟨H2,e1,e2,e3,e4,e5⟩:=lay_tups (as.zip cs) (by rw[hzz];exact f3.1.imp fun a=>Nat.ne_of_lt a) (fun p hp=>by
  obtain⟨i,x,y,g1,g2,g3,g4⟩:=hmem p hp
  obtain⟨u,hu,ru⟩:=rv.get g2
  obtain⟨v,hv,rv'⟩:=rw2.get g3
  obtain⟨_,x',y',b1,b2,b3⟩:=f3.2 i p.1 g1
  obtain rfl:u=x':=by simpa [hu] using b1
  obtain rfl:v=y':=by simpa [hv] using b2
  refine⟨Nat.le_of_lt (Nat.lt_of_le_of_lt hle (fr p hp)),by rw[g4];have:=line1000;simp;omega,[u,v],?_,⟨_,b3,rfl,0,rfl⟩⟩
  rw[g4]
  exact Vals.two' ru rv') H (Un.kept hk) (I.hok.kept hk) (fun p hp=>I.hok.fresh (Nat.le_of_lt (Nat.lt_of_le_of_lt hle (fr p hp))))
 have hD:H2 h1.objs.size=none:=by
  rw[e5 _ (by rw[hzz];exact fun z=>absurd (ab _ z) (Nat.lt_irrefl _))]
  exact I.hok.fresh hle
 have new:ObjOk X.prog X.w (upd H2 h1.objs.size (.lst (as.map V.ref))) h' h1.objs.size (.lst (as.map V.ref)):=⟨by rw[List.length_map,hal];exact hz,as.map Value.ref,c,valsR as,by rw[<-f1];exact hS⟩
 refine⟨.ref h1.objs.size,_,I.un (t':=tk) (e1.track hle hD) (e2.track hD new),rfl,q _ _ H2 e3 hD (by rw[List.length_map,hal]) fun i x y hx hy=>?_⟩
 have hi:i<as.length:=by rw[hal];exact (List.getElem?_eq_some_iff.mp hx).1
 have hai:as[i]?=some as[i]:=by simp[hi]
 exact⟨as[i],by rw[List.getElem?_map,hai];rfl,e4 (as[i],[x,y]) (List.mem_iff_getElem?.mpr ⟨i,List.getElem?_zip_eq_some.mpr ⟨hai,hci i x y hx hy⟩⟩)⟩
def tListZip (K:PySem.W.Frag)(ta:TA):TE:=fun σ H Q=>ta σ H fun vs H1=>∃a b xs ys,vs=[.ref a,.ref b]/\SqL K H1 a xs/\SqL K H1 b ys/\xs.length=ys.length/\∀l rs H',Same H1 H'->H' l=none->rs.length=xs.length ->
 (∀(i:Nat) (x y:V),xs[i]?=some x->ys[i]?=some y->∃t,rs[i]?=some (V.ref t)/\H' t=some (.tup [x,y]))->Q (.ref l) (upd H' l (.lst rs))
theorem r_listZip {K:PySem.W.Frag}{ta:TA}{σ:St}{H:Hp}{Q:VK}:tListZip K ta σ H Q=ta σ H fun vs H1=>∃a b xs ys,vs=[.ref a,.ref b]/\SqL K H1 a xs/\SqL K H1 b ys/\xs.length=ys.length/\∀l rs H',Same H1 H'->H' l=none->rs.length=xs.length ->
 (∀(i:Nat) (x y:V),xs[i]?=some x->ys[i]?=some y->∃t,rs[i]?=some (V.ref t)/\H' t=some (.tup [x,y]))->Q (.ref l) (upd H' l (.lst rs)):=rfl
theorem pe_listZip {X:Cx}{e f:Expr}{ta:TA}{p p2 pos pos2:Pos}(hc:X.calm=true)(hg:Gl X "list")(hm:X.mg "list"=none)(hg2:Gl X "zip")(hm2:X.mg "zip"=none)(ha:PA X [e,f] ta)
  (hs1:starEach [.Call (.Name "zip" p2) [e,f] [] pos2] X.env=[(false,eval (.Call (.Name "zip" p2) [e,f] [] pos2) X.env)]:=by rfl) (hs:starEach [e,f] X.env=[(false,eval e X.env),(false,eval f X.env)]:=by rfl) (hs2:starEach [f] X.env=[(false,eval f X.env)]:=by rfl):
  PE X (.Call (.Name "list" p) [.Call (.Name "zip" p2) [e,f] [] pos2] [] pos) (tListZip X.K ta):=by
 intro pins s σ H Q I h
 refine wpAny_Call_Name_kw (ld_blt I hg hm boot_list ?_)
 refine PyProof.Rows.callWith_type1 ?_ hs1 rfl
 rw[hs1]
 refine Calls.spliced_cons ?_
 refine Call_ (ld_blt I hg2 hm2 boot_zip (PyProof.Rows.callWith_type1 (thn (ha pos2 pins s σ H _ I h) fun us s1 ⟨vs,H1,I1,r1,q1⟩=>?_) (by rw[hs,hs2]) (by rw[hs2];rfl)))
 obtain⟨a,b,xs,ys,ev,hq,hq2,hlen,q⟩:=q1
 subst ev
 cases r1 with
 |cons r rr=>cases rr with
  |cons r' rr=>
   cases rr
   cases r
   cases r'
   obtain⟨its,rv,pl,hzl⟩:=I1.list hq
   obtain⟨its2,rv2,pl2,_⟩:=I1.list hq2
   exact wpAny_mono (list_zip (t1:=false) (t2:=false) I1 hc rv rv2 pl.isList pl2.isList hlen hzl q) (fun v s2 h=>Calls.spliced_nil h) fun _ _ e=>e
theorem call_maxL {X:Cx}(hc:X.calm=true):CallR X (.builtin "max") (fun xs H Q=>∃(p:Addr) (ns:List Int) (m:Int),xs=[.ref p]/\SqL X.K H p (ns.map V.int)/\m∈ns/\(∀x∈ns,x<=m)/\Q (.int m) H):=by
 intro pins s σ H xs us Q I r h
 obtain⟨p,ns,m,rfl,hq,hm,hmax,q⟩:=h
 obtain⟨u,rfl,rx⟩:=vals1 r
 cases rx
 obtain⟨its,r',pl,_⟩:=I.list hq
 have hi:IntsAre its ns:=by simpa using intsAre_of r'
 obtain⟨zs,e⟩:=hi.allInts.items
 have hns:ns=zs.toList.map (·.1):=by rw[<-hi.numsOf,<-nums_intItems,<-e]
 have hne:0<ns.length:=List.length_pos_of_mem hm
 have hsz:0<zs.size:=by rw[hns,List.length_map,Array.length_toList]at hne;exact hne
 have hl:=pl.isList
 rw[e]at hl
 refine max_intList (I.ok.hd hc) hl hsz fun v h' tk hv hk=>?_
 obtain⟨t,rfl⟩:=intItems_at hv
 obtain⟨h1,h2⟩:=argBest_gt (numAt zs) (zs.size-1)
 have g1:numAt zs (argBest (fun i j=>decide (numAt zs i > numAt zs j)) (zs.size-1))∈ns:=by
  rw[hns,numAt_eq];exact getD_mem (by rw[List.length_map,Array.length_toList];omega)
 have g2:m<=numAt zs (argBest (fun i j=>decide (numAt zs i > numAt zs j)) (zs.size-1)):=by
  rw[hns]at hm
  obtain⟨j,hj,rfl⟩:=mem_getD hm
  rw[List.length_map,Array.length_toList]at hj
  rw[<-numAt_eq];exact h2 j (by omega)
 have g3:=hmax _ g1
 have g4:numAt zs (argBest (fun i j=>decide (numAt zs i > numAt zs j)) (zs.size-1))=m:=by omega
 exact⟨.int m,H,I.kept hk,⟨t,by rw[g4]⟩,q⟩
theorem call_lenB {X:Cx}:CallR X (.builtin "len") (fun xs H Q=>(∃a kvs,xs=[V.ref a]/\H a=some (.dK kvs)/\Q (.int kvs.length) H) \/ ∃p kvs,xs=[.ref p]/\H p=some (.dT kvs)/\Q (.int kvs.length) H):=
 CallR.or (by
  intro pins s σ H xs us Q I r h
  obtain⟨a,kvs,rfl,ha,q⟩:=h
  obtain⟨u,rfl,ru⟩:=vals1 r
  cases ru
  exact d_len I (.inl ha) fun t s' I'=>⟨.int kvs.length,H,I',⟨t,rfl⟩,q⟩) call_len_dictT
def rIxB (K:PySem.W.Frag):R2:=fun x y H Q=>rIxL K x y H Q\/rIxT K x y H Q
theorem ix_seqK {X:Cx}{K:PySem.W.Frag}(h:X.K=K):IxR X (rIxB K):=IxR.or (ix_listK h) (ix_tupK h)
theorem r_ixB {K:PySem.W.Frag}{x y:V}{H:Hp}{Q:VK}:rIxB K x y H Q=((∃p xs i v,x=.ref p/\y=.int i/\SqL K H p xs/\atI xs i=some v/\Q v H) \/ ∃p xs i v,x=.ref p/\y=.int i/\SqT K H p xs/\atI xs i=some v/\Q v H):=rfl
def tDNewB:TE:=fun σ H Q=>tDNewK σ H Q\/tDNewT σ H Q
theorem r_dnewB {σ:St}{H:Hp}{Q:VK}:tDNewB σ H Q=((∀p,H p=none->Q (.ref p) (upd H p (.dK []))) \/ ∀p,H p=none->Q (.ref p) (upd H p (.dT []))):=rfl
theorem pe_dnewB {X:Cx}{pos:Pos}:PE X (.Dict [] [] pos) tDNewB:=fun pins s σ H Q I h=>h.elim (fun h=>pe_dnewK pins s σ H Q I h) (fun h=>pe_dnewT pins s σ H Q I h)
end L2
namespace L2
section
variable {α:Type} [DecidableEq α]
def ins1 (acc:List α)(x:α):List α:=if x∈acc then acc else acc++[x]
def firstsA (acc row:List α):List α:=row.foldl ins1 acc
def firsts (row:List α):List α:=firstsA [] row
theorem mem_ins1 {acc:List α}{x y:α}:y∈ins1 acc x↔y∈acc\/y=x:=by
 unfold ins1
 split
 ·rename_i h
  constructor
  ·exact .inl
  ·rintro (h' | rfl)
   ·exact h'
   ·exact h
 ·simp
theorem mem_firstsA:∀{row acc:List α} {y:α},y∈firstsA acc row↔y∈acc\/y∈row
 |[],acc,y=>by simp[firstsA]
 |x::row,acc,y=>by
  show y∈firstsA (ins1 acc x) row↔_
  rw[mem_firstsA,mem_ins1,List.mem_cons,or_assoc]
theorem mem_firsts {row:List α}{y:α}:y∈firsts row↔y∈row:=by
 unfold firsts
 rw[mem_firstsA];simp
theorem nodup_ins1 {acc:List α}{x:α}(h:acc.Nodup):(ins1 acc x).Nodup:=by
 unfold ins1
 split
 ·exact h
 ·rename_i hx
  exact List.nodup_append.mpr ⟨h,by simp,fun a ha b hb z=>by simp at hb;subst z hb;exact hx ha⟩
theorem nodup_firstsA:∀{row acc:List α},acc.Nodup->(firstsA acc row).Nodup
 |[],acc,h=>h
 |x::row,acc,h=>nodup_firstsA (row:=row) (nodup_ins1 h)
theorem nodup_firsts (row:List α):(firsts row).Nodup:=nodup_firstsA List.nodup_nil
theorem firsts_snoc (row:List α)(x:α):firsts (row++[x])=ins1 (firsts row) x:=by
 unfold firsts firstsA
 rw[List.foldl_append];rfl
theorem idx_inj {l:List α}{x y:α}(hx:x∈l)(hy:y∈l)(h:l.idxOf x=l.idxOf y):x=y:=by
 have h1:=List.idxOf_lt_length_of_mem hx
 have h2:=List.idxOf_lt_length_of_mem hy
 have e1:l[l.idxOf x]=x:=List.getElem_idxOf h1
 have e2:l[l.idxOf y]=y:=List.getElem_idxOf h2
 rw[<-e1,<-e2]
 congr 1
def num (row:List α):List Int:=row.map fun x=>((firsts row).idxOf x:Int)
theorem num_length (row:List α):(num row).length=row.length:=by unfold num;rw[List.length_map]
theorem firstsA_map {β:Type}[DecidableEq β](f:α->β):∀(row acc:List α),(∀x y,x∈acc\/x∈row->y∈acc\/y∈row->f x=f y->x=y)->firstsA (acc.map f) (row.map f)=(firstsA acc row).map f
 |[],acc,_=>rfl
 |x::row,acc,h=>by
  show firstsA (ins1 (acc.map f) (f x)) (row.map f)=(firstsA (ins1 acc x) row).map f
  have e:ins1 (acc.map f) (f x)=(ins1 acc x).map f:=by
   unfold ins1
   by_cases hx:x∈acc
   ·rw[if_pos hx,if_pos (List.mem_map_of_mem hx)]
   ·rw[if_neg hx,if_neg,List.map_append];rfl
    intro z
    obtain⟨y,hy,e⟩:=List.mem_map.mp z
    have:=h y x (.inl hy) (.inr (List.mem_cons_self ..)) e
    subst this
    exact hx hy
  rw[e]
  refine firstsA_map f row _ fun a b ha hb=>h a b ?_ ?_
  ·rcases ha with ha|ha
   ·rcases mem_ins1.mp ha with ha|rfl
    ·exact .inl ha
    ·exact .inr (List.mem_cons_self ..)
   ·exact .inr (List.mem_cons_of_mem _ ha)
  ·rcases hb with hb|hb
   ·rcases mem_ins1.mp hb with hb|rfl
    ·exact .inl hb
    ·exact .inr (List.mem_cons_self ..)
   ·exact .inr (List.mem_cons_of_mem _ hb)
def ncl (row:List α):Nat:=(firsts row).length
theorem ncl_num (row:List α):ncl (num row)=ncl row:=by
 unfold ncl num firsts
 have:=firstsA_map (fun x=>((firsts row).idxOf x:Int)) row [] (fun x y hx hy e=>by
  simp at hx hy
  exact idx_inj (mem_firsts.mpr hx) (mem_firsts.mpr hy) (by omega))
 unfold firsts at this
 simp only[List.map_nil]at this
 rw[this,List.length_map]
theorem num_at {row:List α}{i:Nat}{x:α}(h:row[i]?=some x):(num row)[i]?=some ((firsts row).idxOf x:Int):=by
 unfold num
 rw[List.getElem?_map,h];rfl
theorem num_iff {row:List α}{i j:Nat}{x y:α}(hx:row[i]?=some x)(hy:row[j]?=some y):(num row)[i]?=(num row)[j]? ↔ x=y:=by
 rw[num_at hx,num_at hy]
 constructor
 ·intro h
  have:=Option.some.inj h
  exact idx_inj (mem_firsts.mpr (List.mem_of_getElem? hx)) (mem_firsts.mpr (List.mem_of_getElem? hy)) (by omega)
 ·rintro rfl;rfl
theorem num_lt {row:List α}{n:Int}(h:n∈num row):0<=n/\n<ncl row:=by
 unfold num at h
 obtain⟨x,hx,rfl⟩:=List.mem_map.mp h
 have:=List.idxOf_lt_length_of_mem (mem_firsts.mpr hx)
 exact⟨by omega,by unfold ncl;omega⟩
theorem num_top {row:List α}(h:row ≠ []):((ncl row:Int)-1)∈num row:=by
 have hne:firsts row ≠ []:=fun z=>by
  cases row with
  |nil=>exact h rfl
  |cons x row=>
   have:x∈firsts (x::row):=mem_firsts.mpr (List.mem_cons_self ..)
   rw[z]at this;cases this
 have hpos:0<(firsts row).length:=List.length_pos_iff.mpr hne
 have hlt:(firsts row).length-1<(firsts row).length:=by omega
 refine List.mem_map.mpr ⟨(firsts row)[(firsts row).length-1],mem_firsts.mp (List.getElem_mem hlt),?_⟩
 have e:=(nodup_firsts row).idxOf_getElem _ hlt
 rw[e]
 unfold ncl
 omega
theorem ncl_pos {row:List α}(h:row ≠ []):1<=ncl row:=by
 have h1:=num_top h
 have:=num_lt h1
 omega
theorem ncl_le (row:List α):ncl row<=row.length:=by
 unfold ncl
 have:∀(row acc:List α),(firstsA acc row).length<=acc.length+row.length:=fun row=>by
  induction row with
  |nil=>intro acc;exact Nat.le_refl _
  |cons x row ih=>
   intro acc
   have:=ih (ins1 acc x)
   have h2:(ins1 acc x).length<=acc.length+1:=by unfold ins1;split<;>simp
   show (firstsA (ins1 acc x) row).length<=_
   rw[List.length_cons];omega
 have:=this row []
 simpa [firsts] using this
end
theorem nod_sub' {α:Type}[DecidableEq α]:∀{l m:List α},l.Nodup->(∀x∈l,x∈m)->l.length<=m.length
 |[],m,_,_=>Nat.zero_le _
 |x::l,m,hn,h=>by
  have hx:=h x (List.mem_cons_self ..)
  have h1:=List.nodup_cons.mp hn
  have:=nod_sub' (m:=m.erase x) h1.2 fun y hy=>by
   have hne:y≠x:=fun z=>h1.1 (z ▸ hy)
   exact (List.mem_erase_of_ne hne).mpr (h y (List.mem_cons_of_mem _ hy))
  rw[List.length_erase_of_mem hx]at this
  have hp:0<m.length:=List.length_pos_of_mem hx
  rw[List.length_cons];omega
theorem inj_of_len {α β:Type}[DecidableEq α][DecidableEq β](f:α->β){l:List α}{m:List β}(hl:l.Nodup)(hm:m.Nodup)(hs:∀y∈m,∃x∈l,f x=y)(hlen:l.length<=m.length){x y:α}(hx:x∈l)(hy:y∈l)(e:f x=f y):x=y:=by
 refine Decidable.byContradiction fun hne=>?_
 have hsub:∀z∈m,z∈(l.erase y).map f:=fun z hz=>by
  obtain⟨u,hu,rfl⟩:=hs z hz
  by_cases huy:u=y
  ·subst huy
   exact List.mem_map.mpr ⟨x,(List.mem_erase_of_ne hne).mpr hx,e⟩
  ·exact List.mem_map.mpr ⟨u,(List.mem_erase_of_ne huy).mpr hu,rfl⟩
 have:=nod_sub' hm hsub
 rw[List.length_map,List.length_erase_of_mem hy]at this
 have hp:0<l.length:=List.length_pos_of_mem hy
 omega
theorem finer_same {α β:Type}[DecidableEq α][DecidableEq β]{row:List (α×β)}(h:ncl row<=ncl (row.map (·.1))){x y:α×β}(hx:x∈row)(hy:y∈row)(e:x.1=y.1):x.2=y.2:=by
 have h':(firsts row).length<=(firsts (row.map fun p:α×β=>p.1)).length:=h
 have:=inj_of_len (fun p:α×β=>p.1) (nodup_firsts row) (nodup_firsts (row.map fun p:α×β=>p.1)) (fun z hz=>by
  obtain⟨p,hp,rfl⟩:=List.mem_map.mp (mem_firsts.mp hz)
  exact⟨p,mem_firsts.mpr hp,rfl⟩) h' (mem_firsts.mpr hx) (mem_firsts.mpr hy) e
 rw[this]
theorem ncl_inj {α β:Type}[DecidableEq α][DecidableEq β]{row:List (α×β)}(h:∀x∈row,∀y∈row,x.1=y.1->x=y):ncl (row.map (·.1))=ncl row:=by
 unfold ncl firsts
 have:=firstsA_map (fun p:α×β=>p.1) row [] (fun x y hx hy e=>by
  simp at hx hy
  exact h x hx y hy e)
 simp only[List.map_nil]at this
 rw[this,List.length_map]
structure WC (L:Int)(n:Nat)(b:List Int->Nat->Int)(words:List (List Int))(c:List Int):Prop where
 w0:words[0]?=some []
 ok:∀w∈words,∀x∈w,0<=x/\x<L
 tl:∀(k:Nat) (w:List Int),words[k]?=some w->0<k->w.tail∈words.take k
 nd:words.Nodup
 len:c.length=n
 rng:∀v∈c,0<=v/\v<ncl c
 top:((ncl c:Int)-1)∈c
 iff:∀r s,r<n->s<n->(c[r]?=c[s]? ↔ ∀w∈words,b w r=b w s)
 le:words.length<=ncl c
def rowB (n:Nat)(b:List Int->Nat->Int)(w:List Int):List Int:=(List.range n).map (b w)
theorem rowB_at {n:Nat}{b:List Int->Nat->Int}{w:List Int}{r:Nat}(hr:r<n):(rowB n b w)[r]?=some (b w r):=by
 unfold rowB
 rw[List.getElem?_map,List.getElem?_range hr];rfl
theorem zip_fst {c m:List Int}(h:c.length=m.length):(c.zip m).map (·.1)=c:=by
 rw[List.map_fst_zip (by omega)]
theorem zip_at {c m:List Int}{r:Nat}{u v:Int}(hu:c[r]?=some u)(hv:m[r]?=some v):(c.zip m)[r]?=some (u,v):=by
 rw[List.getElem?_zip_eq_some];exact⟨hu,hv⟩
section
variable {L:Int} {n:Nat} {b:List Int->Nat->Int} {words:List (List Int)} {c:List Int} {w:List Int} {x:Int}
theorem WC.start (hn:1<=n):WC L n b [[]] (num (rowB n b [])):=by
 have hne:rowB n b [] ≠ []:=fun z=>by
  have:=congrArg List.length z
  unfold rowB at this
  simp at this;omega
 refine⟨rfl,(fun w hw x hx=>by simp at hw;subst hw;cases hx),fun k w hk h0=>?_,by simp,by rw[num_length];unfold rowB;simp,fun v hv=>?_,?_,fun r s hr hs=>?_,?_⟩
 ·cases k with
  |zero=>omega
  |succ k=>simp at hk
 ·rw[ncl_num];exact num_lt hv
 ·rw[ncl_num];exact num_top hne
 ·rw[num_iff (rowB_at hr) (rowB_at hs)]
  simp
 ·rw[ncl_num]
  exact ncl_pos hne
theorem WC.at (h:WC L n b words c){r:Nat}(hr:r<n):∃u,c[r]?=some u:=⟨c[r]'(by rw[h.len];exact hr),by simp[h.len,hr]⟩
theorem rowB_len:(rowB n b w).length=n:=by unfold rowB;simp
theorem WC.zlen (h:WC L n b words c):c.length=(rowB n b w).length:=by rw[h.len,rowB_len]
theorem WC.same (h:WC L n b words c)(hle:ncl (c.zip (rowB n b w))<=ncl c){r s:Nat}(hr:r<n)(hs:s<n)(e:c[r]?=c[s]?):b w r=b w s:=by
 obtain⟨u,hu⟩:=h.at hr
 obtain⟨v,hv⟩:=h.at hs
 have huv:u=v:=by rw[hu,hv]at e;exact Option.some.inj e
 have h1:=List.mem_of_getElem? (zip_at hu (rowB_at (b:=b) (w:=w) hr))
 have h2:=List.mem_of_getElem? (zip_at hv (rowB_at (b:=b) (w:=w) hs))
 exact finer_same (by rw[zip_fst (h.zlen)];exact hle) h1 h2 huv
theorem zip_mem {c m:List Int}{p:Int×Int}(hp:p∈c.zip m):∃r:Nat,c[r]?=some p.1/\m[r]?=some p.2:=by
 obtain⟨r,hr⟩:=List.mem_iff_getElem?.mp hp
 have:=List.getElem?_zip_eq_some.mp (show (c.zip m)[r]?=some (p.1,p.2) from hr)
 exact⟨r,this.1,this.2⟩
theorem WC.told (h:WC L n b words c)(hs:∀r s,r<n->s<n->c[r]?=c[s]?->b w r=b w s):ncl (c.zip (rowB n b w))<=ncl c:=by
 have e:=ncl_inj (row:=c.zip (rowB n b w)) fun p hp q hq e=>by
  obtain⟨r,p1,p2⟩:=zip_mem hp
  obtain⟨s,q1,q2⟩:=zip_mem hq
  have hr:r<n:=by rw[<-h.len];exact (List.getElem?_eq_some_iff.mp p1).1
  have hs':s<n:=by rw[<-h.len];exact (List.getElem?_eq_some_iff.mp q1).1
  have:=hs r s hr hs' (by rw[p1,q1,e])
  rw[rowB_at hr]at p2
  rw[rowB_at hs']at q2
  have e2:p.2=q.2:=by rw[<-Option.some.inj p2,<-Option.some.inj q2,this]
  exact Prod.ext e e2
 rw[<-e,zip_fst h.zlen]
 exact Nat.le_refl _
theorem WC.more (h:WC L n b words c)(hn:1<=n)(hw:w∈words)(hx:0<=x/\x<L)(hgt:ncl c<ncl (c.zip (rowB n b (x::w)))):WC L n b (words++[x::w]) (num (c.zip (rowB n b (x::w)))):=by
 have hnew:x::w∉words:=fun hm=>by
  have:=h.told (w:=x::w) fun r s hr hs e=>((h.iff r s hr hs).mp e) _ hm
  omega
 have hzl:(c.zip (rowB n b (x::w))).length=n:=by rw[List.length_zip,h.len,rowB_len];omega
 have hne:c.zip (rowB n b (x::w)) ≠ []:=fun z=>by rw[z]at hzl;simp at hzl;omega
 have hpos:0<words.length:=by
  have:=(List.getElem?_eq_some_iff.mp h.w0).1
  exact this
 refine⟨by rw[List.getElem?_append_left hpos];exact h.w0,fun v hv y hy=>?_,fun k v hk h0=>?_,?_,by rw[num_length,hzl],fun v hv=>?_,?_,fun r s hr hs=>?_,?_⟩
 ·rcases List.mem_append.mp hv with hv|hv
  ·exact h.ok v hv y hy
  ·rw[List.mem_singleton.mp hv]at hy
   rcases List.mem_cons.mp hy with rfl|hy
   ·exact hx
   ·exact h.ok w hw y hy
 ·by_cases hkl:k<words.length
  ·rw[List.getElem?_append_left hkl]at hk
   rw[List.take_append_of_le_length (by omega)]
   exact h.tl k v hk h0
  ·have:=(List.getElem?_eq_some_iff.mp hk).1
   rw[List.length_append,List.length_singleton]at this
   have e:k=words.length:=by omega
   subst e
   rw[List.getElem?_append_right (Nat.le_refl _),Nat.sub_self]at hk
   simp at hk
   subst hk
   rw[List.take_left']
   ·exact hw
   ·rfl
 ·exact List.nodup_append.mpr ⟨h.nd,by simp,fun a ha y hy z=>by simp at hy;subst z hy;exact hnew ha⟩
 ·rw[ncl_num];exact num_lt hv
 ·rw[ncl_num];exact num_top hne
 ·obtain⟨u,hu⟩:=h.at hr
  obtain⟨v,hv⟩:=h.at hs
  rw[num_iff (zip_at hu (rowB_at hr)) (zip_at hv (rowB_at hs))]
  constructor
  ·intro e y hy
   rcases List.mem_append.mp hy with hy|hy
   ·exact ((h.iff r s hr hs).mp (by rw[hu,hv,(Prod.mk.inj e).1])) y hy
   ·rw[List.mem_singleton.mp hy];exact (Prod.mk.inj e).2
  ·intro e
   have e1:=(h.iff r s hr hs).mpr fun y hy=>e y (List.mem_append_left _ hy)
   rw[hu,hv]at e1
   have e2:=e (x::w) (List.mem_append_right _ (List.mem_singleton.mpr rfl))
   rw[Option.some.inj e1,e2]
 ·rw[List.length_append,List.length_singleton,ncl_num]
  have:=h.le
  omega
def Told (n:Nat)(b:List Int->Nat->Int)(c:List Int)(w:List Int):Prop:=∀r s,r<n->s<n->c[r]?=c[s]?->b w r=b w s
theorem WC.finer (h:WC L n b words c)(hz:c.length=n){u:List Int}(ht:Told n b c u):Told n b (num (c.zip (rowB n b w))) u:=fun r s hr hs e=>by
 obtain⟨p,hp⟩:=h.at hr
 obtain⟨q,hq⟩:=h.at hs
 have:=(num_iff (zip_at hp (rowB_at (b:=b) (w:=w) hr)) (zip_at hq (rowB_at (b:=b) (w:=w) hs))).mp e
 exact ht r s hr hs (by rw[hp,hq,(Prod.mk.inj this).1])
theorem WC.mine (h:WC L n b words c)(hw:w∈words):Told n b c w:=fun r s hr hs e=>((h.iff r s hr hs).mp e) w hw
end
theorem idx_map {α β:Type}[DecidableEq α][DecidableEq β](f:α->β):∀(l:List α) (x:α),(∀y∈l,f y=f x->y=x)->(l.map f).idxOf (f x)=l.idxOf x
 |[],x,_=>rfl
 |a::l,x,h=>by
  rw[List.map_cons,List.idxOf_cons,List.idxOf_cons,idx_map f l x fun y hy=>h y (List.mem_cons_of_mem _ hy)]
  by_cases e:a=x
  ·subst e;simp
  ·have:¬ f a=f x:=fun z=>e (h a (List.mem_cons_self ..) z)
   rw[show (a==x)=false by simpa using e,show (f a==f x)=false by simpa using this]
theorem num_map {α β:Type}[DecidableEq α][DecidableEq β](f:α->β){row:List α}(h:∀x∈row,∀y∈row,f x=f y->x=y):num (row.map f)=num row:=by
 have e:firsts (row.map f)=(firsts row).map f:=by
  unfold firsts
  have:=firstsA_map f row [] (fun x y hx hy e=>h x (hx.resolve_left (by simp)) y (hy.resolve_left (by simp)) e)
  simpa using this
 unfold num
 rw[List.map_map,e]
 refine List.map_congr_left fun x hx=>?_
 show (((firsts row).map f).idxOf (f x):Int)=_
 rw[idx_map f _ _ fun y hy e=>h y (mem_firsts.mp hy) x hx e]
theorem idx_snoc {α:Type}[DecidableEq α]{l:List α}{x y:α}(hy:y∈l):(l++[x]).idxOf y=l.idxOf y:=by
 rw[List.idxOf_append,if_pos hy]
theorem idx_new {α:Type}[DecidableEq α]{l:List α}{x:α}(hx:x∉l):(l++[x]).idxOf x=l.length:=by
 rw[List.idxOf_append,if_neg hx];simp
abbrev StC:=List (List Int)×List Int
def stepC (n:Nat)(b:List Int->Nat->Int)(w:List Int)(st:StC)(x:Nat):StC:=if ncl st.2<ncl (st.2.zip (rowB n b ((x:Int)::w))) then (st.1++[(x:Int)::w],num (st.2.zip (rowB n b ((x:Int)::w)))) else st
def innerC (n:Nat)(b:List Int->Nat->Int)(w:List Int)(L:Nat)(st:StC):StC:=(List.range L).foldl (stepC n b w) st
def outerC (n:Nat)(b:List Int->Nat->Int)(L:Nat):Nat->Nat->StC->StC
 |0,_,st=>st
 |f+1,k,st=>if k<st.1.length then outerC n b L f (k+1) (innerC n b (st.1.getD k []) L st) else st
section
variable {n L:Nat} {b:List Int->Nat->Int} {w:List Int} {st:StC}
theorem innerC_succ {i:Nat}:innerC n b w (i+1) st=stepC n b w (innerC n b w i st) i:=by
 unfold innerC
 rw[List.range_succ,List.foldl_append];rfl
theorem outerC_end {f k:Nat}(h:st.1.length<=k):outerC n b L f k st=st:=by
 cases f with
 |zero=>rfl
 |succ f=>unfold outerC;rw[if_neg (by omega)]
theorem outerC_go {f k:Nat}{v:List Int}(h:st.1[k]?=some v):outerC n b L (f+1) k st=outerC n b L f (k+1) (innerC n b v L st):=by
 have hk:=(List.getElem?_eq_some_iff.mp h).1
 rw[outerC,if_pos hk,List.getD_eq_getElem?_getD,h];rfl
structure WS (n L:Nat)(b:List Int->Nat->Int)(k i:Nat)(st:StC):Prop where
 wc:WC L n b st.1 st.2
 told:∀(j:Nat) (v:List Int),st.1[j]?=some v->∀x:Nat,x<L->(j<k\/(j=k/\x<i))->Told n b st.2 ((x:Int)::v)
theorem WS.start (hn:1<=n):WS n L b 0 0 ([[]],num (rowB n b [])):=⟨WC.start hn,fun j v hj x hx h=>by omega⟩
theorem WS.next {k:Nat}(h:WS n L b k L st):WS n L b (k+1) 0 st:=⟨h.wc,fun j v hj x hx hh=>h.told j v hj x hx (by omega)⟩
theorem WS.step {k i:Nat}(hn:1<=n)(hw:st.1[k]?=some w)(hi:i<L)(h:WS n L b k i st):WS n L b k (i+1) (stepC n b w st i)/\(stepC n b w st i).1[k]?=some w:=by
 have hm:=List.mem_of_getElem? hw
 unfold stepC
 by_cases hc:ncl st.2<ncl (st.2.zip (rowB n b ((i:Int)::w)))
 ·rw[if_pos hc]
  have hW:=h.wc.more hn hm (show 0<=(i:Int)/\(i:Int)<L by omega) hc
  have hk:=(List.getElem?_eq_some_iff.mp hw).1
  refine⟨⟨hW,fun j v hj x hx hh=>?_⟩,by rw[List.getElem?_append_left hk];exact hw⟩
  by_cases e:j=k/\x=i
  ·obtain⟨rfl,rfl⟩:=e
   rw[List.getElem?_append_left hk,hw]at hj
   cases hj
   exact hW.mine (List.mem_append_right _ (List.mem_singleton.mpr rfl))
  ·have hjl:j<st.1.length:=by omega
   rw[List.getElem?_append_left hjl]at hj
   exact h.wc.finer h.wc.len (h.told j v hj x hx (by omega))
 ·rw[if_neg hc]
  refine⟨⟨h.wc,fun j v hj x hx hh=>?_⟩,hw⟩
  by_cases e:j=k/\x=i
  ·obtain⟨rfl,rfl⟩:=e
   rw[hw]at hj
   cases hj
   exact fun r s hr hs er=>h.wc.same (by omega) hr hs er
  ·exact h.told j v hj x hx (by omega)
theorem WS.few {k i:Nat}(h:WS n L b k i st):st.1.length<=n:=by
 have h1:=h.wc.le
 have h2:=ncl_le st.2
 rw[h.wc.len]at h2
 omega
def wcOf (n L:Nat)(b:List Int->Nat->Int):StC:=outerC n b L 41 0 ([[]],num (rowB n b []))
structure Fin17 (n L:Nat)(b:List Int->Nat->Int)(st:StC):Prop where
 wc:WC L n b st.1 st.2
 told:∀v∈st.1,∀x:Nat,x<L->Told n b st.2 ((x:Int)::v)
theorem WS.fin {k:Nat}(h:WS n L b k 0 st)(hk:st.1.length<=k):Fin17 n L b st:=⟨h.wc,fun v hv x hx=>by
 obtain⟨j,hj⟩:=List.mem_iff_getElem?.mp hv
 have:=(List.getElem?_eq_some_iff.mp hj).1
 exact h.told j v hj x hx (by omega)⟩
end
end L2
namespace L2
open PySem PySem.W PySem.Spec PySem.Calls PyProof.Rows
theorem d_setdefK {X:Cx}{pins:List (Addr×Obj)}{σ:St}{H:Hp}{s:Shared}{a:Addr}{kvs:List (Key×V)}{k:Key}{v:V}{u r:Value}{A:Around}{E:Value->Shared->Prop}{Q:Value->Shared->Prop}(I:Inv X pins σ H s)(e:H a=some (.dK kvs))(l:kvs.length<sizeLine)(ry:RelV (kV k) u)(rv:RelV v r)
  (h0:∀x,valV kvs k=some x->∀w' s',Inv X pins σ H s'->RelV x w'->Q w' s') (h1:valV kvs k=none->∀s',Inv X pins σ (upd H a (.dK (putK kvs k v))) s'->Q r s'):
  wpAny (model X.prog X.w) A (call (.builtin "dict.setdefault") [.ref a,u,r]) Q E s:=by
 obtain⟨z,hd,vs,rel,dd⟩:=dk_of I.hok e
 have hz:vs.length<=sizeLine:=by rw[<-rel.length];exact z
 refine call_meetsIn PySem.F.slot_dict_setdefault dd.typeIs PySem.F.entry_dict_setdefault (PySem.F.args_dict_setdefault_3 _ _ _) (kt_meets_setdefault (mixKind X.prog X.w) a (kV_is ry) hd r) ⟨vs,dd,hz,fun x hx=>?_,fun hn h' dd' hs=>?_⟩
 ·have rk:=rel.val k
  rw[hx]at rk
  cases q:valV kvs k with
  |none=>rw[q]at rk;exact (rk:False).elim
  |some y=>rw[q]at rk;exact h0 y q _ _ (I.tok _) rk
 ·have rk:=rel.val k
  rw[hn]at rk
  cases q:valV kvs k with
  |some y=>rw[q]at rk;exact (rk:False).elim
  |none=>
   refine h1 q _ ?_
   have hl:(putK kvs k v).length<=sizeLine:=by have:=length_putK kvs k v;omega
   have he:∃q,h'.get? a=some q:=let ⟨q,_,_,hq,_⟩:=dd';⟨q,hq⟩
   exact d_write I (by rw[e];exact True.intro) hs he (dk_new hl hd (rel.put k rv) dd')
def tSetdefK (td ty tx:TE):TE:=fun σ H Q=>td σ H fun x H1=>∃a,x=.ref a/\IsD H1 a/\ty σ H1 fun y H2=>tx σ H2 fun z H3=>∃n kvs,y=.int n/\H3 a=some (.dK kvs)/\kvs.length<sizeLine/\(∀v,valV kvs (Sum.inl n)=some v->Q v H3)/\(valV kvs (Sum.inl n)=none->Q z (upd H3 a (.dK (putK kvs (Sum.inl n) z))))
theorem r_setdefK {td ty tx:TE}{σ:St}{H:Hp}{Q:VK}:tSetdefK td ty tx σ H Q=td σ H fun x H1=>∃a,x=.ref a/\IsD H1 a/\ty σ H1 fun y H2=>tx σ H2 fun z H3=>∃n kvs,y=.int n/\H3 a=some (.dK kvs)/\kvs.length<sizeLine/\(∀v,valV kvs (Sum.inl n)=some v->Q v H3)/\(valV kvs (Sum.inl n)=none->Q z (upd H3 a (.dK (putK kvs (Sum.inl n) z)))):=rfl
theorem pe_setdefK {X:Cx}{o e f:Expr}{apos cpos:Pos}{td ty tx:TE}(ho:PE X o td)(he:PE X e ty)(hf:PE X f tx)(m:M2 X o "setdefault" apos e f cpos):PE X (.Call (.Attribute o "setdefault" apos) [e,f] [] cpos) (tSetdefK td ty tx):=by
 intro pins s σ H Q I h
 refine wpAny_Call_method m.base m.few m.line PySem.F.plainAttrs_dict PySem.F.slot_dict_setdefault PySem.F.type_dict_setdefault (thn (ho pins s σ H _ I h) fun u s1 ⟨x,H1,I1,rx,a,ex,d,q1⟩=>?_)
 subst ex
 obtain rfl:u=Value.ref a:=rx
 obtain⟨t1,t2,_⟩:=isD_at I1 d
 refine⟨t1,t2,?_⟩
 rw[m.trees]
 refine Calls.callWith_builtin rfl (Calls.evalArgs_plain (Calls.spliced_cons (thn (he pins s1 σ H1 _ I1 q1) fun iv s2 ⟨y,H2,I2,ry,q2⟩ =>
  Calls.spliced_cons (thn (hf pins s2 σ H2 _ I2 q2) fun fv s3 ⟨z,H3,I3,rz,n,kvs,ey,ea,l,q3,q4⟩=>Calls.spliced_nil ?_))))
 subst ey
 exact d_setdefK (k:=Sum.inl n) I3 ea l ry rz (fun v hv w' s4 I4 rw'=>⟨v,H3,I4,rw',q3 v hv⟩) fun hn s4 I4=>⟨z,_,I4,rz,q4 hn⟩
end L2
namespace L2
open GW GB
theorem bfs_row {L:Int}(hL:0<L){n i:Nat}{ways:List (List Int)}{r:Int}{w:List Int}:∀(rest:List Int) (x:Nat) (ents:List (Int×List Int)),((x+rest.length:Nat):Int)=L->(∀(k:Nat) (g:Int),rest[k]?=some g->g=stepW ways r ((x+k:Nat):Int)/\0<=g/\g<(n:Int))->Bfs L n ways ents i (place L w*L+x+1)->Seen L ways ents r w x->ents[i]?=some (r,w) ->
  Bfs L n ways (addRow w ents x rest) i (place L w*L+L+1)/\Seen L ways (addRow w ents x rest) r w L.toNat/\(addRow w ents x rest)[i]?=some (r,w)
 |[],x,ents,hx,hg,bf,se,he=>by
  rw[addRow_nil]
  have e:(x:Int)=L:=by simpa using hx
  rw[e]at bf
  exact⟨bf,by rw[show L.toNat=x by omega];exact se,he⟩
 |g::rest,x,ents,hx,hg,bf,se,he=>by
  rw[addRow_cons]
  obtain⟨g1,g2⟩:=hg 0 g rfl
  have hxl:(x:Int)<L:=by rw[List.length_cons]at hx;omega
  obtain⟨bf',se'⟩:=bf.letter hL se (List.mem_of_getElem? he) hxl g1 g2
  refine bfs_row hL rest (x+1) _ (by rw[<-hx,List.length_cons];congr 1;omega) (fun k g' hk=>?_) bf' se' (letter_keep he)
  have:=hg (k+1) g' (by simpa using hk)
  rwa [show x+(k+1)=x+1+k by omega]at this
theorem bfs_all {L:Int}{marks:List Int}{ways:List (List Int)}(wf:Wf L marks ways):∀(f:Nat) (ents:List (Int×List Int)) (i:Nat) (top:Int),Bfs L marks.length ways ents i top->(∀e,ents[i]?=some e->top<=place L e.2*L+1)->marks.length<i+f->∃top',Bfs L marks.length ways (bfs ways f ents i) (bfs ways f ents i).length top'
 |0,ents,i,top,bf,ht,hf=>absurd bf.il (by have:=bf.len;omega)
 |f+1,ents,i,top,bf,ht,hf=>by
  have hL:0<L:=by have:=wf.l1;omega
  cases he:ents[i]? with
  |none=>
   rw[bfs_stop he]
   have:i=ents.length:=by have:=bf.il;have:=List.getElem?_eq_none_iff.mp he;omega
   exact⟨top,this ▸ bf⟩
  |some e=>
   obtain⟨r,w⟩:=e
   rw[bfs_step he]
   have hr:=bf.rng _ (List.mem_of_getElem? he)
   obtain⟨row,h1,h2,h3⟩:=wf.row hr.1 hr.2
   have hgd:ways.getD r.toNat []=row:=by rw[List.getD_eq_getElem?_getD,h1];rfl
   obtain⟨a,b,c⟩:=bfs_row (w:=w) (r:=r) hL row 0 ents (by simpa using h3) (fun k g hk=>⟨by rw[Nat.zero_add];exact (stepW_of h1 (by rw[Int.toNat_natCast];exact hk)).symm,(wf.rows row h2).2 g (List.mem_of_getElem? hk)⟩) (bf.up (by have h9:top<=place L w*L+1:=ht _ he;push_cast;omega)) (fun y h0 h1=>absurd h1 (by push_cast;omega)) he
   obtain⟨bf',ht'⟩:=Bfs.next hL (m:=L.toNat) (by rw[show ((L.toNat:Nat):Int)=L by omega];exact a) (by omega) b c
   show ∃top',Bfs L marks.length ways (bfs ways f (addRow w ents 0 (ways.getD r.toNat [])) (i+1)) _ top'
   rw[hgd]
   exact bfs_all wf f _ (i+1) _ bf' ht' (by omega)
theorem Bfs.mk {L:Int}{marks:List Int}{ways:List (List Int)}(wf:Wf L marks ways):∃top,Bfs L marks.length ways (wordsIn ways) (wordsIn ways).length top:=by
 unfold wordsIn
 refine bfs_all wf _ _ 0 1 (Bfs.start L wf.n1 ways) (fun e he=>?_) (by rw[wf.len];omega)
 simp at he;subst he;simp[place,placeR]
theorem innerC_ws {n L:Nat}{b:List Int->Nat->Int}{st:StC}{k:Nat}{w:List Int}(hn:1<=n)(hw:st.1[k]?=some w)(h:WS n L b k 0 st):∀i,i<=L->WS n L b k i (innerC n b w i st)/\(innerC n b w i st).1[k]?=some w
 |0,_=>⟨h,hw⟩
 |i+1,hi=>by
  obtain⟨a,c⟩:=innerC_ws hn hw h i (by omega)
  rw[innerC_succ]
  exact a.step hn c (by omega)
theorem outerC_fin {n L:Nat}{b:List Int->Nat->Int}(hn:1<=n)(hn40:n<=40):∀(f k:Nat) (st:StC),k+f=41->WS n L b k 0 st->Fin17 n L b (outerC n b L f k st)
 |0,k,st,hk,h=>h.fin (by have:=h.few;omega)
 |f+1,k,st,hk,h=>by
  cases hw:st.1[k]? with
  |none=>
   have:=List.getElem?_eq_none_iff.mp hw
   rw[outerC_end this]
   exact h.fin this
  |some w=>
   rw[outerC_go hw]
   exact outerC_fin hn hn40 f (k+1) _ (by omega) (innerC_ws hn hw h L (Nat.le_refl _)).1.next
theorem Fin17.mk' {n L:Nat}{b:List Int->Nat->Int}(hn:1<=n)(hn40:n<=40):Fin17 n L b (wcOf n L b):=outerC_fin hn hn40 41 0 _ rfl (WS.start hn)
def bW (marks:List Int)(ways:List (List Int))(w:List Int)(r:Nat):Int:=marks.getD (walkR ways (r:Int) w).toNat 0
theorem bW_nil {marks:List Int}{ways:List (List Int)}:rowB marks.length (bW marks ways) []=marks:=by
 refine List.ext_getElem? fun i=>?_
 by_cases hi:i<marks.length
 ·rw[rowB_at hi]
  unfold bW
  show some (marks.getD ((i:Int)).toNat 0)=_
  rw[Int.toNat_natCast,List.getD_eq_getElem?_getD,List.getElem?_eq_getElem hi];rfl
 ·rw[List.getElem?_eq_none (by rw[rowB_len];omega),List.getElem?_eq_none (by omega)]
theorem bW_cons {marks:List Int}{ways:List (List Int)}(w:List Int)(x:Int)(r:Nat)(h:0<=stepW ways (r:Int) x):bW marks ways (x::w) r=bW marks ways w (stepW ways (r:Int) x).toNat:=by
 unfold bW
 rw[walkR_cons,Int.toNat_of_nonneg h]
def cf (c:List Int)(r:Int):Int:=c.getD r.toNat 0
def hm (c R:List Int)(r:Int):Int:=(((firsts (R.map (cf c))).idxOf (cf c r):Nat):Int)
def frstep (c acc:List Int)(r:Int):List Int:=if cf c r∈acc.map (cf c) then acc else acc++[r]
def FR (c R:List Int):List Int:=R.foldl (frstep c) []
theorem frstep_map (c acc:List Int)(r:Int):(frstep c acc r).map (cf c)=ins1 (acc.map (cf c)) (cf c r):=by
 unfold frstep ins1
 split
 ·rfl
 ·rw[List.map_append];rfl
theorem FR_mapA (c:List Int):∀(R acc:List Int),(R.foldl (frstep c) acc).map (cf c)=firstsA (acc.map (cf c)) (R.map (cf c))
 |[],acc=>rfl
 |r::R,acc=>by
  rw[List.foldl_cons,FR_mapA c R,frstep_map];rfl
theorem FR_map (c R:List Int):(FR c R).map (cf c)=firsts (R.map (cf c)):=FR_mapA c R []
theorem FR_take {c R:List Int}{i:Nat}{r:Int}(h:R[i]?=some r):FR c (R.take (i+1))=frstep c (FR c (R.take i)) r:=by
 unfold FR
 rw[List.take_add_one,h,Option.toList_some,List.foldl_append];rfl
theorem FR_snoc (c R:List Int)(r:Int):FR c (R++[r])=frstep c (FR c R) r:=by
 unfold FR
 rw[List.foldl_append];rfl
theorem FR_memA (c:List Int):∀(R acc:List Int) (r:Int),r∈R.foldl (frstep c) acc->r∈acc\/r∈R
 |[],acc,r,h=>.inl h
 |q::R,acc,r,h=>by
  rcases FR_memA c R _ r h with h|h
  ·unfold frstep at h
   split at h
   ·exact .inl h
   ·rcases List.mem_append.mp h with h|h
    ·exact .inl h
    ·exact .inr (by rw[List.mem_singleton.mp h];exact List.mem_cons_self ..)
  ·exact .inr (List.mem_cons_of_mem _ h)
theorem FR_mem {c R:List Int}{r:Int}(h:r∈FR c R):r∈R:=(FR_memA c R [] r h).resolve_left (by simp)
theorem FR_len (c R:List Int):(FR c R).length<=R.length:=by
 have h:=congrArg List.length (FR_map c R)
 have h2:=ncl_le (R.map (cf c))
 unfold ncl at h2
 rw[List.length_map]at h h2
 omega
def mkR (marks:List Int)(r:Int):Int:=marks.getD r.toNat 0
def hrow (c R:List Int)(ways:List (List Int))(r:Int):List Int:=(ways.getD r.toNat []).map (hm c R)
theorem hm_F {c R:List Int}{j:Nat}{r:Int}(h:(FR c R)[j]?=some r):hm c R r=j:=by
 have h1:(firsts (R.map (cf c)))[j]?=some (cf c r):=by rw[<-FR_map,List.getElem?_map,h];rfl
 unfold hm
 obtain⟨hj,e⟩:=List.getElem?_eq_some_iff.mp h1
 rw[<-e,(nodup_firsts _).idxOf_getElem _ hj]
theorem F_hm {c R:List Int}{r:Int}(h:r∈R):∃(j:Nat) (q:Int),j<(FR c R).length/\hm c R r=j/\(FR c R)[j]?=some q/\cf c q=cf c r:=by
 have hm':cf c r∈firsts (R.map (cf c)):=mem_firsts.mpr (List.mem_map_of_mem h)
 have hi:=List.idxOf_lt_length_of_mem hm'
 have hl:(FR c R).length=(firsts (R.map (cf c))).length:=by rw[<-FR_map,List.length_map]
 refine⟨(firsts (R.map (cf c))).idxOf (cf c r),(FR c R)[(firsts (R.map (cf c))).idxOf (cf c r)]'(by omega),by omega,rfl,by simp[hl,hi],?_⟩
 have e:((FR c R).map (cf c))[(firsts (R.map (cf c))).idxOf (cf c r)]?=some (cf c r):=by rw[FR_map,List.getElem?_eq_getElem hi,List.getElem_idxOf]
 rw[List.getElem?_map,List.getElem?_eq_getElem (by omega)]at e
 exact Option.some.inj e
theorem hm_congr {c R:List Int}{r s:Int}(h:cf c r=cf c s):hm c R r=hm c R s:=by unfold hm;rw[h]
theorem FR_firstA {c:List Int}(p:Int->Int):∀Q:List Int,Q.reverse.Pairwise (fun a b=>p a<p b)->(FR c Q.reverse).Pairwise (fun a b=>p a<p b)/\∀r∈Q.reverse,∃f∈FR c Q.reverse,cf c f=cf c r/\p f<=p r
 |[],_=>⟨List.Pairwise.nil,fun r hr=>by simp at hr⟩
 |q::Q,h=>by
  rw[List.reverse_cons]at h ⊢
  obtain⟨h1,_,h3⟩:=List.pairwise_append.mp h
  obtain⟨i1,i2⟩:=FR_firstA p Q h1
  rw[FR_snoc]
  unfold frstep
  by_cases hc:cf c q∈(FR c Q.reverse).map (cf c)
  ·rw[if_pos hc]
   refine⟨i1,fun r hr=>?_⟩
   rcases List.mem_append.mp hr with hr|hr
   ·exact i2 r hr
   ·rw[List.mem_singleton.mp hr]
    obtain⟨f,hf,e⟩:=List.mem_map.mp hc
    exact⟨f,hf,e,Int.le_of_lt (h3 f (FR_mem hf) q (List.mem_singleton.mpr rfl))⟩
  ·rw[if_neg hc]
   refine⟨List.pairwise_append.mpr ⟨i1,List.pairwise_singleton _ _,fun a ha b hb=>?_⟩,fun r hr=>?_⟩
   ·exact h3 a (FR_mem ha) b hb
   ·rcases List.mem_append.mp hr with hr|hr
    ·obtain⟨f,hf,e⟩:=i2 r hr
     exact⟨f,List.mem_append_left _ hf,e⟩
    ·exact⟨r,List.mem_append_right _ hr,rfl,Int.le_refl _⟩
theorem FR_first {c R:List Int}(p:Int->Int)(h:R.Pairwise (fun a b=>p a<p b)):(FR c R).Pairwise (fun a b=>p a<p b)/\∀r∈R,∃f∈FR c R,cf c f=cf c r/\p f<=p r:=by
 have:=FR_firstA (c:=c) p R.reverse (by rw[List.reverse_reverse];exact h)
 rwa [List.reverse_reverse]at this
section
variable {L:Nat} {marks:List Int} {ways:List (List Int)}
theorem cf_at {c:List Int}{n:Nat}(hc:c.length=n){r:Int}(h0:0<=r)(h1:r<(n:Int)):c[r.toNat]?=some (cf c r):=by
 unfold cf
 rw[List.getD_eq_getElem?_getD]
 simp[show r.toNat<c.length by omega]
theorem Wf.stp (wf:Wf L marks ways){r x:Int}(h0:0<=r)(h1:r<marks.length)(x0:0<=x)(x1:x<L):0<=stepW ways r x/\stepW ways r x<marks.length:=by
 obtain⟨_,g,_,_,e,a,b⟩:=wf.step h0 h1 x0 x1
 rw[e];exact⟨a,b⟩
theorem cls_same (wf:Wf L marks ways){st:StC}(fin:Fin17 marks.length L (bW marks ways) st){r s:Int}(r0:0<=r)(r1:r<marks.length)(s0:0<=s)(s1:s<marks.length)(e:cf st.2 r=cf st.2 s):
  mkR marks r=mkR marks s/\∀x:Nat,x<L->cf st.2 (stepW ways r x)=cf st.2 (stepW ways s x):=by
 have ec:st.2[r.toNat]?=st.2[s.toNat]?:=by rw[cf_at fin.wc.len r0 r1,cf_at fin.wc.len s0 s1,e]
 have hr:r.toNat<marks.length:=by omega
 have hs:s.toNat<marks.length:=by omega
 have all:=(fin.wc.iff _ _ hr hs).mp ec
 have eR:((r.toNat:Nat):Int)=r:=by omega
 have eS:((s.toNat:Nat):Int)=s:=by omega
 refine⟨?_,fun x hx=>?_⟩
 ·have:=all [] (List.mem_of_getElem? fin.wc.w0)
  unfold bW at this
  rw[eR,eS]at this
  exact this
 ·obtain⟨a0,a1⟩:=Wf.stp wf r0 r1 (show (0:Int)<=x by omega) (by omega)
  obtain⟨b0,b1⟩:=Wf.stp wf s0 s1 (show (0:Int)<=x by omega) (by omega)
  have:=(fin.wc.iff (stepW ways r x).toNat (stepW ways s x).toNat (by omega) (by omega)).mpr fun w hw=>by
   have:=fin.told w hw x hx r.toNat s.toNat hr hs ec
   rw[bW_cons _ _ _ (by rw[eR];exact a0),bW_cons _ _ _ (by rw[eS];exact b0),eR,eS]at this
   exact this
  rw[cf_at fin.wc.len a0 a1,cf_at fin.wc.len b0 b1]at this
  exact Option.some.inj this
theorem cls_of_all (wf:Wf L marks ways){st:StC}(fin:Fin17 marks.length L (bW marks ways) st){r s:Int}(r0:0<=r)(r1:r<marks.length)(s0:0<=s)(s1:s<marks.length)(h:∀w,isW L w=true->mkR marks (walkR ways r w)=mkR marks (walkR ways s w)):cf st.2 r=cf st.2 s:=by
 have eR:((r.toNat:Nat):Int)=r:=by omega
 have eS:((s.toNat:Nat):Int)=s:=by omega
 have:=(fin.wc.iff r.toNat s.toNat (by omega) (by omega)).mpr fun w hw=>by
  have:=h w (isW_iff.mpr (fin.wc.ok w hw))
  unfold bW
  rw[eR,eS]
  exact this
 rw[cf_at fin.wc.len r0 r1,cf_at fin.wc.len s0 s1]at this
 exact Option.some.inj this
end
def cOf (L:Nat)(marks:List Int)(ways:List (List Int)):List Int:=(wcOf marks.length L (bW marks ways)).2
def rOf (ways:List (List Int)):List Int:=(wordsIn ways).map (·.1)
def sF (L:Nat)(marks:List Int)(ways:List (List Int)):List Int:=FR (cOf L marks ways) (rOf ways)
def sM (L:Nat)(marks:List Int)(ways:List (List Int)):List Int:=(sF L marks ways).map (mkR marks)
def sW (L:Nat)(marks:List Int)(ways:List (List Int)):List (List Int):=(sF L marks ways).map (hrow (cOf L marks ways) (rOf ways) ways)
def hO (L:Nat)(marks:List Int)(ways:List (List Int))(r:Int):Int:=hm (cOf L marks ways) (rOf ways) r
section
variable {L:Nat} {marks:List Int} {ways:List (List Int)}
theorem finO (wf:Wf L marks ways):Fin17 marks.length L (bW marks ways) (wcOf marks.length L (bW marks ways)):=Fin17.mk' wf.n1 wf.n40
theorem rO_rng (wf:Wf L marks ways){r:Int}(h:r∈rOf ways):0<=r/\r<marks.length:=by
 obtain⟨top,bf⟩:=Bfs.mk wf
 obtain⟨e,he,rfl⟩:=List.mem_map.mp h
 exact bf.rng e he
theorem rO_step (wf:Wf L marks ways){r x:Int}(h:r∈rOf ways)(x0:0<=x)(x1:x<L):stepW ways r x∈rOf ways:=by
 obtain⟨top,bf⟩:=Bfs.mk wf
 obtain⟨e,he,rfl⟩:=List.mem_map.mp h
 obtain⟨j,hj⟩:=List.mem_iff_getElem?.mp he
 obtain⟨e',h1,h2,_⟩:=bf.don j (List.getElem?_eq_some_iff.mp hj).1 e hj x x0 x1
 rw[<-h2]
 exact List.mem_map_of_mem h1
theorem rO_zero (wf:Wf L marks ways):(rOf ways)[0]?=some 0:=by
 obtain⟨top,bf⟩:=Bfs.mk wf
 unfold rOf
 rw[List.getElem?_map,bf.hd];rfl
theorem rO_len (wf:Wf L marks ways):(rOf ways).length<=marks.length:=by
 obtain⟨top,bf⟩:=Bfs.mk wf
 unfold rOf
 rw[List.length_map];exact bf.len
theorem rO_walk (wf:Wf L marks ways):∀(w:List Int) {r:Int},r∈rOf ways->isW L w=true->walkR ways r w∈rOf ways
 |[],r,h,_=>h
 |x::w,r,h,hw=>by
  obtain⟨hx,hw⟩:=isW_cons.mp hw
  rw[walkR_cons]
  exact rO_walk wf w (rO_step wf h hx.1 hx.2) hw
theorem sF_rng (wf:Wf L marks ways){j:Nat}{r:Int}(h:(sF L marks ways)[j]?=some r):r∈rOf ways/\0<=r/\r<marks.length/\hO L marks ways r=j:=by
 have h1:=FR_mem (List.mem_of_getElem? h)
 have:=rO_rng wf h1
 exact⟨h1,this.1,this.2,hm_F h⟩
theorem sF_len (wf:Wf L marks ways):(sF L marks ways).length<=marks.length:=Nat.le_trans (FR_len _ _) (rO_len wf)
theorem hO_at (wf:Wf L marks ways){r:Int}(h:r∈rOf ways):∃(j:Nat) (q:Int),j<(sF L marks ways).length/\hO L marks ways r=j/\(sF L marks ways)[j]?=some q/\cf (cOf L marks ways) q=cf (cOf L marks ways) r:=F_hm h
theorem hO_rng (wf:Wf L marks ways){r:Int}(h:r∈rOf ways):0<=hO L marks ways r/\hO L marks ways r<(sF L marks ways).length:=by
 obtain⟨j,q,h1,h2,_⟩:=hO_at wf h
 omega
theorem rO_mem0 (wf:Wf L marks ways):(0:Int)∈rOf ways:=List.mem_of_getElem? (rO_zero wf)
theorem sF_zero (wf:Wf L marks ways):(sF L marks ways)[0]?=some 0:=by
 have h:=rO_zero wf
 unfold sF
 cases hR:rOf ways with
 |nil=>rw[hR]at h;cases h
 |cons a R=>
  rw[hR]at h
  cases h
  unfold FR
  rw[List.foldl_cons]
  have e:frstep (cOf L marks ways) [] 0=[0]:=by unfold frstep;simp
  rw[e]
  have:∀(R acc:List Int),acc[0]?=some 0->(R.foldl (frstep (cOf L marks ways)) acc)[0]?=some 0:=fun R=>by
   induction R with
   |nil=>intro acc h;exact h
   |cons r R ih=>
    intro acc h
    refine ih _ ?_
    unfold frstep
    split
    ·exact h
    ·rw[List.getElem?_append_left (List.getElem?_eq_some_iff.mp h).1];exact h
  exact this R [0] rfl
theorem hO_zero (wf:Wf L marks ways):hO L marks ways 0=0:=by
 have:=(sF_rng wf (sF_zero wf)).2.2.2
 simpa using this
theorem sM_at {j:Nat}{r:Int}(h:(sF L marks ways)[j]?=some r):(sM L marks ways)[j]?=some (mkR marks r):=by
 unfold sM;rw[List.getElem?_map,h];rfl
theorem sW_at {j:Nat}{r:Int}(h:(sF L marks ways)[j]?=some r):(sW L marks ways)[j]?=some (hrow (cOf L marks ways) (rOf ways) ways r):=by
 unfold sW;rw[List.getElem?_map,h];rfl
theorem sM_len:(sM L marks ways).length=(sF L marks ways).length:=by unfold sM;rw[List.length_map]
theorem sW_len:(sW L marks ways).length=(sF L marks ways).length:=by unfold sW;rw[List.length_map]
theorem mkR_at {ms:List Int}{r:Int}{m:Int}(h:ms[r.toNat]?=some m):mkR ms r=m:=by unfold mkR;rw[List.getD_eq_getElem?_getD,h];rfl
theorem at_mkR {ms:List Int}{r:Int}(h:r.toNat<ms.length):ms[r.toNat]?=some (mkR ms r):=by unfold mkR;rw[List.getD_eq_getElem?_getD];simp[h]
theorem hO_mark (wf:Wf L marks ways){r:Int}(h:r∈rOf ways):mkR (sM L marks ways) (hO L marks ways r)=mkR marks r:=by
 obtain⟨j,q,h1,h2,h3,h4⟩:=hO_at wf h
 have hq:=sF_rng wf h3
 have hr:=rO_rng wf h
 rw[h2]
 rw[mkR_at (show (sM L marks ways)[((j:Nat):Int).toNat]?=some (mkR marks q) by rw[Int.toNat_natCast];exact sM_at h3)]
 exact (cls_same wf (finO wf) hq.2.1 hq.2.2.1 hr.1 hr.2 h4).1
theorem hO_row (wf:Wf L marks ways){r:Int}(h:r∈rOf ways):(sW L marks ways)[(hO L marks ways r).toNat]?=some ((ways.getD r.toNat []).map (hO L marks ways)):=by
 obtain⟨j,q,h1,h2,h3,h4⟩:=hO_at wf h
 have hq:=sF_rng wf h3
 have hr:=rO_rng wf h
 rw[h2,Int.toNat_natCast,sW_at h3]
 congr 1
 unfold hrow
 obtain⟨row,a1,a2,a3⟩:=wf.row hq.2.1 hq.2.2.1
 obtain⟨row',b1,b2,b3⟩:=wf.row hr.1 hr.2
 have e1:ways.getD q.toNat []=row:=by rw[List.getD_eq_getElem?_getD,a1];rfl
 have e2:ways.getD r.toNat []=row':=by rw[List.getD_eq_getElem?_getD,b1];rfl
 rw[e1,e2]
 refine List.ext_getElem? fun x=>?_
 by_cases hx:x<L
 ·have hxr:x<row.length:=by omega
  have hxr':x<row'.length:=by omega
  rw[List.getElem?_map,List.getElem?_map,List.getElem?_eq_getElem hxr,List.getElem?_eq_getElem hxr']
  show some (hm _ _ row[x])=some (hm _ _ row'[x])
  have c1:stepW ways q (x:Nat)=row[x]:=stepW_of a1 (by rw[Int.toNat_natCast];simp[hxr])
  have c2:stepW ways r (x:Nat)=row'[x]:=stepW_of b1 (by rw[Int.toNat_natCast];simp[hxr'])
  have:=(cls_same wf (finO wf) hq.2.1 hq.2.2.1 hr.1 hr.2 h4).2 x hx
  rw[c1,c2]at this
  exact congrArg some (hm_congr this)
 ·rw[List.getElem?_eq_none (by rw[List.length_map];omega),List.getElem?_eq_none (by rw[List.length_map];omega)]
theorem hO_step (wf:Wf L marks ways){r x:Int}(h:r∈rOf ways)(x0:0<=x)(x1:x<L):stepW (sW L marks ways) (hO L marks ways r) x=hO L marks ways (stepW ways r x):=by
 have hr:=rO_rng wf h
 obtain⟨row,b1,b2,b3⟩:=wf.row hr.1 hr.2
 have e2:ways.getD r.toNat []=row:=by rw[List.getD_eq_getElem?_getD,b1];rfl
 have h1:=hO_row wf h
 rw[e2]at h1
 have hxr:x.toNat<row.length:=by omega
 rw[stepW_of b1 (show row[x.toNat]?=some row[x.toNat] by simp[hxr])]
 exact stepW_of h1 (by rw[List.getElem?_map,List.getElem?_eq_getElem hxr];rfl)
theorem hO_walk (wf:Wf L marks ways):∀(w:List Int) {r:Int},r∈rOf ways->isW L w=true->walkR (sW L marks ways) (hO L marks ways r) w=hO L marks ways (walkR ways r w)
 |[],r,h,_=>rfl
 |x::w,r,h,hw=>by
  obtain⟨hx,hw⟩:=isW_cons.mp hw
  rw[walkR_cons,walkR_cons,hO_step wf h hx.1 hx.2]
  exact hO_walk wf w (rO_step wf h hx.1 hx.2) hw
theorem sWf (wf:Wf L marks ways):Wf L (sM L marks ways) (sW L marks ways):=by
 have hz:=sF_zero wf
 refine⟨wf.l1,wf.l6,?_,?_,by rw[sM_len,sW_len],fun row hrow'=>?_,fun m hmm=>?_⟩
 ·rw[sM_len];have:=(List.getElem?_eq_some_iff.mp hz).1;omega
 ·rw[sM_len];have:=sF_len wf;have:=wf.n40;omega
 ·obtain⟨j,hj⟩:=List.mem_iff_getElem?.mp hrow'
  have hjl:=(List.getElem?_eq_some_iff.mp hj).1
  rw[sW_len]at hjl
  have hq:=sF_rng wf (show (sF L marks ways)[j]?=some (sF L marks ways)[j] by simp[hjl])
  rw[sW_at (show (sF L marks ways)[j]?=some (sF L marks ways)[j] by simp[hjl])]at hj
  have hj:=Option.some.inj hj
  obtain⟨row',b1,b2,b3⟩:=wf.row hq.2.1 hq.2.2.1
  have e2:ways.getD ((sF L marks ways)[j]).toNat []=row':=by rw[List.getD_eq_getElem?_getD,b1];rfl
  unfold hrow at hj
  rw[e2]at hj
  subst hj
  refine⟨by rw[List.length_map];exact b3,fun x hx=>?_⟩
  obtain⟨g,hg,rfl⟩:=List.mem_map.mp hx
  rw[sM_len]
  refine hO_rng wf ?_
  obtain⟨y,hy⟩:=List.mem_iff_getElem?.mp hg
  have hyl:=(List.getElem?_eq_some_iff.mp hy).1
  have:=rO_step wf hq.1 (x:=(y:Nat)) (by omega) (by omega)
  rwa [stepW_of b1 (by rw[Int.toNat_natCast];exact hy)]at this
 ·unfold sM at hmm
  obtain⟨r,hr,rfl⟩:=List.mem_map.mp hmm
  have:=rO_rng wf (FR_mem hr)
  refine wf.mks _ (List.mem_of_getElem? (at_mkR (ms:=marks) (r:=r) (by omega)))
structure Can (L:Nat)(marks:List Int)(ways:List (List Int)):Prop where
 wf:Wf L marks ways
 lw:∃u:Nat->List Int,(∀j,j<marks.length->isW L (u j)=true/\walkW ways (u j)=(j:Int))/\(∀v,isW L v=true->∀j:Nat,walkW ways v=(j:Int)->place L (u j)<=place L v)/\(∀j k,j<k->k<marks.length->place L (u j)<place L (u k))
 red:∀i j:Nat,i<marks.length->j<marks.length->(∀w,isW L w=true->mkR marks (walkR ways i w)=mkR marks (walkR ways j w))->i=j
def wi (ways:List (List Int))(r:Int):List Int:=(((wordsIn ways).find? fun e=>decide (e.1=r)).map (·.2)).getD []
theorem wi_of {L:Int}{n:Nat}{top:Int}(bf:Bfs L n ways (wordsIn ways) (wordsIn ways).length top){e:Int×List Int}(he:e∈wordsIn ways):wi ways e.1=e.2:=by
 unfold wi
 cases hq:(wordsIn ways).find? (fun e'=>decide (e'.1=e.1)) with
 |none=>
  rw[List.find?_eq_none]at hq
  have:=hq _ he
  simp at this
 |some e' =>
  have hk:=List.find?_some hq
  simp only[decide_eq_true_eq]at hk
  obtain⟨i,hi,ei⟩:=List.getElem_of_mem (List.mem_of_find?_eq_some hq)
  obtain⟨j,hj,ej⟩:=List.getElem_of_mem he
  have ij:i=j:=(List.getElem_inj (h₀:=by simpa using hi) (h₁:=by simpa using hj) bf.nod).mp (by simp[ei,ej,hk])
  subst ij
  rw[<-ei,ej];rfl
theorem wi_inc {L:Int}{n:Nat}{top:Int}(bf:Bfs L n ways (wordsIn ways) (wordsIn ways).length top):(rOf ways).Pairwise (fun a b=>place L (wi ways a)<place L (wi ways b)):=by
 unfold rOf
 rw[List.pairwise_map,List.pairwise_iff_getElem]
 intro i j hi hj hij
 rw[wi_of bf (List.getElem_mem hi),wi_of bf (List.getElem_mem hj)]
 exact bf.inc i j _ _ hij (by simp[hi]) (by simp[hj])
theorem pw_get {α:Type}{R:α->α->Prop}{l:List α}(h:l.Pairwise R){i j:Nat}{a b:α}(hij:i<j)(ha:l[i]?=some a)(hb:l[j]?=some b):R a b:=by
 obtain⟨h1,rfl⟩:=List.getElem?_eq_some_iff.mp ha
 obtain⟨h2,rfl⟩:=List.getElem?_eq_some_iff.mp hb
 exact List.pairwise_iff_getElem.mp h i j h1 h2 hij
theorem wi_ok (wf:Wf L marks ways){r:Int}(h:r∈rOf ways):isW L (wi ways r)=true/\walkW ways (wi ways r)=r:=by
 obtain⟨top,bf⟩:=Bfs.mk wf
 obtain⟨e,he,rfl⟩:=List.mem_map.mp h
 rw[wi_of bf he]
 exact bf.wd e he
theorem wi_least (wf:Wf L marks ways){v:List Int}(hv:isW L v=true):walkW ways v∈rOf ways/\place L (wi ways (walkW ways v))<=place L v:=by
 obtain⟨top,bf⟩:=Bfs.mk wf
 obtain⟨w',h1,h2⟩:=bf.least hv v.length (Nat.le_refl _)
 rw[List.take_length]at h1 h2
 have:=wi_of bf h1
 exact⟨List.mem_map.mpr ⟨_,h1,rfl⟩,by rw[show wi ways (walkW ways v)=w' from this];exact h2⟩
theorem sCan (wf:Wf L marks ways):Can L (sM L marks ways) (sW L marks ways):=by
 obtain⟨top,bf⟩:=Bfs.mk wf
 obtain⟨f1,f2⟩:=FR_first (c:=cOf L marks ways) (fun r=>place L (wi ways r)) (wi_inc bf)
 have at':∀{j:Nat},j<(sF L marks ways).length->(sF L marks ways)[j]?=some ((sF L marks ways).getD j 0):=fun {j} hj=>by rw[List.getD_eq_getElem?_getD];simp[hj]
 refine⟨sWf wf,⟨fun j=>wi ways ((sF L marks ways).getD j 0),fun j hj=>?_,fun v hv j hj=>?_,fun j k hjk hk=>?_⟩,fun i j hi hj hall=>?_⟩
 ·rw[sM_len]at hj
  have hq:=sF_rng wf (at' hj)
  have:=wi_ok wf hq.1
  refine⟨this.1,?_⟩
  have h2:=hO_walk wf (wi ways ((sF L marks ways).getD j 0)) (rO_mem0 wf) this.1
  rw[hO_zero wf,walkR_zero,walkR_zero,this.2,hq.2.2.2]at h2
  exact h2
 ·obtain⟨h1,h2⟩:=wi_least wf hv
  have h3:=hO_walk wf v (rO_mem0 wf) hv
  rw[hO_zero wf,walkR_zero,walkR_zero,hj]at h3
  obtain⟨f,hf,hc,hp⟩:=f2 _ h1
  obtain⟨i,hi⟩:=List.mem_iff_getElem?.mp hf
  have hi':=(sF_rng wf hi).2.2.2
  have e:hO L marks ways f=hO L marks ways (walkW ways v):=hm_congr hc
  rw[hi',<-h3]at e
  have e':i=j:=by omega
  subst e'
  show place L (wi ways ((sF L marks ways).getD i 0))<=_
  rw[List.getD_eq_getElem?_getD,show (sF L marks ways)[i]?=some f from hi]
  exact Int.le_trans hp h2
 ·rw[sM_len]at hk
  exact pw_get f1 hjk (at' (by omega)) (at' hk)
 ·rw[sM_len]at hi hj
  have qi:=sF_rng wf (at' hi)
  have qj:=sF_rng wf (at' hj)
  have:=cls_of_all wf (finO wf) qi.2.1 qi.2.2.1 qj.2.1 qj.2.2.1 fun w hw=>by
   have:=hall w hw
   rw[<-qi.2.2.2,<-qj.2.2.2,hO_walk wf w qi.1 hw,hO_walk wf w qj.1 hw,hO_mark wf (rO_walk wf w qi.1 hw),hO_mark wf (rO_walk wf w qj.1 hw)]at this
   exact this
  have e:hO L marks ways ((sF L marks ways).getD i 0)=hO L marks ways ((sF L marks ways).getD j 0):=hm_congr this
  rw[qi.2.2.2,qj.2.2.2]at e
  omega
end
section
variable {L:Nat} {m1 m2:List Int} {w1 w2:List (List Int)}
theorem inc_eq:∀{l m:List Int},l.Pairwise (· < ·)->m.Pairwise (· < ·)->(∀x,x∈l↔x∈m)->l=m
 |[],[],_,_,_=>rfl
 |[],y::m,_,_,h=>absurd ((h y).mpr (List.mem_cons_self ..)) (by simp)
 |x::l,[],_,_,h=>absurd ((h x).mp (List.mem_cons_self ..)) (by simp)
 |x::l,y::m,hl,hm,h=>by
  obtain⟨l1,l2⟩:=List.pairwise_cons.mp hl
  obtain⟨k1,k2⟩:=List.pairwise_cons.mp hm
  have exy:x=y:=by
   have h1:=(h x).mp (List.mem_cons_self ..)
   have h2:=(h y).mpr (List.mem_cons_self ..)
   rcases List.mem_cons.mp h1 with h1|h1
   ·exact h1
   ·rcases List.mem_cons.mp h2 with h2|h2
    ·exact h2.symm
    ·have:=l1 y h2
     have:=k1 x h1
     omega
  subst exy
  congr 1
  refine inc_eq l2 k2 fun z=>⟨fun hz=>?_,fun hz=>?_⟩
  ·rcases List.mem_cons.mp ((h z).mp (List.mem_cons_of_mem _ hz)) with e|e
   ·have:=l1 z hz;omega
   ·exact e
  ·rcases List.mem_cons.mp ((h z).mpr (List.mem_cons_of_mem _ hz)) with e|e
   ·have:=k1 z hz;omega
   ·exact e
theorem Can.order (c:Can L m1 w1):rOf w1=(List.range m1.length).map fun j:Nat=>(j:Int):=by
 obtain⟨u,p,q,s⟩:=c.lw
 obtain⟨top,bf⟩:=Bfs.mk c.wf
 have hL:(0:Int)<L:=by have:=c.wf.l1;omega
 have pl:∀r∈rOf w1,place L (wi w1 r)=place L (u r.toNat):=fun r hr=>by
  have hrr:=rO_rng c.wf hr
  obtain⟨a,b⟩:=wi_ok c.wf hr
  have g1:=q _ a r.toNat (by omega)
  obtain⟨a',b'⟩:=p r.toNat (by omega)
  obtain⟨_,g2⟩:=wi_least c.wf a'
  rw[b',Int.toNat_of_nonneg hrr.1]at g2
  omega
 refine inc_eq ?_ ?_ fun x=>⟨fun hx=>?_,fun hx=>?_⟩
 ·have h1:=wi_inc bf
  refine List.Pairwise.imp_of_mem (fun {a b} ha hb hab=>?_) h1
  have ra:=rO_rng c.wf ha
  have rb:=rO_rng c.wf hb
  rw[pl a ha,pl b hb]at hab
  refine Int.lt_of_not_ge fun hge=>?_
  rcases Nat.lt_or_ge b.toNat a.toNat with hlt|hge'
  ·have:=s b.toNat a.toNat hlt (by omega)
   omega
  ·have:a.toNat=b.toNat:=by omega
   rw[this]at hab
   omega
 ·rw[List.pairwise_map]
  exact List.Pairwise.imp (fun h=>by omega) List.pairwise_lt_range
 ·have:=rO_rng c.wf hx
  exact List.mem_map.mpr ⟨x.toNat,List.mem_range.mpr (by omega),by omega⟩
 ·obtain⟨j,hj,rfl⟩:=List.mem_map.mp hx
  obtain⟨a,b⟩:=p j (List.mem_range.mp hj)
  have:=(wi_least c.wf a).1
  rwa [b]at this
end
end L2
set_option maxHeartbeats 1000000
namespace L2
open PySem PySem.Spec PyProof.Rows
def nt (n:Int):Str:=Str.ofString (toString n)
end L2
set_option maxHeartbeats 4000000
namespace L2
open PySem PySem.Spec PyProof.Rows
theorem call_tuple_L {X:Cx}:CallR X (.type "tuple") (fun xs H Q=>∃p ys,xs=[.ref p]/\((SqL X.K H p ys/\∀l,H l=none->Q (.ref l) (upd H l (.tup ys)))\/False)):=fun pins s σ H xs us Q I r h=>by
 obtain⟨p,ys,e,h|h⟩:=h
 ·exact call_tuple_of pins s σ H xs us Q I r ⟨p,ys,e,.inl h⟩
 ·exact h.elim
theorem len1 {α:Type}{us:List α}(h:us.length=1):∃a,us=[a]:=by match us,h with|[a],_=>exact⟨a,rfl⟩
theorem len2 {α:Type}{us:List α}(h:us.length=2):∃a b,us=[a,b]:=by match us,h with|[a,b],_=>exact⟨a,b,rfl⟩
theorem len3 {α:Type}{us:List α}(h:us.length=3):∃a b c,us=[a,b,c]:=by match us,h with|[a,b,c],_=>exact⟨a,b,c,rfl⟩
end L2
set_option maxHeartbeats 1000000
set_option maxHeartbeats 4000000
namespace PySem.W
open PySem PySem.Calls PyProof.Rows PyProof.V PySem.Spec
end PySem.W
namespace L2
open PySem PySem.W PySem.Spec PySem.Calls PyProof.Rows
def vD:Option (Option V)->(V->Prop)->Prop
 |some (some v),q=>q v
 |_,_=>False
theorem vD_some {v:V}{q:V->Prop}:vD (some (some v)) q=q v:=rfl
theorem vD_ex {o:Option (Option V)}{q:V->Prop}(h:vD o q):∃v,o=some (some v)/\q v:=by
 match o,h with
 |some (some v),h=>exact⟨v,rfl,h⟩
def tVarD (i:Nat):TE:=fun σ H Q=>vD σ[i]? fun v=>Q v H
theorem r_varD {i:Nat}{σ:St}{H:Hp}{Q:VK}:tVarD i σ H Q=vD σ[i]? fun v=>Q v H:=rfl
theorem pvD {X:Cx}(i:Nat){x:Str}{pos:Pos}(hN:X.N[i]?=some x:=by rfl)(hv:Vis X.env.scope x:=by first|exact Or.inl rfl|exact Or.inr (Or.inl rfl)|exact Or.inr (Or.inr rfl))(hd:(x==("__debug__" : Str))=false:=by decide)
  (hcd:(x==("__classdict__" : Str))=false:=by decide):PE X (.Name x pos) (tVarD i):=fun pins s σ H Q I h=>pv i hN hv hd hcd pins s σ H Q I (vD_ex h)
def iD:V->V->(Int->Int->Prop)->Prop
 |.int i,.int j,q=>q i j
 |x,y,q=>∃i j,x=.int i/\y=.int j/\q i j
theorem iD_int {i j:Int}{q:Int->Int->Prop}:iD (.int i) (.int j) q=q i j:=rfl
theorem iD_ex {x y:V}{q:Int->Int->Prop}:iD x y q=∃i j,x=.int i/\y=.int j/\q i j:=by
 cases x<;>cases y<;>first|rfl|(simp[iD])
def rID (C:Int->Int->Prop)(g:Int->Int->V):R2:=fun x y H Q=>iD x y fun i j=>C i j/\Q (g i j) H
def rI0D (g:Int->Int->V):R2:=fun x y H Q=>iD x y fun i j=>Q (g i j) H
theorem r_ID {C:Int->Int->Prop}{f:Int->Int->V}{x y:V}{H:Hp}{Q:VK}:rID C f x y H Q=iD x y fun i j=>C i j/\Q (f i j) H:=rfl
theorem r_I0D {f:Int->Int->V}{x y:V}{H:Hp}{Q:VK}:rI0D f x y H Q=iD x y fun i j=>Q (f i j) H:=rfl
theorem rID_eq {C:Int->Int->Prop}{g:Int->Int->V}:rID C g=rI C g:=by
 funext x y H Q;exact iD_ex
theorem rI0D_eq {g:Int->Int->V}:rI0D g=rI0 g:=by
 funext x y H Q;exact iD_ex
theorem opD {X:Cx}{f:Value->Value->Sem Value}{C:Int->Int->Prop}{g:Int->Int->V}(h:OpR X f (rI C g)):OpR X f (rID C g):=by rw[rID_eq];exact h
theorem opD0 {X:Cx}{f:Value->Value->Sem Value}{g:Int->Int->V}(h:OpR X f (rI0 g)):OpR X f (rI0D g):=by rw[rI0D_eq];exact h
def bD:V->(Bool->Prop)->Prop
 |.bl c,q=>q c
 |x,q=>∃c,x=.bl c/\q c
theorem bD_bl {c:Bool}{q:Bool->Prop}:bD (.bl c) q=q c:=rfl
theorem bD_ex {x:V}{q:Bool->Prop}:bD x q=∃c,x=.bl c/\q c:=by
 cases x<;>first|rfl|(simp[bD])
def tBD (t:TE):TT:=fun σ H Q=>t σ H fun x H1=>bD x fun c=>Q c H1
theorem r_BD {te:TE}{σ:St}{H:Hp}{R:Bool->Hp->Prop}:tBD te σ H R=te σ H fun x H1=>bD x fun c=>R c H1:=rfl
theorem tBD_eq {t:TE}:tBD t=tB t:=by
 funext σ H Q
 show t σ H _=t σ H _
 congr 1
 funext x H1;exact bD_ex
theorem tBD_eqT {t:TE}:tBD t=tTest t:=tBD_eq
theorem ptB {X:Cx}{e:Expr}{t:TE}(h:PT X e (tB t)):PT X e (tBD t):=by rw[tBD_eq];exact h
theorem ptT {X:Cx}{e:Expr}{t:TE}(h:PT X e (tTest t)):PT X e (tBD t):=by rw[tBD_eqT];exact h
def eD:V->V->Prop->Prop
 |.int _,.int _,q=>q
 |.str _,.str _,q=>q
 |.non,.non,q=>q
 |.bl _,.bl _,q=>q
 |x,y,q=>scal x y=true/\q
theorem eD_int {i j:Int}{q:Prop}:eD (.int i) (.int j) q=q:=rfl
theorem eD_str {i j:Str}{q:Prop}:eD (.str i) (.str j) q=q:=rfl
theorem eD_non {q:Prop}:eD .non .non q=q:=rfl
theorem eD_bl {i j:Bool}{q:Prop}:eD (.bl i) (.bl j) q=q:=rfl
theorem eD_ex {x y:V}{q:Prop}:eD x y q=(scal x y=true/\q):=by
 cases x<;>cases y<;>first|rfl|(simp[eD,scal])
def rEqF:R2:=fun x y H Q=>eD x y (Q (.bl (decide (x=y))) H)
theorem r_EqF {x y:V}{H:Hp}{Q:VK}:rEqF x y H Q=eD x y (Q (.bl (decide (x=y))) H):=rfl
theorem rEqF_eq:rEqF=rEq:=by funext x y H Q;exact eD_ex
theorem opE {X:Cx}{f:Value->Value->Sem Value}(h:OpR X f rEq):OpR X f rEqF:=by rw[rEqF_eq];exact h
def aD:V->(Addr->Prop)->Prop
 |.ref a,q=>q a
 |x,q=>∃a,x=.ref a/\q a
theorem aD_ref {a:Addr}{q:Addr->Prop}:aD (.ref a) q=q a:=rfl
theorem aD_ex {x:V}{q:Addr->Prop}:aD x q=∃a,x=.ref a/\q a:=by
 cases x<;>first|rfl|(simp[aD])
def nD:V->(Int->Prop)->Prop
 |.int a,q=>q a
 |x,q=>∃a,x=.int a/\q a
theorem nD_int {a:Int}{q:Int->Prop}:nD (.int a) q=q a:=rfl
theorem nD_ex {x:V}{q:Int->Prop}:nD x q=∃a,x=.int a/\q a:=by
 cases x<;>first|rfl|(simp[nD])
def rIxTD (K:PySem.W.Frag):R2:=fun x y H Q=>aD x fun p=>∃xs,nD y fun i=>SqT K H p xs/\∃v,atI xs i=some v/\Q v H
def rIxLD (K:PySem.W.Frag):R2:=fun x y H Q=>aD x fun p=>∃xs,nD y fun i=>SqL K H p xs/\∃v,atI xs i=some v/\Q v H
theorem r_ixTD {K:PySem.W.Frag}{x y:V}{H:Hp}{Q:VK}:rIxTD K x y H Q=aD x fun p=>∃xs,nD y fun i=>SqT K H p xs/\∃v,atI xs i=some v/\Q v H:=rfl
theorem r_ixLD {K:PySem.W.Frag}{x y:V}{H:Hp}{Q:VK}:rIxLD K x y H Q=aD x fun p=>∃xs,nD y fun i=>SqL K H p xs/\∃v,atI xs i=some v/\Q v H:=rfl
theorem rIxTD_eq {K:PySem.W.Frag}:rIxTD K=rIxT K:=by
 funext x y H Q
 show aD x _=∃p xs i v,_
 rw[aD_ex]
 refine propext ⟨fun ⟨p,e,h⟩=>?_,fun ⟨p,xs,i,v,e1,e2,e3,e4,e5⟩=>⟨p,e1,?_⟩⟩
 ·obtain⟨xs,h⟩:=h
  rw[nD_ex]at h
  obtain⟨i,e2,e3,v,e4,e5⟩:=h
  exact⟨p,xs,i,v,e,e2,e3,e4,e5⟩
 ·refine⟨xs,?_⟩
  rw[nD_ex]
  exact⟨i,e2,e3,v,e4,e5⟩
theorem rIxLD_eq {K:PySem.W.Frag}:rIxLD K=rIxL K:=by
 funext x y H Q
 show aD x _=∃p xs i v,_
 rw[aD_ex]
 refine propext ⟨fun ⟨p,e,h⟩=>?_,fun ⟨p,xs,i,v,e1,e2,e3,e4,e5⟩=>⟨p,e1,?_⟩⟩
 ·obtain⟨xs,h⟩:=h
  rw[nD_ex]at h
  obtain⟨i,e2,e3,v,e4,e5⟩:=h
  exact⟨p,xs,i,v,e,e2,e3,e4,e5⟩
 ·refine⟨xs,?_⟩
  rw[nD_ex]
  exact⟨i,e2,e3,v,e4,e5⟩
theorem ixTD {X:Cx}{K:PySem.W.Frag}(h:IxR X (rIxT K)):IxR X (rIxTD K):=by rw[rIxTD_eq];exact h
theorem ixLD {X:Cx}{K:PySem.W.Frag}(h:IxR X (rIxL K)):IxR X (rIxLD K):=by rw[rIxLD_eq];exact h
def lD1:List V->(V->Prop)->Prop
 |[x],q=>q x
 |xs,q=>∃x,xs=[x]/\q x
theorem lD1_one {x:V}{q:V->Prop}:lD1 [x] q=q x:=rfl
theorem lD1_ex {xs:List V}{q:V->Prop}:lD1 xs q=∃x,xs=[x]/\q x:=by
 match xs with
 |[]=>rfl
 |[x]=>simp[lD1]
 |x::y::r=>rfl
def rLenD (K:PySem.W.Frag):List V->Hp->VK->Prop:=fun xs H Q=>lD1 xs fun x=>aD x fun p=>∃ys,(SqL K H p ys\/SqT K H p ys)/\Q (.int ys.length) H
theorem r_lenD {K:PySem.W.Frag}{xs:List V}{H:Hp}{Q:VK}:rLenD K xs H Q=lD1 xs fun x=>aD x fun p=>∃ys,(SqL K H p ys\/SqT K H p ys)/\Q (.int ys.length) H:=rfl
theorem lenD {X:Cx}{K:PySem.W.Frag}{f:Value}(h:CallR X f (fun xs H Q=>∃p ys,xs=[.ref p]/\(SqL K H p ys\/SqT K H p ys)/\Q (.int ys.length) H)):CallR X f (rLenD K):=by
 have e:rLenD K=fun xs H Q=>∃p ys,xs=[.ref p]/\(SqL K H p ys\/SqT K H p ys)/\Q (.int ys.length) H:=by
  funext xs H Q
  show lD1 xs _=_
  rw[lD1_ex]
  refine propext ⟨fun ⟨x,e,h⟩=>?_,fun ⟨p,ys,e,h1,h2⟩=>⟨_,e,ys,h1,h2⟩⟩
  rw[aD_ex]at h
  obtain⟨p,rfl,ys,h1,h2⟩:=h
  exact⟨p,ys,e,h1,h2⟩
 rw[e];exact h
theorem ps_setL {X:Cx}{i:Nat}{x:Str}{e:Expr}{te:TE}{pos pos':Pos}(hN:X.N.Nodup)(he:PE X e te)(hi:X.N[i]?=some x:=by rfl)(hx:Loc X.env.scope x:=by exact Or.inl rfl)(hs:swapsWith e (some (.Name x pos')) pos.line X.env=pure false:=by rfl)(hf:X.fn x=true\/X.env.scope.names.lookup x=some .local:=by first|exact .inl rfl|exact .inr rfl|assumption):PS X (.Assign [.Name x pos'] e pos) (tAsg te (gName i)):=ps_set hN hi hx he hs hf
theorem pe_ixA {X:Cx}{r:R2}{a b:Expr}{ta tb:TE}{pos:Pos}(hr:IxR X r)(ha:PE X a ta)(hb:PE X b tb)(hs:PlainIx b:=by exact fun _ _=>rfl):PE X (.Subscript a b pos) (tOp r ta tb):=pe_ix hr ha hb hs
end L2
namespace PySem
open Sem (wp)
structure VKind (prog:Program)(w:World)(K:Type)[DecidableEq K] where
 is:Heap->K->Value->Prop
 hash:K->Int
 draws:K->Nat
 room:Around->Prop
 inj:∀{h:Heap} {a:Value} {x y:K},is h x a->is h y a->x=y
 keeps:∀{h h':Heap} {k:K} {a:Value} {d:Addr} {o:Obj} {es ep},is h k a->h.get? d=some o->o.data=.dict es ep->Heap.SameBut d h h'->is h' k a
 pyHash:∀{A:Around} {E:Value->Shared->Prop} {s:Shared} {k:K} {a:Addr} {Q:Int->Shared->Prop},room A->is s.heap k (.ref a)->Q (hash k) {s with toks:=s.toks+draws k}->wpAny (model prog w) A (PySem.pyHash (.ref a)) Q E s
 eqBool:∀{A:Around} {E:Value->Shared->Prop} {s:Shared} {x y:K} {u:Value} {b:Addr} {Q:Bool->Shared->Prop},room A->is s.heap x u->is s.heap y (.ref b)->Q (decide (x=y)) s->wpAny (model prog w) A (PySem.eqBool u (.ref b)) Q E s
 quiet:∀{A:Around} {E:Value->Shared->Prop} {s:Shared} {k:K} {a:Value} {Q:Bool->Shared->Prop},room A->is s.heap k a->Q true s->wpAny (model prog w) A (eqIsQuiet 8 a) Q E s
abbrev NI:=Int ⊕ List Int
abbrev NK:=Option (List NI)
end PySem
namespace L2
open PySem PySem.W PySem.Spec PySem.Calls PyProof.Rows
def TSq (K:PySem.W.Frag)(H H':Hp):Prop:=∀b ys,SqT K H b ys->SqT K H' b ys
theorem TSq.un {K:PySem.W.Frag}{H:Hp}{p:Addr}{o:HO}(h1:∀xs,H p≠some (.tup xs))(h2:∀ob xs,H p≠some (.frz ob (.tup xs))):TSq K H (upd H p o):=fun b ys e=>by
 rcases e with (e|⟨ob,e⟩)|e
 ·exact .inl (.inl (by rw[upd_ne (fun z=>by rw[z]at e;exact h1 _ e)];exact e))
 ·exact .inl (.inr ⟨ob,by rw[upd_ne (fun z=>by rw[z]at e;exact h2 _ _ e)];exact e⟩)
 ·exact .inr e
end L2
namespace S64
open PySem PyProof.Rows
def KE (κ:KeyKind)(x:Keyed):κ.α:=(κ.keyOf x.1).getD κ.dflt
theorem KK_of {κ:KeyKind}{xs:Array Keyed}{i:Nat}{x:Keyed}(h:xs[i]?=some x):KK κ xs i=KE κ x:=by unfold KK KE;rw[h]
structure SB (kd:SortKind)(a₀:Array Keyed)(st:SortSt):Prop where
 perm:(arrOf st).Perm a₀
 kind:kindOf st=kd
 failed:failedOf st=none
theorem SB.size {kd:SortKind}{a₀:Array Keyed}{st:SortSt}(h:SB kd a₀ st):(arrOf st).size=a₀.size:=h.perm.size_eq
theorem SB.setArr {kd:SortKind}{a₀:Array Keyed}{st:SortSt}(h:SB kd a₀ st){xs:Array Keyed}(hp:xs.Perm (arrOf st)):SB kd a₀ (PyProof.Rows.setArr st xs):=⟨hp.trans h.perm,h.kind,h.failed⟩
theorem SB.mem {kd:SortKind}{a₀:Array Keyed}{st:SortSt}(h:SB kd a₀ st){x:Keyed}(hx:x∈(arrOf st).toList):x∈a₀.toList:=(Array.perm_iff_toList_perm.mp h.perm).mem_iff.mp hx
theorem SB.get {kd:SortKind}{a₀:Array Keyed}{st:SortSt}(h:SB kd a₀ st){i:Nat}(hi:i<a₀.size):∃x,(arrOf st)[i]?=some x/\x∈a₀.toList:=by
 have hi':i<(arrOf st).size:=by rw[h.size];exact hi
 exact⟨(arrOf st)[i],getElem?_pos _ i hi',h.mem (by simp)⟩
def LtOk (kd:SortKind)(κ:KeyKind)(a₀:Array Keyed)(prog:Program)(w:World)(A:Around)(E:Value->Shared->Prop)(s:Shared):Prop:=
 ∀(x y:Keyed) (st:SortSt) (Q:Option Bool->SortSt->Prop),x∈a₀.toList->y∈a₀.toList->kindOf st=kd->Q (some (κ.blt (KE κ x) (KE κ y))) st->wpS (model prog w) A E s (lt' x y) Q st
def SO (κ:KeyKind)(xs:Array Keyed)(lo hi:Nat):Prop:=∀i j,lo<=i->i<=j->j<hi->κ.kle (KK κ xs i) (KK κ xs j)
def NI (κ:KeyKind)(xs:Array Keyed)(lo hi:Nat):Prop:=∀i j,lo<=i->i<=j->j<hi->κ.kle (KK κ xs j) (KK κ xs i)
def Out (lo hi:Nat)(xs ys:Array Keyed):Prop:=∀i,i<lo\/hi<=i->ys[i]?=xs[i]?
theorem Out.refl (lo hi:Nat)(xs:Array Keyed):Out lo hi xs xs:=fun _ _=>rfl
theorem Out.trans {lo hi:Nat}{xs ys zs:Array Keyed}(h:Out lo hi xs ys)(g:Out lo hi ys zs):Out lo hi xs zs:=fun i hi=>(g i hi).trans (h i hi)
theorem out_mirror {xs:Array Keyed}{lo hi i j:Nat}(hj:j<=xs.size)(h1:lo<=i)(h2:j<=hi):Out lo hi xs (mirror xs i j ((j-i) / 2)):=fun k hk=>by
 rw[getElem?_mirror_all hj,if_neg (by omega)]
theorem out_bubble {xs:Array Keyed}{lo hi src d:Nat}(hs:src<xs.size)(hd:d<=src)(h1:lo<=src-d)(h2:src<hi):Out lo hi xs (bubble xs src d):=fun k hk=>by
 rw[getElem?_bubble hs d hd,if_neg (by omega),if_neg (by omega)]
section
variable {prog:Program} {w:World} {A:Around} {E:Value->Shared->Prop} {s:Shared} {a₀:Array Keyed} {κ:KeyKind} {kd:SortKind}
theorem wp_ltAt {st:SortSt}{i j:Nat}{Q:Option Bool->SortSt->Prop}(hO:LtOk kd κ a₀ prog w A E s)(hB:SB kd a₀ st)(hi:i<a₀.size)(hj:j<a₀.size)(h:Q (some (κ.blt (KK κ (arrOf st) i) (KK κ (arrOf st) j))) st):wpS (model prog w) A E s (ltAt' i j) Q st:=by
 obtain⟨x,e1,hx⟩:=hB.get hi
 obtain⟨y,e2,hy⟩:=hB.get hj
 rw[KK_of e1,KK_of e2]at h
 rw[ltAt'_eq]
 refine wpS_bind (wpS_get ?_)
 show wpS _ _ _ _ (do let x <- elem' (arrOf st) i;let y <- elem' (arrOf st) j;lt' x y) Q st
 rw[elem'_eq,elem'_eq,e1,e2]
 exact wpS_bind (wpS_pure (wpS_bind (wpS_pure (hO x y st Q hx hy hB.kind h))))
def ascL (lo a nrem:Nat):StateT SortSt Sem AscSt:=
 forIn [a:nrem] ((none,a):AscSt) fun _ __s=>do
  let __x <- ltAt' (lo+__s.snd) (lo+__s.snd-1)
  match __x with
  |some smaller=>if smaller=true then pure (ForInStep.done (none,__s.snd)) else pure (ForInStep.yield (none,__s.snd+1))
  |_=>pure (ForInStep.done (some none,__s.snd))
theorem SO.snoc {xs:Array Keyed}{lo x:Nat}(h:SO κ xs lo (lo+x))(o:1<=x)(q:κ.blt (KK κ xs (lo+x)) (KK κ xs (lo+x-1))=false):SO κ xs lo (lo+(x+1)):=fun i j a b c=>by
 rcases Nat.lt_or_ge j (lo+x) with y|y
 ·exact h i j a b y
 obtain rfl:j=lo+x:=by omega
 rcases Nat.eq_or_lt_of_le b with rfl|z
 ·exact KeyOrd.kle_refl _
 ·exact KeyOrd.kle_trans (h i (lo+x-1) a (by omega) (by omega)) q
theorem wp_asc {st:SortSt}{lo a nrem:Nat}{Q:AscSt->SortSt->Prop}(hO:LtOk kd κ a₀ prog w A E s)(hn:lo+nrem<=a₀.size)(ha:1<=a)(han:a<=nrem)(hB:SB kd a₀ st)(hs:SO κ (arrOf st) lo (lo+a))
  (h:∀n,a<=n->n<=nrem->SO κ (arrOf st) lo (lo+n)->(n=nrem\/κ.klt (KK κ (arrOf st) (lo+n)) (KK κ (arrOf st) (lo+n-1)))->Q (none,n) st):
  wpS (model prog w) A E s (ascL lo a nrem) Q st:=by
 unfold ascL
 refine wpS_forRange (fun x c t=>t=st/\c=(none,x)/\x<=nrem/\SO κ (arrOf st) lo (lo+x)) (fun x c t y z i=>?_) (fun c t i=>?_) ⟨rfl,rfl,han,hs⟩
 ·obtain⟨rfl,rfl,_,so⟩:=i
  refine wpS_bind (wp_ltAt hO hB (by show lo+x<_;omega) (by show lo+x-1<_;omega) ?_)
  dsimp only
  generalize e:κ.blt _ _=b
  cases b
  ·exact wpS_pure ⟨rfl,rfl,z,so.snoc (by omega) e⟩
  ·exact wpS_pure (h x y (Nat.le_of_lt z) so (.inr e))
 ·obtain⟨rfl,rfl,o,so⟩:=i
  exact h _ (by omega) o so (.inl (by omega))
def tailL (lo n nrem:Nat):StateT SortSt Sem (Option Nat):=do
 reverseSlice' lo (lo+n)
 let __s <- ascL lo n nrem
 match __s.fst with
 |some r=>pure r
 |none=>pure (some __s.snd)
theorem wp_reverse {st:SortSt}{i j:Nat}{Q:Unit->SortSt->Prop}(h:Q () (setArr st (mirror (arrOf st) i j ((j-i) / 2)))):wpS (model prog w) A E s (reverseSlice' i j) Q st:=by
 rw[reverseSlice'_eq];exact wpS_modify h
theorem wp_tail {st:SortSt}{lo n nrem:Nat}{Q:Option Nat->SortSt->Prop}(hO:LtOk kd κ a₀ prog w A E s)(hn:lo+nrem<=a₀.size)(h1:1<=n)(hnn:n<=nrem)(hB:SB kd a₀ st)(hs:NI κ (arrOf st) lo (lo+n))
  (h:∀m st',SB kd a₀ st'->pendingOf st'=pendingOf st->Out lo (lo+nrem) (arrOf st) (arrOf st')->1<=m->m<=nrem->SO κ (arrOf st') lo (lo+m)->Q (some m) st'):
  wpS (model prog w) A E s (tailL lo n nrem) Q st:=by
 unfold tailL
 have hsz:lo+n<=(arrOf st).size:=by rw[hB.size];omega
 refine wpS_bind (wp_reverse ?_)
 have hB':SB kd a₀ (setArr st (mirror (arrOf st) lo (lo+n) ((lo+n-lo) / 2))):=hB.setArr (mirror_perm _ _ _ _)
 refine wpS_bind (wp_asc hO hn h1 hnn hB' ?_ fun m hm1 hm2 hsm _=>wpS_pure (h m _ hB' rfl (out_mirror hsz (Nat.le_refl _) (by omega)) (by omega) hm2 hsm))
 intro i j hl hij hj
 show κ.kle (KK κ (mirror (arrOf st) lo (lo+n) ((lo+n-lo) / 2)) i) (KK κ (mirror (arrOf st) lo (lo+n) ((lo+n-lo) / 2)) j)
 rw[KK_mirror hsz,KK_mirror hsz,if_pos (by omega),if_pos (by omega)]
 exact hs _ _ (by omega) (by omega) (by omega)
end
end S64
namespace S64
open PySem PyProof.Rows
def gallop':Bool->Keyed->Array Keyed->Nat->Nat->Nat->StateT SortSt Sem (Option Nat):=sortPriv% PySem.Builtin.gallop
def beyond (left:Bool)(key:Keyed)(arr:Array Keyed)(base i:Nat):StateT SortSt Sem (Option Bool):=do
 let x <- elem' arr (base+i)
 if left then lt' x key else return ( <- lt' key x).map (!·)
def lastL (left:Bool)(key:Keyed)(arr:Array Keyed)(base n lo hi:Nat):StateT SortSt Sem (Option Nat):=do
 let mut lo:=lo
 let mut hi:=hi
 for _ in [0:n] do
  if lo >= hi then break
  let m:=lo+(hi-lo) / 2
  let some more <- beyond left key arr base m|return none
  if more then lo:=m+1 else hi:=m
 return some hi
theorem gallop'_eq (left:Bool)(key:Keyed)(arr:Array Keyed)(base n hint:Nat):gallop' left key arr base n hint=(do
 let some right <- beyond left key arr base hint|return none
 if right then
  let mut lastofs:=0
  let mut ofs:=1
  for _ in [0:n] do
   if ofs >= n-hint then break
   let some more <- beyond left key arr base (hint+ofs)|return none
   if !more then break
   lastofs:=ofs
   ofs:=2*ofs+1
  lastL left key arr base n (hint+lastofs+1) (hint+min ofs (n-hint))
 else
  let mut lastofs:=0
  let mut ofs:=1
  for _ in [0:n] do
   if ofs >= hint+1 then break
   let some found <- beyond left key arr base (hint-ofs)|return none
   if found then break
   lastofs:=ofs
   ofs:=2*ofs+1
  lastL left key arr base n (hint+1-min ofs (hint+1)) (hint-lastofs)):=rfl
section
variable {prog:Program} {w:World} {A:Around} {E:Value->Shared->Prop} {s:Shared} {a₀:Array Keyed} {κ:KeyKind} {kd:SortKind}
def gB (κ:KeyKind)(left:Bool)(key:Keyed)(arr:Array Keyed)(base i:Nat):Bool:=if left then κ.blt (KK κ arr (base+i)) (KE κ key) else !κ.blt (KE κ key) (KK κ arr (base+i))
def InA (a₀ arr:Array Keyed)(base n:Nat):Prop:=∀i,i<n->∃x,arr[base+i]?=some x/\x∈a₀.toList
theorem wp_beyond {left:Bool}{key:Keyed}{arr:Array Keyed}{base n i:Nat}{st:SortSt}{Q:Option Bool->SortSt->Prop}(hO:LtOk kd κ a₀ prog w A E s)(hk:kindOf st=kd)(hkey:key∈a₀.toList)(hA:InA a₀ arr base n)(hi:i<n)(h:Q (some (gB κ left key arr base i)) st):
  wpS (model prog w) A E s (beyond left key arr base i) Q st:=by
 obtain⟨x,e,hx⟩:=hA i hi
 unfold beyond
 rw[elem'_eq,e]
 refine wpS_bind (wpS_pure ?_)
 unfold gB at h
 rw[KK_of e]at h
 cases left with
 |true=>exact hO x key st Q hx hkey hk h
 |false=>
  refine wpS_bind (hO key x st _ hkey hx hk ?_)
  exact wpS_pure h
theorem wp_gallop {left:Bool}{key:Keyed}{arr:Array Keyed}{base n hint:Nat}{st:SortSt}{Q:Option Nat->SortSt->Prop}(hO:LtOk kd κ a₀ prog w A E s)(hk:kindOf st=kd)(hkey:key∈a₀.toList)(hA:InA a₀ arr base n)(hh:hint<n)
  (hmono:∀i j,i<=j->j<n->gB κ left key arr base j=true->gB κ left key arr base i=true)
  (h:∀k,k<=n->(∀i,i<k->gB κ left key arr base i=true)->(∀i,k<=i->i<n->gB κ left key arr base i=false)->Q (some k) st):
  wpS (model prog w) A E s (gallop' left key arr base n hint) Q st:=by
 have hanti:∀i j,i<=j->j<n->gB κ left key arr base i=false->gB κ left key arr base j=false:=fun i j hij hj hf=>by
  cases e:gB κ left key arr base j with
  |false=>rfl
  |true=>rw[hmono i j hij hj e]at hf;cases hf
 have hlast:∀lo hi:Nat,lo<=hi->hi<=n->(∀i,i<lo->gB κ left key arr base i=true)->(∀i,hi<=i->i<n->gB κ left key arr base i=false)->wpS (model prog w) A E s (lastL left key arr base n lo hi) Q st:=by
  intro lo hi hlh hhn hlo hhi
  unfold lastL
  refine wpS_bind (wpS_mono (wpS_forRange (I:=fun x c st'=>st'=st/\∃lo hi,c=(none,lo,hi)/\lo<=hi/\hi<=n/\hi-lo<=n-x/\(∀i,i<lo->gB κ left key arr base i=true)/\(∀i,hi<=i->i<n->gB κ left key arr base i=false))
   (Q:=fun c st'=>st'=st/\∃k,∃lo,c=(none,lo,k)/\k<=n/\(∀i,i<k->gB κ left key arr base i=true)/\(∀i,k<=i->i<n->gB κ left key arr base i=false)) ?step ?fin ⟨rfl,lo,hi,rfl,hlh,hhn,by omega,hlo,hhi⟩) ?post)
  case fin=>
   rintro c st' ⟨rfl,lo,hi,rfl,h1,h2,h3,h4,h5⟩
   have:lo=hi:=by omega
   subst this
   exact⟨rfl,lo,lo,rfl,h2,h4,h5⟩
  case post=>
   rintro c st' ⟨rfl,k,lo,rfl,h1,h2,h3⟩
   exact wpS_pure (h k h1 h2 h3)
  case step=>
   rintro x c st' _ hx ⟨rfl,lo,hi,rfl,h1,h2,h3,h4,h5⟩
   dsimp only
   by_cases hge:lo >= hi
   ·rw[if_pos hge]
    have:lo=hi:=by omega
    subst this
    exact wpS_pure ⟨rfl,lo,lo,rfl,h2,h4,h5⟩
   ·rw[if_neg hge]
    refine wpS_bind (wp_beyond hO hk hkey hA (n:=n) (by omega) ?_)
    cases hg:gB κ left key arr base (lo+(hi-lo) / 2) with
    |true=>
     dsimp only
     rw[if_pos rfl]
     refine wpS_pure ⟨rfl,lo+(hi-lo) / 2+1,hi,rfl,by omega,h2,by omega,fun i hi'=>?_,h5⟩
     exact hmono i (lo+(hi-lo) / 2) (by omega) (by omega) hg
    |false=>
     dsimp only
     rw[if_neg (by simp)]
     refine wpS_pure ⟨rfl,lo,lo+(hi-lo) / 2,rfl,by omega,by omega,by omega,h4,fun i hi' hn=>?_⟩
     exact hanti (lo+(hi-lo) / 2) i hi' hn hg
 rw[gallop'_eq]
 refine wpS_bind (wp_beyond hO hk hkey hA hh ?_)
 cases hg:gB κ left key arr base hint with
 |true=>
  dsimp only
  rw[if_pos rfl]
  refine wpS_bind (wpS_mono (wpS_forRange (I:=fun x c st'=>st'=st/\∃last ofs,c=(none,last,ofs)/\last<ofs/\x<ofs/\hint+last<n/\gB κ left key arr base (hint+last)=true)
   (Q:=fun c st'=>st'=st/\∃last ofs,c=(none,last,ofs)/\last<ofs/\hint+last<n/\gB κ left key arr base (hint+last)=true/\(n-hint<=ofs\/hint+ofs<n/\gB κ left key arr base (hint+ofs)=false)) ?step ?fin ⟨rfl,0,1,rfl,by omega,by omega,by omega,hg⟩) ?post)
  case fin=>
   rintro c st' ⟨rfl,last,ofs,rfl,h1,h2,h3,h4⟩
   exact⟨rfl,last,ofs,rfl,h1,h3,h4,.inl (by omega)⟩
  case step=>
   rintro x c st' _ hx ⟨rfl,last,ofs,rfl,h1,h2,h3,h4⟩
   dsimp only
   by_cases hge:ofs >= n-hint
   ·rw[if_pos hge]
    exact wpS_pure ⟨rfl,last,ofs,rfl,h1,h3,h4,.inl hge⟩
   ·rw[if_neg hge]
    refine wpS_bind (wp_beyond hO hk hkey hA (n:=n) (by omega) ?_)
    cases hgo:gB κ left key arr base (hint+ofs) with
    |true=>
     dsimp only
     rw[if_neg (by simp)]
     exact wpS_pure ⟨rfl,ofs,2*ofs+1,rfl,by omega,by omega,by omega,hgo⟩
    |false=>
     dsimp only
     rw[if_pos (by simp)]
     exact wpS_pure ⟨rfl,last,ofs,rfl,h1,h3,h4,.inr ⟨by omega,hgo⟩⟩
  case post=>
   rintro c st' ⟨rfl,last,ofs,rfl,h1,h3,h4,h5⟩
   dsimp only
   refine hlast (hint+last+1) (hint+min ofs (n-hint)) (by omega) (by omega) (fun i hi=>hmono i (hint+last) (by omega) h3 h4) (fun i hi hn=>?_)
   rcases h5 with h5|⟨h5,h6⟩
   ·omega
   ·exact hanti (hint+ofs) i (by omega) hn h6
 |false=>
  dsimp only
  rw[if_neg (by simp)]
  refine wpS_bind (wpS_mono (wpS_forRange (I:=fun x c st'=>st'=st/\∃last ofs,c=(none,last,ofs)/\last<ofs/\x<ofs/\last<=hint/\gB κ left key arr base (hint-last)=false)
   (Q:=fun c st'=>st'=st/\∃last ofs,c=(none,last,ofs)/\last<ofs/\last<=hint/\gB κ left key arr base (hint-last)=false/\(hint+1<=ofs\/ofs<=hint/\gB κ left key arr base (hint-ofs)=true)) ?step ?fin ⟨rfl,0,1,rfl,by omega,by omega,by omega,hg⟩) ?post)
  case fin=>
   rintro c st' ⟨rfl,last,ofs,rfl,h1,h2,h3,h4⟩
   exact⟨rfl,last,ofs,rfl,h1,h3,h4,.inl (by omega)⟩
  case step=>
   rintro x c st' _ hx ⟨rfl,last,ofs,rfl,h1,h2,h3,h4⟩
   dsimp only
   by_cases hge:ofs >= hint+1
   ·rw[if_pos hge]
    exact wpS_pure ⟨rfl,last,ofs,rfl,h1,h3,h4,.inl hge⟩
   ·rw[if_neg hge]
    refine wpS_bind (wp_beyond hO hk hkey hA (n:=n) (by omega) ?_)
    cases hgo:gB κ left key arr base (hint-ofs) with
    |true=>
     dsimp only
     rw[if_pos rfl]
     exact wpS_pure ⟨rfl,last,ofs,rfl,h1,h3,h4,.inr ⟨by omega,hgo⟩⟩
    |false=>
     dsimp only
     rw[if_neg (by simp)]
     exact wpS_pure ⟨rfl,ofs,2*ofs+1,rfl,by omega,by omega,by omega,hgo⟩
  case post=>
   rintro c st' ⟨rfl,last,ofs,rfl,h1,h3,h4,h5⟩
   dsimp only
   refine hlast (hint+1-min ofs (hint+1)) (hint-last) (by omega) (by omega) (fun i hi=>?_) (fun i hi hn=>hanti (hint-last) i (by omega) hn h4)
   rcases h5 with h5|⟨h5,h6⟩
   ·omega
   ·exact hmono i (hint-ofs) (by omega) (by omega) h6
end
end S64
namespace S64
open PySem PyProof.Rows
abbrev setGallop (st:SortSt)(g:Nat):SortSt:=SortSt.mk' (kindOf st) (arrOf st) (pendingOf st) g (failedOf st)
def setMinGallop':Nat->StateT SortSt Sem Unit:=sortPriv% PySem.Builtin.setMinGallop
theorem setMinGallop'_eq (g:Nat):setMinGallop' g=modify fun s=>setGallop s g:=rfl
def mergeLo':Array Keyed->Array Keyed->StateT SortSt Sem (Array Keyed):=sortPriv% PySem.Builtin.mergeLo
def doneL (a b out:Array Keyed)(ia ib:Nat):Array Keyed:=out++a.extract ia a.size++b.extract ib b.size
def lastA (a b out:Array Keyed)(ia ib:Nat):Array Keyed:=out++b.extract ib b.size++a.extract ia a.size
theorem mergeLo'_eq (a b:Array Keyed):mergeLo' a b=(do
 rule "list.sort.merge-lo"
 let mut out:Array Keyed := #[<-elem' b 0]
 let mut ia:=0
 let mut ib:=1
 if ib==b.size then return doneL a b out ia ib
 if ia+1==a.size then return lastA a b out ia ib
 let mut minGallop:=gallopOf ( <- get)
 for _ in [0:a.size+b.size] do
  let mut acount:=0
  let mut bcount:=0
  for _ in [0:a.size+b.size] do
   let some bWins <- lt' ( <- elem' b ib) ( <- elem' a ia)|return doneL a b out ia ib
   if bWins then
    out:=out.push ( <- elem' b ib);ib:=ib+1;bcount:=bcount+1;acount:=0
    if ib==b.size then return doneL a b out ia ib
    if bcount >= minGallop then break
   else
    out:=out.push ( <- elem' a ia);ia:=ia+1;acount:=acount+1;bcount:=0
    if ia+1==a.size then return lastA a b out ia ib
    if acount >= minGallop then break
  rule "list.sort.gallop"
  minGallop:=minGallop+1
  for _ in [0:a.size+b.size] do
   if minGallop > 1 then minGallop:=minGallop-1
   setMinGallop' minGallop
   let some k <- gallop' false ( <- elem' b ib) a ia (a.size-ia) 0|return doneL a b out ia ib
   acount:=k
   if k > 0 then
    out:=out++a.extract ia (ia+k);ia:=ia+k
    if ia+1==a.size then return lastA a b out ia ib
    if ia==a.size then return doneL a b out ia ib
   out:=out.push ( <- elem' b ib);ib:=ib+1
   if ib==b.size then return doneL a b out ia ib
   let some k <- gallop' true ( <- elem' a ia) b ib (b.size-ib) 0|return doneL a b out ia ib
   bcount:=k
   if k > 0 then
    out:=out++b.extract ib (ib+k);ib:=ib+k
    if ib==b.size then return doneL a b out ia ib
   out:=out.push ( <- elem' a ia);ia:=ia+1
   if ia+1==a.size then return lastA a b out ia ib
   if acount<7&&bcount<7 then break
  minGallop:=minGallop+1
  setMinGallop' minGallop
 unsupported "internal:list.sort.merge-bound"):=rfl
section
variable {α:Type} {R:α->α->Prop} {A B out:List α} {ia ib:Nat}
structure MI (R:α->α->Prop)(A B out:List α)(ia ib:Nat):Prop where
 ha:ia<=A.length
 hb:ib<=B.length
 pm:out.Perm (A.take ia++B.take ib)
 so:out.Pairwise R
 le:∀x∈out,∀y∈A.drop ia++B.drop ib,R x y
theorem MI.swap (h:MI R A B out ia ib):MI R B A out ib ia:=⟨h.hb,h.ha,h.pm.trans List.perm_append_comm,h.so,fun x hx y hy=>h.le x hx y (by rcases List.mem_append.mp hy with z|z;exact List.mem_append_right _ z;exact List.mem_append_left _ z)⟩
theorem drop_split (A:List α)(i k:Nat):A.drop i=(A.drop i).take k++A.drop (i+k):=by
 rw[<-List.drop_drop,List.take_append_drop]
theorem MI.ta (h:MI R A B out ia ib)(sA:A.Pairwise R){k:Nat}(hk:ia+k<=A.length)(hx:∀x∈(A.drop ia).take k,∀y∈B.drop ib,R x y):MI R A B (out++(A.drop ia).take k) (ia+k) ib:=by
 have hsp:=drop_split A ia k
 have hpa:(A.drop ia).Pairwise R:=List.Pairwise.sublist (List.drop_sublist _ _) sA
 refine⟨hk,h.hb,?_,?_,fun x hxo y hy=>?_⟩
 ·have e:A.take (ia+k)=A.take ia++(A.drop ia).take k:=List.take_add
  rw[e,List.append_assoc]
  refine (List.Perm.append_right _ h.pm).trans ?_
  rw[List.append_assoc]
  exact List.Perm.append_left _ List.perm_append_comm
 ·refine List.pairwise_append.mpr ⟨h.so,List.Pairwise.sublist (List.take_sublist _ _) hpa,fun x hx1 y hy1=>h.le x hx1 y (List.mem_append_left _ (List.mem_of_mem_take hy1))⟩
 ·rcases List.mem_append.mp hxo with hxo|hxo
  ·refine h.le x hxo y ?_
   rcases List.mem_append.mp hy with hy|hy
   ·exact List.mem_append_left _ (by rw[hsp];exact List.mem_append_right _ hy)
   ·exact List.mem_append_right _ hy
  ·rcases List.mem_append.mp hy with hy|hy
   ·rw[hsp]at hpa
    exact (List.pairwise_append.mp hpa).2.2 x hxo y hy
   ·exact hx x hxo y hy
theorem MI.tb (h:MI R A B out ia ib)(sB:B.Pairwise R){k:Nat}(hk:ib+k<=B.length)(hx:∀x∈(B.drop ib).take k,∀y∈A.drop ia,R x y):MI R A B (out++(B.drop ib).take k) ia (ib+k):=(h.swap.ta sB hk hx).swap
theorem MI.start (A B:List α):MI R A B [] 0 0:=⟨Nat.zero_le _,Nat.zero_le _,by simp,List.Pairwise.nil,fun x hx=>by cases hx⟩
def Mgd (R:α->α->Prop)(A B r:List α):Prop:=r.Perm (A++B)/\r.Pairwise R
theorem MI.done (h:MI R A B out ia ib)(sA:A.Pairwise R)(sB:B.Pairwise R)(he:A.length<=ia\/B.length<=ib):Mgd R A B (out++A.drop ia++B.drop ib):=by
 rcases he with he|he
 ·have:=(h.tb sB (k:=B.length-ib) (by have:=h.hb;omega) (fun x _ y hy=>by rw[List.drop_eq_nil_of_le he]at hy;cases hy))
  have e:(B.drop ib).take (B.length-ib)=B.drop ib:=List.take_of_length_le (by rw[List.length_drop];exact Nat.le_refl _)
  rw[e]at this
  rw[List.drop_eq_nil_of_le he,List.append_nil]
  refine⟨?_,this.so⟩
  have p:=this.pm
  rw[List.take_of_length_le he,List.take_of_length_le (by have:=h.hb;omega)]at p
  exact p
 ·have:=(h.ta sA (k:=A.length-ia) (by have:=h.ha;omega) (fun x _ y hy=>by rw[List.drop_eq_nil_of_le he]at hy;cases hy))
  have e:(A.drop ia).take (A.length-ia)=A.drop ia:=List.take_of_length_le (by rw[List.length_drop];exact Nat.le_refl _)
  rw[e]at this
  rw[List.drop_eq_nil_of_le he,List.append_nil]
  refine⟨?_,this.so⟩
  have p:=this.pm
  rw[List.take_of_length_le he,List.take_of_length_le (by have:=h.ha;omega)]at p
  exact p
theorem MI.last (h:MI R A B out ia ib)(sA:A.Pairwise R)(sB:B.Pairwise R)(hl:∀x∈B,∀y∈A.drop ia,R x y):Mgd R A B (out++B.drop ib++A.drop ia):=by
 have h1:=h.tb sB (k:=B.length-ib) (by have:=h.hb;omega) (fun x hx y hy=>hl x (List.mem_of_mem_drop (List.mem_of_mem_take hx)) y hy)
 have e:(B.drop ib).take (B.length-ib)=B.drop ib:=List.take_of_length_le (by rw[List.length_drop];exact Nat.le_refl _)
 rw[e]at h1
 have h2:=h1.done sA sB (.inr (by have:=h.hb;omega))
 rw[List.drop_eq_nil_of_le (show B.length<=ib+(B.length-ib) by have:=h.hb;omega),List.append_nil]at h2
 exact h2
end
end S64
namespace S64
open PySem PyProof.Rows
def LeK (κ:KeyKind)(x y:Keyed):Prop:=κ.kle (KE κ x) (KE κ y)
structure SG (st st':SortSt):Prop where
 kd:kindOf st'=kindOf st
 arr:arrOf st'=arrOf st
 pe:pendingOf st'=pendingOf st
 fa:failedOf st'=failedOf st
theorem SG.refl (st:SortSt):SG st st:=⟨rfl,rfl,rfl,rfl⟩
theorem SG.set {st st':SortSt}(h:SG st st')(g:Nat):SG st (setGallop st' g):=⟨h.kd,h.arr,h.pe,h.fa⟩
abbrev G5:=Option (Array Keyed)×Array Keyed×Nat×Nat×Nat
abbrev G6:=Option (Array Keyed)×Array Keyed×Nat×Nat×Nat×Nat
abbrev G7:=Option (Array Keyed)×Array Keyed×Nat×Nat×Nat×Nat×Nat
def PC (a b out:Array Keyed)(ia ib mg ac bc:Nat):StateT SortSt Sem (ForInStep G7):=do
 let y <- elem' a ia
 if (ia+1+1==a.size)=true then pure (.done (some (lastA a b (out.push y) (ia+1) ib),out.push y,ia+1,ib,mg,ac,bc))
 else if (decide (ac<7)&&decide (bc<7))=true then pure (.done (none,out.push y,ia+1,ib,mg,ac,bc)) else pure (.yield (none,out.push y,ia+1,ib,mg,ac,bc))
def PB (a b out:Array Keyed)(ia ib mg ac bc:Nat):StateT SortSt Sem (ForInStep G7):=do
 let y <- elem' b ib
 if (ib+1==b.size)=true then pure (.done (some (doneL a b (out.push y) ia (ib+1)),out.push y,ia,ib+1,mg,ac,bc))
 else do
  let z <- elem' a ia
  let x <- gallop' true z b (ib+1) (b.size-(ib+1)) 0
  match x with
  |some k=>if k > 0 then (if (ib+1+k==b.size)=true then pure (.done (some (doneL a b (out.push y++b.extract (ib+1) (ib+1+k)) ia (ib+1+k)),out.push y++b.extract (ib+1) (ib+1+k),ia,ib+1+k,mg,ac,k)) else PC a b (out.push y++b.extract (ib+1) (ib+1+k)) ia (ib+1+k) mg ac k) else PC a b (out.push y) ia (ib+1) mg ac k
  |_=>pure (.done (some (doneL a b (out.push y) ia (ib+1)),out.push y,ia,ib+1,mg,ac,bc))
def PA (a b out:Array Keyed)(ia ib mg ac bc:Nat):StateT SortSt Sem (ForInStep G7):=do
 setMinGallop' mg
 let y <- elem' b ib
 let x <- gallop' false y a ia (a.size-ia) 0
 match x with
 |some k=>if k > 0 then (if (ia+k+1==a.size)=true then pure (.done (some (lastA a b (out++a.extract ia (ia+k)) (ia+k) ib),out++a.extract ia (ia+k),ia+k,ib,mg,k,bc)) else if (ia+k==a.size)=true then pure (.done (some (doneL a b (out++a.extract ia (ia+k)) (ia+k) ib),out++a.extract ia (ia+k),ia+k,ib,mg,k,bc)) else PB a b (out++a.extract ia (ia+k)) (ia+k) ib mg k bc) else PB a b out ia ib mg k bc
 |_=>pure (.done (some (doneL a b out ia ib),out,ia,ib,mg,ac,bc))
def P1 (a b:Array Keyed)(mg:Nat)(c:G6):StateT SortSt Sem (ForInStep G6):=do
 let y <- elem' b c.2.2.2.1
 let z <- elem' a c.2.2.1
 let x <- lt' y z
 match x with
 |some bWins=>
  if bWins=true then
   elem' b c.2.2.2.1 >>= fun y=>
   if (c.2.2.2.1+1==b.size)=true then pure (.done (some (doneL a b (c.2.1.push y) c.2.2.1 (c.2.2.2.1+1)),c.2.1.push y,c.2.2.1,c.2.2.2.1+1,0,c.2.2.2.2.2+1))
   else if c.2.2.2.2.2+1 >= mg then pure (.done (none,c.2.1.push y,c.2.2.1,c.2.2.2.1+1,0,c.2.2.2.2.2+1)) else pure (.yield (none,c.2.1.push y,c.2.2.1,c.2.2.2.1+1,0,c.2.2.2.2.2+1))
  else
   elem' a c.2.2.1 >>= fun y=>
   if (c.2.2.1+1+1==a.size)=true then pure (.done (some (lastA a b (c.2.1.push y) (c.2.2.1+1) c.2.2.2.1),c.2.1.push y,c.2.2.1+1,c.2.2.2.1,c.2.2.2.2.1+1,0))
   else if c.2.2.2.2.1+1 >= mg then pure (.done (none,c.2.1.push y,c.2.2.1+1,c.2.2.2.1,c.2.2.2.2.1+1,0)) else pure (.yield (none,c.2.1.push y,c.2.2.1+1,c.2.2.2.1,c.2.2.2.2.1+1,0))
 |_=>pure (.done (some (doneL a b c.2.1 c.2.2.1 c.2.2.2.1),c.2.1,c.2.2.1,c.2.2.2.1,c.2.2.2.2.1,c.2.2.2.2.2))
def P2 (a b:Array Keyed)(c:G7):StateT SortSt Sem (ForInStep G7):=if c.2.2.2.2.1 > 1 then PA a b c.2.1 c.2.2.1 c.2.2.2.1 (c.2.2.2.2.1-1) c.2.2.2.2.2.1 c.2.2.2.2.2.2 else PA a b c.2.1 c.2.2.1 c.2.2.2.1 c.2.2.2.2.1 c.2.2.2.2.2.1 c.2.2.2.2.2.2
def PO (a b:Array Keyed)(c:G5):StateT SortSt Sem (ForInStep G5):=do
 let d <- forIn [0:a.size+b.size] ((none,c.2.1,c.2.2.1,c.2.2.2.1,0,0):G6) fun _ d=>P1 a b c.2.2.2.2 d
 match d.1 with
 |some r=>pure (.done (some r,d.2.1,d.2.2.1,d.2.2.2.1,c.2.2.2.2))
 |none=>do
  liftM (rule "list.sort.gallop")
  let e <- forIn [0:a.size+b.size] ((none,d.2.1,d.2.2.1,d.2.2.2.1,c.2.2.2.2+1,d.2.2.2.2.1,d.2.2.2.2.2):G7) fun _ e=>P2 a b e
  match e.1 with
  |some r=>pure (.done (some r,e.2.1,e.2.2.1,e.2.2.2.1,e.2.2.2.2.1))
  |none=>do
   setMinGallop' (e.2.2.2.2.1+1)
   pure (.yield (none,e.2.1,e.2.2.1,e.2.2.2.1,e.2.2.2.2.1+1))
theorem mergeLo'_eq2 (a b:Array Keyed):mergeLo' a b=(do
 liftM (rule "list.sort.merge-lo")
 let y <- elem' b 0
 if (1==b.size)=true then pure (doneL a b #[y] 0 1)
 else if (0+1==a.size)=true then pure (lastA a b #[y] 0 1)
 else do
  let g <- get
  let c <- forIn [0:a.size+b.size] ((none,#[y],0,1,gallopOf g):G5) fun _ c=>PO a b c
  match c.1 with
  |some r=>pure r
  |none=>unsupported "internal:list.sort.merge-bound"):=by
 rw[mergeLo'_eq]
 refine congrArg (bind _) (funext fun _=>congrArg (bind _) (funext fun y=>?_))
 refine congrArg (ite _ _) (congrArg (ite _ _) (congrArg (bind _) (funext fun g=>?_)))
 refine congr (congrArg bind (congrArg (forIn _ _) (funext fun _=>funext fun c=>?_))) (funext fun c=>?_)
 ·unfold PO
  dsimp only
  refine congr (congrArg bind (congrArg (forIn _ _) (funext fun _=>funext fun d=>?_))) (funext fun d=>?_)
  ·unfold P1
   rfl
  ·cases d.1 with
   |some r=>rfl
   |none=>
    dsimp only
    refine congrArg (bind _) (funext fun _=>congr (congrArg bind (congrArg (forIn _ _) (funext fun _=>funext fun e=>?_))) (funext fun e=>?_))
    ·unfold P2 PA PB PC
     rfl
    ·cases e.1 with
     |some r=>rfl
     |none=>rfl
 ·cases c.1 with
  |some r=>rfl
  |none=>rfl
end S64
namespace S64
open PySem PyProof.Rows
section
variable {prog:Program} {w:World} {A:Around} {E:Value->Shared->Prop} {s:Shared} {a₀:Array Keyed} {κ:KeyKind} {kd:SortKind}
theorem wp_elem {arr:Array Keyed}{i:Nat}{st:SortSt}{Q:Keyed->SortSt->Prop}(hi:i<arr.size)(h:Q arr[i] st):wpS (model prog w) A E s (elem' arr i) Q st:=by
 rw[elem'_eq,getElem?_pos arr i hi]
 exact wpS_pure h
theorem wp_rule {n:String}{st:SortSt}{Q:Unit->SortSt->Prop}(h:Q () st):wpS (model prog w) A E s (rule n:StateT SortSt Sem Unit) Q st:=wpS_lift (wpAny_rule ⟨rfl,h⟩)
theorem ext_list (a:Array Keyed)(i j:Nat):(a.extract i j).toList=(a.toList.drop i).take (j-i):=by simp[List.extract_eq_take_drop]
theorem ext_all (a:Array Keyed)(i:Nat):(a.extract i a.size).toList=a.toList.drop i:=by
 rw[ext_list];exact List.take_of_length_le (by simp)
theorem doneL_list (a b out:Array Keyed)(ia ib:Nat):(doneL a b out ia ib).toList=out.toList++a.toList.drop ia++b.toList.drop ib:=by
 unfold doneL;rw[Array.toList_append,Array.toList_append,ext_all,ext_all]
theorem lastA_list (a b out:Array Keyed)(ia ib:Nat):(lastA a b out ia ib).toList=out.toList++b.toList.drop ib++a.toList.drop ia:=by
 unfold lastA;rw[Array.toList_append,Array.toList_append,ext_all,ext_all]
theorem LeK.refl (x:Keyed):LeK κ x x:=KeyOrd.kle_refl _
theorem LeK.trans {x y z:Keyed}(h:LeK κ x y)(g:LeK κ y z):LeK κ x z:=KeyOrd.kle_trans h g
theorem srt_at {a:Array Keyed}(sA:a.toList.Pairwise (LeK κ)){i j:Nat}(hij:i<=j)(hj:j<a.size):LeK κ a[i] a[j]:=by
 by_cases e:i=j
 ·subst e;exact LeK.refl _
 ·exact List.pairwise_iff_getElem.mp sA i j (by simpa using (by omega)) (by simpa using hj) (by omega)
theorem mem_drop_arr {a:Array Keyed}{i:Nat}{y:Keyed}(h:y∈a.toList.drop i):∃j,∃hj:j<a.size,i<=j/\y=a[j]:=by
 obtain⟨k,hk,e⟩:=List.mem_iff_getElem.mp h
 rw[List.getElem_drop]at e
 rw[List.length_drop]at hk
 exact⟨i+k,by simpa using (by simp at hk;omega),by omega,by rw[<-e];simp⟩
theorem mem_dt_arr {a:Array Keyed}{i k:Nat}{y:Keyed}(h:y∈(a.toList.drop i).take k):∃j,∃hj:i+j<a.size,j<k/\y=a[i+j]:=by
 obtain⟨j,hj,e⟩:=List.mem_iff_getElem.mp h
 rw[List.getElem_take,List.getElem_drop]at e
 rw[List.length_take,List.length_drop]at hj
 exact⟨j,by simp at hj;omega,by omega,by rw[<-e];simp⟩
theorem srt_drop {a:Array Keyed}(sA:a.toList.Pairwise (LeK κ)){i:Nat}(hi:i<a.size):∀y∈a.toList.drop i,LeK κ a[i] y:=fun y hy=>by
 obtain⟨j,hj,hij,rfl⟩:=mem_drop_arr hy
 exact srt_at sA hij hj
theorem take1 {a:Array Keyed}{i:Nat}(hi:i<a.size):(a.toList.drop i).take 1=[a[i]]:=by
 rw[List.drop_eq_getElem_cons (by simpa using hi)];simp
section
variable {a b out:Array Keyed} {ia ib:Nat}
theorem MI.pushA (h:MI (LeK κ) a.toList b.toList out.toList ia ib)(sA:a.toList.Pairwise (LeK κ))(hi:ia<a.size)(hx:∀y∈b.toList.drop ib,LeK κ a[ia] y):MI (LeK κ) a.toList b.toList (out.push a[ia]).toList (ia+1) ib:=by
 have:=h.ta sA (k:=1) (by simp;omega) (by rw[take1 hi];intro x hx' y hy;rw[List.mem_singleton.mp hx'];exact hx y hy)
 rw[take1 hi]at this
 rw[Array.toList_push];exact this
theorem MI.pushB (h:MI (LeK κ) a.toList b.toList out.toList ia ib)(sB:b.toList.Pairwise (LeK κ))(hi:ib<b.size)(hx:∀y∈a.toList.drop ia,LeK κ b[ib] y):MI (LeK κ) a.toList b.toList (out.push b[ib]).toList ia (ib+1):=(h.swap.pushA sB hi hx).swap
theorem MI.extA (h:MI (LeK κ) a.toList b.toList out.toList ia ib)(sA:a.toList.Pairwise (LeK κ)){k:Nat}(hk:ia+k<=a.size)(hx:∀j,j<k->∀(hj:ia+j<a.size),∀y∈b.toList.drop ib,LeK κ a[ia+j] y):MI (LeK κ) a.toList b.toList (out++a.extract ia (ia+k)).toList (ia+k) ib:=by
 have:=h.ta sA (k:=k) (by simpa using hk) (fun x hx' y hy=>by
  obtain⟨j,hj,hjk,rfl⟩:=mem_dt_arr hx'
  exact hx j hjk hj y hy)
 rw[Array.toList_append,ext_list,show ia+k-ia=k by omega];exact this
theorem MI.extB (h:MI (LeK κ) a.toList b.toList out.toList ia ib)(sB:b.toList.Pairwise (LeK κ)){k:Nat}(hk:ib+k<=b.size)(hx:∀j,j<k->∀(hj:ib+j<b.size),∀y∈a.toList.drop ia,LeK κ b[ib+j] y):MI (LeK κ) a.toList b.toList (out++b.extract ib (ib+k)).toList ia (ib+k):=(h.swap.extA sB hk hx).swap
end
theorem KK_at {xs:Array Keyed}{i:Nat}(hi:i<xs.size):KK κ xs i=KE κ xs[i]:=KK_of (getElem?_pos xs i hi)
theorem inA_of {a:Array Keyed}(hA:∀x∈a.toList,x∈a₀.toList){i n:Nat}(h:i+n<=a.size):InA a₀ a i n:=fun j hj=>⟨a[i+j],getElem?_pos _ _ (by omega),hA _ (by simp)⟩
theorem wp_gallR {key:Keyed}{a:Array Keyed}{base n hint:Nat}{st:SortSt}{Q:Option Nat->SortSt->Prop}(hO:LtOk kd κ a₀ prog w A E s)(hk:kindOf st=kd)(hkey:key∈a₀.toList)(hA:∀x∈a.toList,x∈a₀.toList)(sA:∀i j (hi:i<a.size) (hj:j<a.size),base<=i->i<=j->j<base+n->LeK κ a[i] a[j])(hn:base+n<=a.size)(hh:hint<n)
  (h:∀k,k<=n->(∀i (hi:base+i<a.size),i<k->LeK κ a[base+i] key)->(∀i (hi:base+i<a.size),k<=i->i<n->κ.klt (KE κ key) (KE κ a[base+i]))->Q (some k) st):
  wpS (model prog w) A E s (gallop' false key a base n hint) Q st:=by
 refine wp_gallop hO hk hkey (inA_of hA hn) hh (fun i j hij hj hb=>?_) (fun k hkn h1 h2=>h k hkn (fun i hi hik=>?_) (fun i hi hik hin=>?_))
 ·simp only[gB,Bool.false_eq_true,if_false,KK_at (show base+i<a.size by omega),KK_at (show base+j<a.size by omega),Bool.not_eq_true']at hb ⊢
  exact KeyOrd.kle_trans (sA _ _ (by omega) (by omega) (by omega) (by omega) (by omega)) hb
 ·have:=h1 i hik
  simp only[gB,Bool.false_eq_true,if_false,KK_at hi,Bool.not_eq_true']at this
  exact this
 ·have:=h2 i hik hin
  simp only[gB,Bool.false_eq_true,if_false,KK_at hi,Bool.not_eq_false']at this
  exact this
theorem wp_gallL {key:Keyed}{a:Array Keyed}{base n hint:Nat}{st:SortSt}{Q:Option Nat->SortSt->Prop}(hO:LtOk kd κ a₀ prog w A E s)(hk:kindOf st=kd)(hkey:key∈a₀.toList)(hA:∀x∈a.toList,x∈a₀.toList)(sA:∀i j (hi:i<a.size) (hj:j<a.size),base<=i->i<=j->j<base+n->LeK κ a[i] a[j])(hn:base+n<=a.size)(hh:hint<n)
  (h:∀k,k<=n->(∀i (hi:base+i<a.size),i<k->κ.klt (KE κ a[base+i]) (KE κ key))->(∀i (hi:base+i<a.size),k<=i->i<n->LeK κ key a[base+i])->Q (some k) st):
  wpS (model prog w) A E s (gallop' true key a base n hint) Q st:=by
 refine wp_gallop hO hk hkey (inA_of hA hn) hh (fun i j hij hj hb=>?_) (fun k hkn h1 h2=>h k hkn (fun i hi hik=>?_) (fun i hi hik hin=>?_))
 ·simp only[gB,if_true,KK_at (show base+i<a.size by omega),KK_at (show base+j<a.size by omega)]at hb ⊢
  exact KeyOrd.klt_of_kle_of_klt (sA _ _ (by omega) (by omega) (by omega) (by omega) (by omega)) hb
 ·have:=h1 i hik
  simp only[gB,if_true,KK_at hi]at this
  exact this
 ·have:=h2 i hik hin
  simp only[gB,if_true,KK_at hi]at this
  exact this
theorem srt_all {a:Array Keyed}(sA:a.toList.Pairwise (LeK κ))(base n:Nat):∀i j (hi:i<a.size) (hj:j<a.size),base<=i->i<=j->j<base+n->LeK κ a[i] a[j]:=fun _ _ _ hj _ hij _=>srt_at sA hij hj
structure MP (a₀:Array Keyed)(κ:KeyKind)(a b:Array Keyed):Prop where
 hA:∀x∈a.toList,x∈a₀.toList
 hB:∀x∈b.toList,x∈a₀.toList
 sA:a.toList.Pairwise (LeK κ)
 sB:b.toList.Pairwise (LeK κ)
 ha:1<=a.size
 hb:1<=b.size
 hf:∀y∈a.toList,LeK κ b[0] y
 hl:∀x∈b.toList,LeK κ x a[a.size-1]
section
variable {a b:Array Keyed}
theorem MP.done (M:MP a₀ κ a b){out:Array Keyed}{ia ib:Nat}(h:MI (LeK κ) a.toList b.toList out.toList ia ib)(he:a.size<=ia\/b.size<=ib):Mgd (LeK κ) a.toList b.toList (doneL a b out ia ib).toList:=by
 rw[doneL_list];exact h.done M.sA M.sB (by simpa using he)
theorem MP.last (M:MP a₀ κ a b){out:Array Keyed}{ia ib:Nat}(h:MI (LeK κ) a.toList b.toList out.toList ia ib)(he:ia+1=a.size):Mgd (LeK κ) a.toList b.toList (lastA a b out ia ib).toList:=by
 rw[lastA_list]
 refine h.last M.sA M.sB (fun x hx y hy=>?_)
 obtain⟨j,hj,hij,rfl⟩:=mem_drop_arr hy
 have e:j=a.size-1:=by omega
 subst e
 exact M.hl x hx
def MJ (κ:KeyKind)(a b:Array Keyed)(out:Array Keyed)(ia ib p:Nat):Prop:=MI (LeK κ) a.toList b.toList out.toList ia ib/\ia+1<a.size/\ib<b.size/\p<=ia+ib
theorem wp_P1 (hO:LtOk kd κ a₀ prog w A E s)(M:MP a₀ κ a b){st:SortSt}(hk:kindOf st=kd){mg p:Nat}{c:G6}(h1:c.1=none)(hJ:MJ κ a b c.2.1 c.2.2.1 c.2.2.2.1 p){Q:ForInStep G6->SortSt->Prop}
  (h:∀d:G6,d.1=none->MJ κ a b d.2.1 d.2.2.1 d.2.2.2.1 (p+1)->Q (.yield d) st/\Q (.done d) st) (hd:∀(d:G6) x,d.1=some x->Mgd (LeK κ) a.toList b.toList x.toList->Q (.done d) st):
  wpS (model prog w) A E s (P1 a b mg c) Q st:=by
 obtain⟨c0,out,ia,ib,ac,bc⟩:=c
 obtain⟨hM,h2,h3,h4⟩:=hJ
 dsimp only at *
 unfold P1
 dsimp only
 refine wpS_bind (wp_elem h3 (wpS_bind (wp_elem (show ia<a.size by omega) (wpS_bind (hO _ _ _ _ (M.hB _ (by simp)) (M.hA _ (by simp)) hk ?_)))))
 cases e:κ.blt (KE κ b[ib]) (KE κ a[ia]) with
 |true=>
  dsimp only
  rw[if_pos rfl]
  have hM':=hM.pushB M.sB h3 (fun y hy=>LeK.trans (KeyOrd.kle_of_klt e) (srt_drop M.sA (by omega) y hy))
  refine wpS_bind (wp_elem h3 ?_)
  by_cases hq:ib+1=b.size
  ·rw[if_pos (by simpa using hq)]
   exact wpS_pure (hd _ _ rfl (M.done hM' (.inr (by omega))))
  ·rw[if_neg (by simpa using hq)]
   have hh:=h (none,out.push b[ib],ia,ib+1,0,bc+1) rfl (show MJ κ a b (out.push b[ib]) ia (ib+1) (p+1) from ⟨hM',h2,by omega,by omega⟩)
   split
   ·exact wpS_pure hh.2
   ·exact wpS_pure hh.1
 |false=>
  dsimp only
  rw[if_neg (by simp)]
  have hM':=hM.pushA M.sA (show ia<a.size by omega) (fun y hy=>LeK.trans e (srt_drop M.sB h3 y hy))
  refine wpS_bind (wp_elem (show ia<a.size by omega) ?_)
  by_cases hq:ia+1+1=a.size
  ·rw[if_pos (by simpa using hq)]
   exact wpS_pure (hd _ _ rfl (M.last hM' hq))
  ·rw[if_neg (by simpa using hq)]
   have hh:=h (none,out.push a[ia],ia+1,ib,ac+1,0) rfl (show MJ κ a b (out.push a[ia]) (ia+1) ib (p+1) from ⟨hM',by omega,h3,by omega⟩)
   split
   ·exact wpS_pure hh.2
   ·exact wpS_pure hh.1
theorem wp_PC (M:MP a₀ κ a b){st:SortSt}{out:Array Keyed}{ia ib mg ac bc p:Nat}(hM:MI (LeK κ) a.toList b.toList out.toList ia ib)(h2:ia+1<a.size)(h3:ib<b.size)(h4:p<=ia+ib)(hle:∀y∈b.toList.drop ib,LeK κ a[ia] y){Q:ForInStep G7->SortSt->Prop}
  (h:∀d:G7,d.1=none->MJ κ a b d.2.1 d.2.2.1 d.2.2.2.1 p->Q (.yield d) st/\Q (.done d) st) (hd:∀(d:G7) x,d.1=some x->Mgd (LeK κ) a.toList b.toList x.toList->Q (.done d) st):
  wpS (model prog w) A E s (PC a b out ia ib mg ac bc) Q st:=by
 unfold PC
 refine wpS_bind (wp_elem (show ia<a.size by omega) ?_)
 have hM':=hM.pushA M.sA (show ia<a.size by omega) hle
 by_cases hq:ia+1+1=a.size
 ·rw[if_pos (by simpa using hq)]
  exact wpS_pure (hd _ _ rfl (M.last hM' hq))
 ·rw[if_neg (by simpa using hq)]
  have hh:=h (none,out.push a[ia],ia+1,ib,mg,ac,bc) rfl (show MJ κ a b (out.push a[ia]) (ia+1) ib p from ⟨hM',by omega,h3,by omega⟩)
  split
  ·exact wpS_pure hh.2
  ·exact wpS_pure hh.1
theorem wp_PB (hO:LtOk kd κ a₀ prog w A E s)(M:MP a₀ κ a b){st:SortSt}(hk:kindOf st=kd){out:Array Keyed}{ia ib mg ac bc p:Nat}(hM:MI (LeK κ) a.toList b.toList out.toList ia ib)(h2:ia+1<a.size)(h3:ib<b.size)(h4:p<=ia+ib)(hle:∀y∈a.toList.drop ia,LeK κ b[ib] y){Q:ForInStep G7->SortSt->Prop}
  (h:∀d:G7,d.1=none->MJ κ a b d.2.1 d.2.2.1 d.2.2.2.1 p->Q (.yield d) st/\Q (.done d) st) (hd:∀(d:G7) x,d.1=some x->Mgd (LeK κ) a.toList b.toList x.toList->Q (.done d) st):
  wpS (model prog w) A E s (PB a b out ia ib mg ac bc) Q st:=by
 unfold PB
 refine wpS_bind (wp_elem h3 ?_)
 have hM':=hM.pushB M.sB h3 hle
 by_cases hq:ib+1=b.size
 ·rw[if_pos (by simpa using hq)]
  exact wpS_pure (hd _ _ rfl (M.done hM' (.inr (by omega))))
 ·rw[if_neg (by simpa using hq)]
  refine wpS_bind (wp_elem (show ia<a.size by omega) (wpS_bind (wp_gallL hO hk (M.hA _ (by simp)) M.hB (srt_all M.sB _ _) (by omega) (by omega) (fun k hkn g1 g2=>?_))))
  dsimp only
  have hle2:∀y∈b.toList.drop (ib+1+k),LeK κ a[ia] y:=fun y hy=>by
   obtain⟨j,hj,hij,rfl⟩:=mem_drop_arr hy
   have:=g2 (j-(ib+1)) (by omega) (by omega) (by omega)
   have e:ib+1+(j-(ib+1))=j:=by omega
   simp only[e]at this
   exact this
  by_cases hk0:k > 0
  ·rw[if_pos hk0]
   have hM2:=hM'.extB M.sB (k:=k) (by omega) (fun j hj hj' y hy=>LeK.trans (KeyOrd.kle_of_klt (g1 j hj' hj)) (srt_drop M.sA (by omega) y hy))
   by_cases hq2:ib+1+k=b.size
   ·rw[if_pos (by simpa using hq2)]
    exact wpS_pure (hd _ _ rfl (M.done hM2 (.inr (by omega))))
   ·rw[if_neg (by simpa using hq2)]
    exact wp_PC M hM2 h2 (by omega) (by omega) hle2 h hd
  ·rw[if_neg hk0]
   have e:k=0:=by omega
   subst e
   exact wp_PC M hM' h2 (by omega) (by omega) hle2 h hd
theorem SG.trans {st st' st'':SortSt}(h:SG st st')(g:SG st' st''):SG st st'':=⟨g.kd.trans h.kd,g.arr.trans h.arr,g.pe.trans h.pe,g.fa.trans h.fa⟩
theorem wp_setG {g:Nat}{st:SortSt}{Q:Unit->SortSt->Prop}(h:Q () (setGallop st g)):wpS (model prog w) A E s (setMinGallop' g) Q st:=by
 rw[setMinGallop'_eq];exact wpS_modify h
theorem wp_PA (hO:LtOk kd κ a₀ prog w A E s)(M:MP a₀ κ a b){st:SortSt}(hk:kindOf st=kd){out:Array Keyed}{ia ib mg ac bc p:Nat}(hJ:MJ κ a b out ia ib p){Q:ForInStep G7->SortSt->Prop}
  (h:∀(d:G7) st',SG st st'->d.1=none->MJ κ a b d.2.1 d.2.2.1 d.2.2.2.1 p->Q (.yield d) st'/\Q (.done d) st') (hd:∀(d:G7) x st',SG st st'->d.1=some x->Mgd (LeK κ) a.toList b.toList x.toList->Q (.done d) st'):
  wpS (model prog w) A E s (PA a b out ia ib mg ac bc) Q st:=by
 obtain⟨hM,h2,h3,h4⟩:=hJ
 unfold PA
 refine wpS_bind (wp_setG ?_)
 have hG:SG st (setGallop st mg):=(SG.refl st).set mg
 refine wpS_bind (wp_elem h3 (wpS_bind (wp_gallR hO (hG.kd.trans hk) (M.hB _ (by simp)) M.hA (srt_all M.sA _ _) (by omega) (by omega) (fun k hkn g1 g2=>?_))))
 dsimp only
 have hle:∀y∈a.toList.drop (ia+k),LeK κ b[ib] y:=fun y hy=>by
  obtain⟨j,hj,hij,rfl⟩:=mem_drop_arr hy
  have:=g2 (j-ia) (by omega) (by omega) (by omega)
  have e:ia+(j-ia)=j:=by omega
  simp only[e]at this
  exact KeyOrd.kle_of_klt this
 by_cases hk0:k > 0
 ·rw[if_pos hk0]
  have hM2:=hM.extA M.sA (k:=k) (by omega) (fun j hj hj' y hy=>LeK.trans (g1 j hj' hj) (srt_drop M.sB h3 y hy))
  by_cases hq:ia+k+1=a.size
  ·rw[if_pos (by simpa using hq)]
   exact wpS_pure (hd _ _ _ hG rfl (M.last hM2 hq))
  ·rw[if_neg (by simpa using hq)]
   by_cases hq2:ia+k=a.size
   ·rw[if_pos (by simpa using hq2)]
    exact wpS_pure (hd _ _ _ hG rfl (M.done hM2 (.inl (by omega))))
   ·rw[if_neg (by simpa using hq2)]
    exact wp_PB hO M (hG.kd.trans hk) hM2 (by omega) h3 (by omega) hle (fun d=>h d _ hG) (fun d x=>hd d x _ hG)
 ·rw[if_neg hk0]
  have e:k=0:=by omega
  subst e
  exact wp_PB hO M (hG.kd.trans hk) hM h2 h3 h4 hle (fun d=>h d _ hG) (fun d x=>hd d x _ hG)
theorem wp_P2 (hO:LtOk kd κ a₀ prog w A E s)(M:MP a₀ κ a b){st:SortSt}(hk:kindOf st=kd){c:G7}{p:Nat}(hJ:MJ κ a b c.2.1 c.2.2.1 c.2.2.2.1 p){Q:ForInStep G7->SortSt->Prop}
  (h:∀(d:G7) st',SG st st'->d.1=none->MJ κ a b d.2.1 d.2.2.1 d.2.2.2.1 p->Q (.yield d) st'/\Q (.done d) st') (hd:∀(d:G7) x st',SG st st'->d.1=some x->Mgd (LeK κ) a.toList b.toList x.toList->Q (.done d) st'):
  wpS (model prog w) A E s (P2 a b c) Q st:=by
 unfold P2
 split
 ·exact wp_PA hO M hk hJ h hd
 ·exact wp_PA hO M hk hJ h hd
theorem wp_PO (hO:LtOk kd κ a₀ prog w A E s)(M:MP a₀ κ a b){st:SortSt}(hk:kindOf st=kd){c:G5}{p:Nat}(hJ:MJ κ a b c.2.1 c.2.2.1 c.2.2.2.1 p){Q:ForInStep G5->SortSt->Prop}
  (h:∀(d:G5) st',SG st st'->d.1=none->MJ κ a b d.2.1 d.2.2.1 d.2.2.2.1 (p+1)->Q (.yield d) st') (hd:∀(d:G5) x st',SG st st'->d.1=some x->Mgd (LeK κ) a.toList b.toList x.toList->Q (.done d) st'):
  wpS (model prog w) A E s (PO a b c) Q st:=by
 have hab:1<=a.size+b.size:=by have:=M.ha;omega
 unfold PO
 refine wpS_bind (wpS_mono (wpS_forRange (I:=fun x d st'=>st'=st/\d.1=none/\MJ κ a b d.2.1 d.2.2.1 d.2.2.2.1 (p+x))
   (Q:=fun d st'=>st'=st/\((d.1=none/\MJ κ a b d.2.1 d.2.2.1 d.2.2.2.1 (p+1)) \/ ∃x,d.1=some x/\Mgd (LeK κ) a.toList b.toList x.toList)) ?step ?fin ⟨rfl,rfl,hJ⟩) ?post)
 case step=>
  rintro x d st' _ hx ⟨rfl,h1,h2⟩
  refine wp_P1 hO M hk h1 h2 (fun d' g1 g2=>⟨⟨rfl,g1,g2⟩,rfl,.inl ⟨g1,g2.1,g2.2.1,g2.2.2.1,?_⟩⟩) (fun d' x g1 g2=>⟨rfl,.inr ⟨x,g1,g2⟩⟩)
  have:=g2.2.2.2;omega
 case fin=>
  rintro d st' ⟨rfl,h1,h2⟩
  refine⟨rfl,.inl ⟨h1,h2.1,h2.2.1,h2.2.2.1,?_⟩⟩
  have:=h2.2.2.2;omega
 case post=>
  rintro d st' ⟨rfl,hh⟩
  rcases hh with ⟨h1,h2⟩|⟨x,h1,h2⟩
  ·rw[h1]
   dsimp only
   refine wpS_bind (wp_rule ?_)
   refine wpS_bind (wpS_mono (wpS_forRange (I:=fun x d st''=>SG st' st''/\d.1=none/\MJ κ a b d.2.1 d.2.2.1 d.2.2.2.1 (p+1))
    (Q:=fun d st''=>SG st' st''/\((d.1=none/\MJ κ a b d.2.1 d.2.2.1 d.2.2.2.1 (p+1)) \/ ∃x,d.1=some x/\Mgd (LeK κ) a.toList b.toList x.toList)) ?step2 ?fin2 ⟨SG.refl _,rfl,h2⟩) ?post2)
   case step2=>
    rintro x e st'' _ hx ⟨g0,g1,g2⟩
    exact wp_P2 hO M (g0.kd.trans hk) g2 (fun d' st3 k0 k1 k2=>⟨⟨g0.trans k0,k1,k2⟩,g0.trans k0,.inl ⟨k1,k2⟩⟩) (fun d' x st3 k0 k1 k2=>⟨g0.trans k0,.inr ⟨x,k1,k2⟩⟩)
   case fin2=>
    rintro e st'' ⟨g0,g1,g2⟩
    exact⟨g0,.inl ⟨g1,g2⟩⟩
   case post2=>
    rintro e st'' ⟨g0,hh⟩
    rcases hh with ⟨g1,g2⟩|⟨x,g1,g2⟩
    ·rw[g1]
     dsimp only
     refine wpS_bind (wp_setG (wpS_pure ?_))
     exact h (none,e.2.1,e.2.2.1,e.2.2.2.1,e.2.2.2.2.1+1) _ (g0.set _) rfl g2
    ·rw[g1]
     dsimp only
     exact wpS_pure (hd _ x _ g0 rfl g2)
  ·rw[h1]
   dsimp only
   exact wpS_pure (hd _ x _ (SG.refl _) rfl h2)
theorem wp_mergeLo {st:SortSt}{Q:Array Keyed->SortSt->Prop}(hO:LtOk kd κ a₀ prog w A E s)(M:MP a₀ κ a b)(hk:kindOf st=kd)
  (h:∀r st',SG st st'->Mgd (LeK κ) a.toList b.toList r.toList->Q r st'):wpS (model prog w) A E s (mergeLo' a b) Q st:=by
 have ha:=M.ha
 have hb:=M.hb
 rw[mergeLo'_eq2]
 refine wpS_bind (wp_rule (wpS_bind (wp_elem hb ?_)))
 have hM:MI (LeK κ) a.toList b.toList (#[b[0]]:Array Keyed).toList 0 1:=MI.pushB (out := #[]) (MI.start _ _) M.sB hb (by simpa using M.hf)
 by_cases h1:1=b.size
 ·rw[if_pos (by simpa using h1)]
  exact wpS_pure (h _ _ (SG.refl _) (M.done hM (.inr (by omega))))
 ·rw[if_neg (by simpa using h1)]
  by_cases h2:0+1=a.size
  ·rw[if_pos (by simpa using h2)]
   exact wpS_pure (h _ _ (SG.refl _) (M.last hM h2))
  ·rw[if_neg (by simpa using h2)]
   refine wpS_bind (wpS_get ?_)
   refine wpS_bind (wpS_mono (wpS_forRange (I:=fun x c st'=>SG st st'/\c.1=none/\MJ κ a b c.2.1 c.2.2.1 c.2.2.2.1 (1+x))
    (Q:=fun c st'=>SG st st'/\∃x,c.1=some x/\Mgd (LeK κ) a.toList b.toList x.toList) ?step ?fin ⟨SG.refl _,rfl,show MJ κ a b #[b[0]] 0 1 (1+0) from ⟨hM,by omega,by omega,by omega⟩⟩) ?post)
   case step=>
    rintro x c st' _ hx ⟨g0,g1,g2⟩
    exact wp_PO hO M (g0.kd.trans hk) g2 (fun d st2 k0 k1 k2=>⟨g0.trans k0,k1,k2⟩) (fun d x st2 k0 k1 k2=>⟨g0.trans k0,x,k1,k2⟩)
   case fin=>
    rintro c st' ⟨g0,g1,g2⟩
    have:=g2.2.1;have:=g2.2.2.1;have:=g2.2.2.2
    omega
   case post=>
    rintro c st' ⟨g0,x,g1,g2⟩
    rw[g1]
    dsimp only
    exact wpS_pure (h x st' g0 g2)
end
end
end S64
namespace S64
open PySem PyProof.Rows
def mergeHi':Array Keyed->Array Keyed->StateT SortSt Sem (Array Keyed):=sortPriv% PySem.Builtin.mergeHi
def doneH (a b out:Array Keyed)(na nb:Nat):Array Keyed:=a.extract 0 na++b.extract 0 nb++out.reverse
def firstB (a b out:Array Keyed)(na nb:Nat):Array Keyed:=b.extract 0 nb++a.extract 0 na++out.reverse
theorem mergeHi'_eq (a b:Array Keyed):mergeHi' a b=(do
 rule "list.sort.merge-hi"
 let mut na:=a.size-1
 let mut nb:=b.size
 let mut out:Array Keyed := #[<-elem' a na]
 if na==0 then return doneH a b out na nb
 if nb==1 then return firstB a b out na nb
 let mut minGallop:=gallopOf ( <- get)
 for _ in [0:a.size+b.size] do
  let mut acount:=0
  let mut bcount:=0
  for _ in [0:a.size+b.size] do
   let some aWins <- lt' ( <- elem' b (nb-1)) ( <- elem' a (na-1))|return doneH a b out na nb
   if aWins then
    na:=na-1;out:=out.push ( <- elem' a na);acount:=acount+1;bcount:=0
    if na==0 then return doneH a b out na nb
    if acount >= minGallop then break
   else
    nb:=nb-1;out:=out.push ( <- elem' b nb);bcount:=bcount+1;acount:=0
    if nb==1 then return firstB a b out na nb
    if bcount >= minGallop then break
  rule "list.sort.gallop"
  minGallop:=minGallop+1
  for _ in [0:a.size+b.size] do
   if minGallop > 1 then minGallop:=minGallop-1
   setMinGallop' minGallop
   let some at_ <- gallop' false ( <- elem' b (nb-1)) a 0 na (na-1)|return doneH a b out na nb
   let k:=na-at_
   acount:=k
   if k > 0 then
    out:=out++(a.extract at_ na).reverse;na:=at_
    if na==0 then return doneH a b out na nb
   nb:=nb-1;out:=out.push ( <- elem' b nb)
   if nb==1 then return firstB a b out na nb
   let some at_ <- gallop' true ( <- elem' a (na-1)) b 0 nb (nb-1)|return doneH a b out na nb
   let k:=nb-at_
   bcount:=k
   if k > 0 then
    out:=out++(b.extract at_ nb).reverse;nb:=at_
    if nb==1 then return firstB a b out na nb
    if nb==0 then return doneH a b out na nb
   na:=na-1;out:=out.push ( <- elem' a na)
   if na==0 then return doneH a b out na nb
   if acount<7&&bcount<7 then break
  minGallop:=minGallop+1
  setMinGallop' minGallop
 unsupported "internal:list.sort.merge-bound"):=rfl
abbrev H5:=Option (Array Keyed)×Nat×Nat×Array Keyed×Nat
abbrev H6:=Option (Array Keyed)×Nat×Nat×Array Keyed×Nat×Nat
abbrev H7:=Option (Array Keyed)×Nat×Nat×Array Keyed×Nat×Nat×Nat
def HC (a b out:Array Keyed)(na nb mg ac bc:Nat):StateT SortSt Sem (ForInStep H7):=do
 let y <- elem' a (na-1)
 if (na-1==0)=true then pure (.done (some (doneH a b (out.push y) (na-1) nb),na-1,nb,out.push y,mg,ac,bc))
 else if (decide (ac<7)&&decide (bc<7))=true then pure (.done (none,na-1,nb,out.push y,mg,ac,bc)) else pure (.yield (none,na-1,nb,out.push y,mg,ac,bc))
def HB (a b out:Array Keyed)(na nb mg ac bc:Nat):StateT SortSt Sem (ForInStep H7):=do
 let y <- elem' b (nb-1)
 if (nb-1==1)=true then pure (.done (some (firstB a b (out.push y) na (nb-1)),na,nb-1,out.push y,mg,ac,bc))
 else do
  let z <- elem' a (na-1)
  let x <- gallop' true z b 0 (nb-1) (nb-1-1)
  match x with
  |some t=>if nb-1-t > 0 then (if (t==1)=true then pure (.done (some (firstB a b (out.push y++(b.extract t (nb-1)).reverse) na t),na,t,out.push y++(b.extract t (nb-1)).reverse,mg,ac,nb-1-t)) else if (t==0)=true then pure (.done (some (doneH a b (out.push y++(b.extract t (nb-1)).reverse) na t),na,t,out.push y++(b.extract t (nb-1)).reverse,mg,ac,nb-1-t)) else HC a b (out.push y++(b.extract t (nb-1)).reverse) na t mg ac (nb-1-t)) else HC a b (out.push y) na (nb-1) mg ac (nb-1-t)
  |_=>pure (.done (some (doneH a b (out.push y) na (nb-1)),na,nb-1,out.push y,mg,ac,bc))
def HA (a b out:Array Keyed)(na nb mg ac bc:Nat):StateT SortSt Sem (ForInStep H7):=do
 setMinGallop' mg
 let y <- elem' b (nb-1)
 let x <- gallop' false y a 0 na (na-1)
 match x with
 |some t=>if na-t > 0 then (if (t==0)=true then pure (.done (some (doneH a b (out++(a.extract t na).reverse) t nb),t,nb,out++(a.extract t na).reverse,mg,na-t,bc)) else HB a b (out++(a.extract t na).reverse) t nb mg (na-t) bc) else HB a b out na nb mg (na-t) bc
 |_=>pure (.done (some (doneH a b out na nb),na,nb,out,mg,ac,bc))
def H1 (a b:Array Keyed)(mg:Nat)(c:H6):StateT SortSt Sem (ForInStep H6):=do
 let y <- elem' b (c.2.2.1-1)
 let z <- elem' a (c.2.1-1)
 let x <- lt' y z
 match x with
 |some aWins=>
  if aWins=true then
   elem' a (c.2.1-1) >>= fun y=>
   if (c.2.1-1==0)=true then pure (.done (some (doneH a b (c.2.2.2.1.push y) (c.2.1-1) c.2.2.1),c.2.1-1,c.2.2.1,c.2.2.2.1.push y,c.2.2.2.2.1+1,0))
   else if c.2.2.2.2.1+1 >= mg then pure (.done (none,c.2.1-1,c.2.2.1,c.2.2.2.1.push y,c.2.2.2.2.1+1,0)) else pure (.yield (none,c.2.1-1,c.2.2.1,c.2.2.2.1.push y,c.2.2.2.2.1+1,0))
  else
   elem' b (c.2.2.1-1) >>= fun y=>
   if (c.2.2.1-1==1)=true then pure (.done (some (firstB a b (c.2.2.2.1.push y) c.2.1 (c.2.2.1-1)),c.2.1,c.2.2.1-1,c.2.2.2.1.push y,0,c.2.2.2.2.2+1))
   else if c.2.2.2.2.2+1 >= mg then pure (.done (none,c.2.1,c.2.2.1-1,c.2.2.2.1.push y,0,c.2.2.2.2.2+1)) else pure (.yield (none,c.2.1,c.2.2.1-1,c.2.2.2.1.push y,0,c.2.2.2.2.2+1))
 |_=>pure (.done (some (doneH a b c.2.2.2.1 c.2.1 c.2.2.1),c.2.1,c.2.2.1,c.2.2.2.1,c.2.2.2.2.1,c.2.2.2.2.2))
def H2 (a b:Array Keyed)(c:H7):StateT SortSt Sem (ForInStep H7):=if c.2.2.2.2.1 > 1 then HA a b c.2.2.2.1 c.2.1 c.2.2.1 (c.2.2.2.2.1-1) c.2.2.2.2.2.1 c.2.2.2.2.2.2 else HA a b c.2.2.2.1 c.2.1 c.2.2.1 c.2.2.2.2.1 c.2.2.2.2.2.1 c.2.2.2.2.2.2
def HO (a b:Array Keyed)(c:H5):StateT SortSt Sem (ForInStep H5):=do
 let d <- forIn [0:a.size+b.size] ((none,c.2.1,c.2.2.1,c.2.2.2.1,0,0):H6) fun _ d=>H1 a b c.2.2.2.2 d
 match d.1 with
 |some r=>pure (.done (some r,d.2.1,d.2.2.1,d.2.2.2.1,c.2.2.2.2))
 |none=>do
  liftM (rule "list.sort.gallop")
  let e <- forIn [0:a.size+b.size] ((none,d.2.1,d.2.2.1,d.2.2.2.1,c.2.2.2.2+1,d.2.2.2.2.1,d.2.2.2.2.2):H7) fun _ e=>H2 a b e
  match e.1 with
  |some r=>pure (.done (some r,e.2.1,e.2.2.1,e.2.2.2.1,e.2.2.2.2.1))
  |none=>do
   setMinGallop' (e.2.2.2.2.1+1)
   pure (.yield (none,e.2.1,e.2.2.1,e.2.2.2.1,e.2.2.2.2.1+1))
theorem mergeHi'_eq2 (a b:Array Keyed):mergeHi' a b=(do
 liftM (rule "list.sort.merge-hi")
 let y <- elem' a (a.size-1)
 if (a.size-1==0)=true then pure (doneH a b #[y] (a.size-1) b.size)
 else if (b.size==1)=true then pure (firstB a b #[y] (a.size-1) b.size)
 else do
  let g <- get
  let c <- forIn [0:a.size+b.size] ((none,a.size-1,b.size,#[y],gallopOf g):H5) fun _ c=>HO a b c
  match c.1 with
  |some r=>pure r
  |none=>unsupported "internal:list.sort.merge-bound"):=by
 rw[mergeHi'_eq]
 refine congrArg (bind _) (funext fun _=>congrArg (bind _) (funext fun y=>?_))
 refine congrArg (ite _ _) (congrArg (ite _ _) (congrArg (bind _) (funext fun g=>?_)))
 refine congr (congrArg bind (congrArg (forIn _ _) (funext fun _=>funext fun c=>?_))) (funext fun c=>?_)
 ·unfold HO
  dsimp only
  refine congr (congrArg bind (congrArg (forIn _ _) (funext fun _=>funext fun d=>?_))) (funext fun d=>?_)
  ·unfold H1
   rfl
  ·cases d.1 with
   |some r=>rfl
   |none=>
    dsimp only
    refine congrArg (bind _) (funext fun _=>congr (congrArg bind (congrArg (forIn _ _) (funext fun _=>funext fun e=>?_))) (funext fun e=>?_))
    ·unfold H2 HA HB HC
     rfl
    ·cases e.1 with
     |some r=>rfl
     |none=>rfl
 ·cases c.1 with
  |some r=>rfl
  |none=>rfl
section
variable {α:Type} {R:α->α->Prop} {A B:List α}
theorem rd_rev (A:List α){n:Nat}(h:n<=A.length):A.reverse.drop (A.length-n)=(A.take n).reverse:=by
 rw[List.drop_reverse,show A.length-(A.length-n)=n by omega]
theorem rdt_rev (A:List α){n t:Nat}(h:n<=A.length)(ht:t<=n):(A.reverse.drop (A.length-n)).take (n-t)=((A.take n).drop t).reverse:=by
 rw[rd_rev A h,List.take_reverse,List.length_take,show min n A.length-(n-t)=t by omega]
theorem Mgd.rev {r:List α}(h:Mgd (fun x y=>R y x) B.reverse A.reverse r.reverse):Mgd R A B r:=by
 refine⟨?_,List.pairwise_reverse.mp h.2⟩
 have:=h.1
 rw[<-List.reverse_append]at this
 exact ((List.reverse_perm r).symm.trans this).trans (List.reverse_perm _)
end
section
variable {prog:Program} {w:World} {A:Around} {E:Value->Shared->Prop} {s:Shared} {a₀:Array Keyed} {κ:KeyKind} {kd:SortKind} {a b out:Array Keyed} {na nb:Nat}
structure MH (κ:KeyKind)(a b out:Array Keyed)(na nb:Nat):Prop where
 ha:na<=a.size
 hb:nb<=b.size
 mi:MI (fun x y=>LeK κ y x) a.toList.reverse b.toList.reverse out.toList (a.toList.length-na) (b.toList.length-nb)
theorem MH.swap (h:MH κ a b out na nb):MH κ b a out nb na:=⟨h.hb,h.ha,h.mi.swap⟩
theorem mem_td {t:Nat}{x:Keyed}(h:x∈(a.toList.take na).drop t):∃j,∃hj:j<a.size,t<=j/\j<na/\x=a[j]:=by
 obtain⟨k,hk,e⟩:=List.mem_iff_getElem.mp h
 rw[List.getElem_drop,List.getElem_take]at e
 rw[List.length_drop,List.length_take]at hk
 exact⟨t+k,by simp at hk;omega,by omega,by omega,by rw[<-e];simp⟩
theorem mem_tk {x:Keyed}(h:x∈a.toList.take na):∃j,∃hj:j<a.size,j<na/\x=a[j]:=by
 obtain⟨j,hj,_,h2,e⟩:=mem_td (t:=0) (by simpa using h)
 exact⟨j,hj,h2,e⟩
theorem MH.extA (h:MH κ a b out na nb)(sA:a.toList.Pairwise (LeK κ)){t:Nat}(ht:t<=na)(hx:∀j (hj:j<a.size),t<=j->j<na->∀y∈b.toList.take nb,LeK κ y a[j]):MH κ a b (out++(a.extract t na).reverse) t nb:=by
 have hna:=h.ha
 have hl:a.toList.length=a.size:=Array.length_toList
 have:=h.mi.ta (List.pairwise_reverse.mpr sA) (k:=na-t) (by rw[List.length_reverse];omega) (by
  rw[rdt_rev _ (by omega) ht,rd_rev _ (by have:=h.hb;simpa using this)]
  intro x hx' y hy
  obtain⟨j,hj,h1,h2,rfl⟩:=mem_td (List.mem_reverse.mp hx')
  exact hx j hj h1 h2 y (List.mem_reverse.mp hy))
 rw[rdt_rev _ (by omega) ht,show a.toList.length-na+(na-t)=a.toList.length-t by omega]at this
 refine⟨by omega,h.hb,?_⟩
 rw[Array.toList_append,Array.toList_reverse,ext_list,show (List.drop t a.toList).take (na-t)=(a.toList.take na).drop t by rw[List.drop_take]]
 exact this
theorem MH.extB (h:MH κ a b out na nb)(sB:b.toList.Pairwise (LeK κ)){t:Nat}(ht:t<=nb)(hx:∀j (hj:j<b.size),t<=j->j<nb->∀y∈a.toList.take na,LeK κ y b[j]):MH κ a b (out++(b.extract t nb).reverse) na t:=(h.swap.extA sB ht hx).swap
theorem MH.pushA (h:MH κ a b out na nb)(sA:a.toList.Pairwise (LeK κ))(h1:1<=na)(hi:na-1<a.size)(hx:∀y∈b.toList.take nb,LeK κ y a[na-1]):MH κ a b (out.push a[na-1]) (na-1) nb:=by
 have hna:=h.ha
 have:=h.extA sA (t:=na-1) (by omega) (fun j hj g1 g2 y hy=>by (have e:j=na-1:=by omega);subst e;exact hx y hy)
 have e:(a.extract (na-1) na).reverse = #[a[na-1]]:=by
  apply Array.ext'
  rw[Array.toList_reverse,ext_list,show na-(na-1)=1 by omega,take1 hi];rfl
 rw[e]at this
 simpa using this
theorem MH.pushB (h:MH κ a b out na nb)(sB:b.toList.Pairwise (LeK κ))(h1:1<=nb)(hi:nb-1<b.size)(hx:∀y∈a.toList.take na,LeK κ y b[nb-1]):MH κ a b (out.push b[nb-1]) na (nb-1):=(h.swap.pushA sB h1 hi hx).swap
theorem ext_0 (a:Array Keyed)(n:Nat):(a.extract 0 n).toList=a.toList.take n:=by rw[ext_list];simp
theorem MP.doneH (M:MP a₀ κ a b)(h:MH κ a b out na nb)(he:na=0\/nb=0):Mgd (LeK κ) a.toList b.toList (doneH a b out na nb).toList:=by
 apply Mgd.rev
 have hA:=h.ha
 have hB:=h.hb
 have:=h.mi.swap.done (List.pairwise_reverse.mpr M.sB) (List.pairwise_reverse.mpr M.sA) (by simp only[List.length_reverse];simp only[Array.length_toList];omega)
 rw[rd_rev _ (by simpa using hB),rd_rev _ (by simpa using hA)]at this
 have e:(S64.doneH a b out na nb).toList.reverse=out.toList++(b.toList.take nb).reverse++(a.toList.take na).reverse:=by
  unfold S64.doneH
  simp only[Array.toList_append,ext_0,Array.toList_reverse,List.reverse_append,List.reverse_reverse,List.append_assoc]
 rw[e];exact this
theorem MP.firstB (M:MP a₀ κ a b)(h:MH κ a b out na nb)(he:nb=1):Mgd (LeK κ) a.toList b.toList (firstB a b out na nb).toList:=by
 apply Mgd.rev
 have hA:=h.ha
 have hB:=h.hb
 have:=h.mi.swap.last (List.pairwise_reverse.mpr M.sB) (List.pairwise_reverse.mpr M.sA) (by
  rw[rd_rev _ (by simpa using hB)]
  intro x hx y hy
  obtain⟨j,hj,h2,rfl⟩:=mem_tk (List.mem_reverse.mp hy)
  have e:j=0:=by omega
  subst e
  exact M.hf x (List.mem_reverse.mp hx))
 rw[rd_rev _ (by simpa using hA),rd_rev _ (by simpa using hB)]at this
 have e:(S64.firstB a b out na nb).toList.reverse=out.toList++(a.toList.take na).reverse++(b.toList.take nb).reverse:=by
  unfold S64.firstB
  simp only[Array.toList_append,ext_0,Array.toList_reverse,List.reverse_append,List.reverse_reverse,List.append_assoc]
 rw[e];exact this
theorem srt_take (sA:a.toList.Pairwise (LeK κ))(hi:na-1<a.size):∀y∈a.toList.take na,LeK κ y a[na-1]:=fun y hy=>by
 obtain⟨j,hj,h2,rfl⟩:=mem_tk hy
 exact srt_at sA (by omega) hi
def MHJ (κ:KeyKind)(a b out:Array Keyed)(na nb p:Nat):Prop:=MH κ a b out na nb/\1<=na/\2<=nb/\na+nb+p<=a.size+b.size
theorem wp_H1 (hO:LtOk kd κ a₀ prog w A E s)(M:MP a₀ κ a b){st:SortSt}(hk:kindOf st=kd){mg p:Nat}{c:H6}(h1:c.1=none)(hJ:MHJ κ a b c.2.2.2.1 c.2.1 c.2.2.1 p){Q:ForInStep H6->SortSt->Prop}
  (h:∀d:H6,d.1=none->MHJ κ a b d.2.2.2.1 d.2.1 d.2.2.1 (p+1)->Q (.yield d) st/\Q (.done d) st) (hd:∀(d:H6) x,d.1=some x->Mgd (LeK κ) a.toList b.toList x.toList->Q (.done d) st):
  wpS (model prog w) A E s (H1 a b mg c) Q st:=by
 obtain⟨c0,na,nb,out,ac,bc⟩:=c
 obtain⟨hM,h2,h3,h4⟩:=hJ
 dsimp only at *
 have hA:=hM.ha
 have hB:=hM.hb
 unfold H1
 dsimp only
 refine wpS_bind (wp_elem (show nb-1<b.size by omega) (wpS_bind (wp_elem (show na-1<a.size by omega) (wpS_bind (hO _ _ _ _ (M.hB _ (by simp)) (M.hA _ (by simp)) hk ?_)))))
 cases e:κ.blt (KE κ b[nb-1]) (KE κ a[na-1]) with
 |true=>
  dsimp only
  rw[if_pos rfl]
  have hM':=hM.pushA M.sA h2 (by omega) (fun y hy=>LeK.trans (srt_take M.sB (by omega) y hy) (KeyOrd.kle_of_klt e))
  refine wpS_bind (wp_elem (show na-1<a.size by omega) ?_)
  by_cases hq:na-1=0
  ·rw[if_pos (by simpa using hq)]
   exact wpS_pure (hd _ _ rfl (M.doneH hM' (.inl hq)))
  ·rw[if_neg (by simpa using hq)]
   have hh:=h (none,na-1,nb,out.push a[na-1],ac+1,0) rfl (show MHJ κ a b (out.push a[na-1]) (na-1) nb (p+1) from ⟨hM',by omega,h3,by omega⟩)
   split
   ·exact wpS_pure hh.2
   ·exact wpS_pure hh.1
 |false=>
  dsimp only
  rw[if_neg (by simp)]
  have hM':=hM.pushB M.sB (by omega) (by omega) (fun y hy=>LeK.trans (srt_take M.sA (by omega) y hy) e)
  refine wpS_bind (wp_elem (show nb-1<b.size by omega) ?_)
  by_cases hq:nb-1=1
  ·rw[if_pos (by simpa using hq)]
   exact wpS_pure (hd _ _ rfl (M.firstB hM' hq))
  ·rw[if_neg (by simpa using hq)]
   have hh:=h (none,na,nb-1,out.push b[nb-1],0,bc+1) rfl (show MHJ κ a b (out.push b[nb-1]) na (nb-1) (p+1) from ⟨hM',h2,by omega,by omega⟩)
   split
   ·exact wpS_pure hh.2
   ·exact wpS_pure hh.1
theorem wp_HC (M:MP a₀ κ a b){st:SortSt}{mg ac bc p:Nat}(hM:MH κ a b out na nb)(h2:1<=na)(h3:2<=nb)(h4:na+nb+p<=a.size+b.size)(hi:na-1<a.size)(hle:∀y∈b.toList.take nb,LeK κ y a[na-1]){Q:ForInStep H7->SortSt->Prop}
  (h:∀d:H7,d.1=none->MHJ κ a b d.2.2.2.1 d.2.1 d.2.2.1 p->Q (.yield d) st/\Q (.done d) st) (hd:∀(d:H7) x,d.1=some x->Mgd (LeK κ) a.toList b.toList x.toList->Q (.done d) st):
  wpS (model prog w) A E s (HC a b out na nb mg ac bc) Q st:=by
 unfold HC
 refine wpS_bind (wp_elem hi ?_)
 have hM':=hM.pushA M.sA h2 hi hle
 by_cases hq:na-1=0
 ·rw[if_pos (by simpa using hq)]
  exact wpS_pure (hd _ _ rfl (M.doneH hM' (.inl hq)))
 ·rw[if_neg (by simpa using hq)]
  have hh:=h (none,na-1,nb,out.push a[na-1],mg,ac,bc) rfl (show MHJ κ a b (out.push a[na-1]) (na-1) nb p from ⟨hM',by omega,h3,by omega⟩)
  split
  ·exact wpS_pure hh.2
  ·exact wpS_pure hh.1
theorem wp_HB (hO:LtOk kd κ a₀ prog w A E s)(M:MP a₀ κ a b){st:SortSt}(hk:kindOf st=kd){mg ac bc p:Nat}(hM:MH κ a b out na nb)(h2:1<=na)(h3:2<=nb)(h4:na+nb+p<=a.size+b.size)(hi:nb-1<b.size)(hle:∀y∈a.toList.take na,LeK κ y b[nb-1]){Q:ForInStep H7->SortSt->Prop}
  (h:∀d:H7,d.1=none->MHJ κ a b d.2.2.2.1 d.2.1 d.2.2.1 p->Q (.yield d) st/\Q (.done d) st) (hd:∀(d:H7) x,d.1=some x->Mgd (LeK κ) a.toList b.toList x.toList->Q (.done d) st):
  wpS (model prog w) A E s (HB a b out na nb mg ac bc) Q st:=by
 unfold HB
 have hA:=hM.ha
 have hB:=hM.hb
 refine wpS_bind (wp_elem hi ?_)
 have hM':=hM.pushB M.sB (by omega) hi hle
 by_cases hq:nb-1=1
 ·rw[if_pos (by simpa using hq)]
  exact wpS_pure (hd _ _ rfl (M.firstB hM' hq))
 ·rw[if_neg (by simpa using hq)]
  refine wpS_bind (wp_elem (show na-1<a.size by omega) (wpS_bind (wp_gallL hO hk (M.hA _ (by simp)) M.hB (srt_all M.sB _ _) (by omega) (by omega) (fun t htn g1 g2=>?_))))
  dsimp only
  have hle2:∀y∈b.toList.take t,LeK κ y a[na-1]:=fun y hy=>by
   obtain⟨j,hj,hij,rfl⟩:=mem_tk hy
   have:=g1 j (by omega) hij
   simp only[Nat.zero_add]at this
   exact KeyOrd.kle_of_klt this
  by_cases hk0:nb-1-t > 0
  ·rw[if_pos hk0]
   have hM2:=hM'.extB M.sB (t:=t) (by omega) (fun j hj hj1 hj2 y hy=>by
    have:=g2 j (by omega) hj1 hj2
    simp only[Nat.zero_add]at this
    exact LeK.trans (srt_take M.sA (by omega) y hy) this)
   by_cases hq2:t=1
   ·rw[if_pos (by simpa using hq2)]
    exact wpS_pure (hd _ _ rfl (M.firstB hM2 hq2))
   ·rw[if_neg (by simpa using hq2)]
    by_cases hq3:t=0
    ·rw[if_pos (by simpa using hq3)]
     exact wpS_pure (hd _ _ rfl (M.doneH hM2 (.inr hq3)))
    ·rw[if_neg (by simpa using hq3)]
     exact wp_HC M hM2 h2 (by omega) (by omega) (by omega) hle2 h hd
  ·rw[if_neg hk0]
   have e:t=nb-1:=by omega
   subst e
   exact wp_HC M hM' h2 (by omega) (by omega) (by omega) hle2 h hd
theorem wp_HA (hO:LtOk kd κ a₀ prog w A E s)(M:MP a₀ κ a b){st:SortSt}(hk:kindOf st=kd){mg ac bc p:Nat}(hJ:MHJ κ a b out na nb p){Q:ForInStep H7->SortSt->Prop}
  (h:∀(d:H7) st',SG st st'->d.1=none->MHJ κ a b d.2.2.2.1 d.2.1 d.2.2.1 p->Q (.yield d) st'/\Q (.done d) st') (hd:∀(d:H7) x st',SG st st'->d.1=some x->Mgd (LeK κ) a.toList b.toList x.toList->Q (.done d) st'):
  wpS (model prog w) A E s (HA a b out na nb mg ac bc) Q st:=by
 obtain⟨hM,h2,h3,h4⟩:=hJ
 have hA:=hM.ha
 have hB:=hM.hb
 unfold HA
 refine wpS_bind (wp_setG ?_)
 have hG:SG st (setGallop st mg):=(SG.refl st).set mg
 refine wpS_bind (wp_elem (show nb-1<b.size by omega) (wpS_bind (wp_gallR hO (hG.kd.trans hk) (M.hB _ (by simp)) M.hA (srt_all M.sA _ _) (by omega) (by omega) (fun t htn g1 g2=>?_))))
 dsimp only
 have hle:∀y∈a.toList.take t,LeK κ y b[nb-1]:=fun y hy=>by
  obtain⟨j,hj,hij,rfl⟩:=mem_tk hy
  have:=g1 j (by omega) hij
  simp only[Nat.zero_add]at this
  exact this
 by_cases hk0:na-t > 0
 ·rw[if_pos hk0]
  have hM2:=hM.extA M.sA (t:=t) (by omega) (fun j hj hj1 hj2 y hy=>by
   have:=g2 j (by omega) hj1 hj2
   simp only[Nat.zero_add]at this
   exact LeK.trans (srt_take M.sB (by omega) y hy) (KeyOrd.kle_of_klt this))
  by_cases hq:t=0
  ·rw[if_pos (by simpa using hq)]
   exact wpS_pure (hd _ _ _ hG rfl (M.doneH hM2 (.inl hq)))
  ·rw[if_neg (by simpa using hq)]
   exact wp_HB hO M (hG.kd.trans hk) hM2 (by omega) h3 (by omega) (by omega) hle (fun d=>h d _ hG) (fun d x=>hd d x _ hG)
 ·rw[if_neg hk0]
  have e:t=na:=by omega
  subst e
  exact wp_HB hO M (hG.kd.trans hk) hM h2 h3 h4 (by omega) hle (fun d=>h d _ hG) (fun d x=>hd d x _ hG)
theorem wp_H2 (hO:LtOk kd κ a₀ prog w A E s)(M:MP a₀ κ a b){st:SortSt}(hk:kindOf st=kd){c:H7}{p:Nat}(hJ:MHJ κ a b c.2.2.2.1 c.2.1 c.2.2.1 p){Q:ForInStep H7->SortSt->Prop}
  (h:∀(d:H7) st',SG st st'->d.1=none->MHJ κ a b d.2.2.2.1 d.2.1 d.2.2.1 p->Q (.yield d) st'/\Q (.done d) st') (hd:∀(d:H7) x st',SG st st'->d.1=some x->Mgd (LeK κ) a.toList b.toList x.toList->Q (.done d) st'):
  wpS (model prog w) A E s (H2 a b c) Q st:=by
 unfold H2
 split
 ·exact wp_HA hO M hk hJ h hd
 ·exact wp_HA hO M hk hJ h hd
theorem wp_HO (hO:LtOk kd κ a₀ prog w A E s)(M:MP a₀ κ a b){st:SortSt}(hk:kindOf st=kd){c:H5}{p:Nat}(hJ:MHJ κ a b c.2.2.2.1 c.2.1 c.2.2.1 p){Q:ForInStep H5->SortSt->Prop}
  (h:∀(d:H5) st',SG st st'->d.1=none->MHJ κ a b d.2.2.2.1 d.2.1 d.2.2.1 (p+1)->Q (.yield d) st') (hd:∀(d:H5) x st',SG st st'->d.1=some x->Mgd (LeK κ) a.toList b.toList x.toList->Q (.done d) st'):
  wpS (model prog w) A E s (HO a b c) Q st:=by
 have hab:1<=a.size+b.size:=by have:=M.ha;omega
 unfold HO
 refine wpS_bind (wpS_mono (wpS_forRange (I:=fun x d st'=>st'=st/\d.1=none/\MHJ κ a b d.2.2.2.1 d.2.1 d.2.2.1 (p+x))
   (Q:=fun d st'=>st'=st/\((d.1=none/\MHJ κ a b d.2.2.2.1 d.2.1 d.2.2.1 (p+1)) \/ ∃x,d.1=some x/\Mgd (LeK κ) a.toList b.toList x.toList)) ?step ?fin ⟨rfl,rfl,hJ⟩) ?post)
 case step=>
  rintro x d st' _ hx ⟨rfl,h1,h2⟩
  refine wp_H1 hO M hk h1 h2 (fun d' g1 g2=>⟨⟨rfl,g1,g2⟩,rfl,.inl ⟨g1,g2.1,g2.2.1,g2.2.2.1,?_⟩⟩) (fun d' x g1 g2=>⟨rfl,.inr ⟨x,g1,g2⟩⟩)
  have:=g2.2.2.2;omega
 case fin=>
  rintro d st' ⟨rfl,h1,h2⟩
  refine⟨rfl,.inl ⟨h1,h2.1,h2.2.1,h2.2.2.1,?_⟩⟩
  have:=h2.2.2.2;omega
 case post=>
  rintro d st' ⟨rfl,hh⟩
  rcases hh with ⟨h1,h2⟩|⟨x,h1,h2⟩
  ·rw[h1]
   dsimp only
   refine wpS_bind (wp_rule ?_)
   refine wpS_bind (wpS_mono (wpS_forRange (I:=fun x d st''=>SG st' st''/\d.1=none/\MHJ κ a b d.2.2.2.1 d.2.1 d.2.2.1 (p+1))
    (Q:=fun d st''=>SG st' st''/\((d.1=none/\MHJ κ a b d.2.2.2.1 d.2.1 d.2.2.1 (p+1)) \/ ∃x,d.1=some x/\Mgd (LeK κ) a.toList b.toList x.toList)) ?step2 ?fin2 ⟨SG.refl _,rfl,h2⟩) ?post2)
   case step2=>
    rintro x e st'' _ hx ⟨g0,g1,g2⟩
    exact wp_H2 hO M (g0.kd.trans hk) g2 (fun d' st3 k0 k1 k2=>⟨⟨g0.trans k0,k1,k2⟩,g0.trans k0,.inl ⟨k1,k2⟩⟩) (fun d' x st3 k0 k1 k2=>⟨g0.trans k0,.inr ⟨x,k1,k2⟩⟩)
   case fin2=>
    rintro e st'' ⟨g0,g1,g2⟩
    exact⟨g0,.inl ⟨g1,g2⟩⟩
   case post2=>
    rintro e st'' ⟨g0,hh⟩
    rcases hh with ⟨g1,g2⟩|⟨x,g1,g2⟩
    ·rw[g1]
     dsimp only
     refine wpS_bind (wp_setG (wpS_pure ?_))
     exact h (none,e.2.1,e.2.2.1,e.2.2.2.1,e.2.2.2.2.1+1) _ (g0.set _) rfl g2
    ·rw[g1]
     dsimp only
     exact wpS_pure (hd _ x _ g0 rfl g2)
  ·rw[h1]
   dsimp only
   exact wpS_pure (hd _ x _ (SG.refl _) rfl h2)
theorem wp_mergeHi {st:SortSt}{Q:Array Keyed->SortSt->Prop}(hO:LtOk kd κ a₀ prog w A E s)(M:MP a₀ κ a b)(hk:kindOf st=kd)
  (h:∀r st',SG st st'->Mgd (LeK κ) a.toList b.toList r.toList->Q r st'):wpS (model prog w) A E s (mergeHi' a b) Q st:=by
 have ha:=M.ha
 have hb:=M.hb
 rw[mergeHi'_eq2]
 refine wpS_bind (wp_rule (wpS_bind (wp_elem (show a.size-1<a.size by omega) ?_)))
 have hM0:MH κ a b #[] a.size b.size:=⟨Nat.le_refl _,Nat.le_refl _,by simpa using MI.start _ _⟩
 have hM:MH κ a b #[a[a.size-1]] (a.size-1) b.size:=hM0.pushA M.sA ha (by omega) (fun y hy=>M.hl y (List.mem_of_mem_take hy))
 by_cases h1:a.size-1=0
 ·rw[if_pos (by simpa using h1)]
  exact wpS_pure (h _ _ (SG.refl _) (M.doneH hM (.inl h1)))
 ·rw[if_neg (by simpa using h1)]
  by_cases h2:b.size=1
  ·rw[if_pos (by simpa using h2)]
   exact wpS_pure (h _ _ (SG.refl _) (M.firstB hM h2))
  ·rw[if_neg (by simpa using h2)]
   refine wpS_bind (wpS_get ?_)
   refine wpS_bind (wpS_mono (wpS_forRange (I:=fun x c st'=>SG st st'/\c.1=none/\MHJ κ a b c.2.2.2.1 c.2.1 c.2.2.1 (1+x))
    (Q:=fun c st'=>SG st st'/\∃x,c.1=some x/\Mgd (LeK κ) a.toList b.toList x.toList) ?step ?fin ⟨SG.refl _,rfl,show MHJ κ a b #[a[a.size-1]] (a.size-1) b.size (1+0) from ⟨hM,by omega,by omega,by omega⟩⟩) ?post)
   case step=>
    rintro x c st' _ hx ⟨g0,g1,g2⟩
    exact wp_HO hO M (g0.kd.trans hk) g2 (fun d st2 k0 k1 k2=>⟨g0.trans k0,k1,k2⟩) (fun d x st2 k0 k1 k2=>⟨g0.trans k0,x,k1,k2⟩)
   case fin=>
    rintro c st' ⟨g0,g1,g2⟩
    have:=g2.2.1;have:=g2.2.2.1;have:=g2.2.2.2
    omega
   case post=>
    rintro c st' ⟨g0,x,g1,g2⟩
    rw[g1]
    dsimp only
    exact wpS_pure (h x st' g0 g2)
end
end S64
namespace S64
open PySem PyProof.Rows
section
variable {prog:Program} {w:World} {A:Around} {E:Value->Shared->Prop} {s:Shared} {a₀:Array Keyed} {κ:KeyKind} {kd:SortKind}
structure SQ (kd:SortKind)(a₀:Array Keyed)(lo hi:Nat)(st st':SortSt):Prop where
 b:SB kd a₀ st'
 pe:pendingOf st'=pendingOf st
 out:Out lo hi (arrOf st) (arrOf st')
theorem SQ.refl {lo hi:Nat}{st:SortSt}(h:SB kd a₀ st):SQ kd a₀ lo hi st st:=⟨h,rfl,Out.refl _ _ _⟩
theorem SQ.trans {lo hi:Nat}{st st' st'':SortSt}(h:SQ kd a₀ lo hi st st')(g:SQ kd a₀ lo hi st' st''):SQ kd a₀ lo hi st st'':=⟨g.b,g.pe.trans h.pe,h.out.trans g.out⟩
theorem SQ.mir {lo hi i j:Nat}{st st':SortSt}(h:SQ kd a₀ lo hi st st')(hj:j<=a₀.size)(h1:lo<=i)(h2:j<=hi):SQ kd a₀ lo hi st (setArr st' (mirror (arrOf st') i j ((j-i) / 2))):=
 ⟨h.b.setArr (mirror_perm _ _ _ _),h.pe,h.out.trans (out_mirror (by rw[h.b.size];exact hj) h1 h2)⟩
theorem SQ.bub {lo hi k l:Nat}{st st':SortSt}(h:SQ kd a₀ lo hi st st')(hk:k<a₀.size)(h1:lo<=l)(hl:l<=k)(h2:k<hi):SQ kd a₀ lo hi st (setArr st' (bubble (arrOf st') k (k-l))):=
 ⟨h.b.setArr (bubble_perm _ _ _),h.pe,h.out.trans (out_bubble (by rw[h.b.size];exact hk) (by omega) (by omega) h2)⟩
theorem wp_tail' {st st₀:SortSt}{lo n nrem:Nat}{Q:Option Nat->SortSt->Prop}(hO:LtOk kd κ a₀ prog w A E s)(hn:lo+nrem<=a₀.size)(h1:1<=n)(hnn:n<=nrem)(hB:SQ kd a₀ lo (lo+nrem) st₀ st)(hs:NI κ (arrOf st) lo (lo+n))
  (h:∀m st',SQ kd a₀ lo (lo+nrem) st₀ st'->1<=m->m<=nrem->SO κ (arrOf st') lo (lo+m)->Q (some m) st'):
  wpS (model prog w) A E s (tailL lo n nrem) Q st:=wp_tail hO hn h1 hnn hB.b hs (fun m st' g1 g2 g3 g4 g5 g6=>h m st' (hB.trans ⟨g1,g2,g3⟩) g4 g5 g6)
def descL (lo n nrem:Nat):StateT SortSt Sem DescSt:=
 forIn [n:nrem] ((none,n,0):DescSt) fun _ c=>do
  let x <- ltAt' (lo+c.2.1) (lo+c.2.1-1)
  match x with
  |some smaller=>
   if smaller=true then
    if c.2.2 > 0 then do
     reverseSlice' (lo+c.2.1-(c.2.2+1)) (lo+c.2.1)
     pure (.yield (none,c.2.1+1,0))
    else pure (.yield (none,c.2.1+1,0))
   else do
    let x <- ltAt' (lo+c.2.1-1) (lo+c.2.1)
    match x with
    |some larger=>if larger=true then pure (.done (none,c.2.1,c.2.2)) else pure (.yield (none,c.2.1+1,c.2.2+1))
    |_=>pure (.done (some none,c.2.1,c.2.2))
  |_=>pure (.done (some none,c.2.1,c.2.2))
def partL (lo n nrem:Nat):StateT SortSt Sem (Option Nat):=do
 liftM (rule "list.sort.descending-run")
 let c <- descL lo (n+1) nrem
 match c.1 with
 |some r=>pure r
 |none=>
  if c.2.2 > 0 then do
   reverseSlice' (lo+c.2.1-(c.2.2+1)) (lo+c.2.1)
   tailL lo c.2.1 nrem
  else tailL lo c.2.1 nrem
theorem countRun'_eq2 (lo nrem:Nat):countRun' lo nrem=(do
  let c <- ascL lo 1 nrem
  match c.1 with
  |some r=>pure r
  |none=>
   if (c.2==nrem)=true then pure (some c.2)
   else if c.2 > 1 then do
    let x <- ltAt' lo (lo+c.2-1)
    match x with
    |some rose=>if rose=true then pure (some c.2) else do
      reverseSlice' lo (lo+c.2)
      partL lo c.2 nrem
    |_=>pure none
   else partL lo c.2 nrem):=by
 have tl:∀n (f:AscSt->StateT SortSt Sem (Option Nat)),(∀r m,f (some r,m)=pure r)->(∀m,f (none,m)=pure (some m))->(reverseSlice' lo (lo+n) >>= fun _=>ascL lo n nrem >>= f)=tailL lo n nrem:=fun n f h1 h2=>by
  refine congrArg (bind _) (funext fun _=>congrArg (bind _) (funext fun c=>?_))
  rcases c with ⟨_|r,m⟩
  ·exact h2 m
  ·exact h1 r m
 have pl:∀n (f:DescSt->StateT SortSt Sem (Option Nat)),(∀r m q,f (some r,m,q)=pure r)->(∀m q,f (none,m,q)=if q > 0 then reverseSlice' (lo+m-(q+1)) (lo+m) >>= fun _=>tailL lo m nrem else tailL lo m nrem) ->
   (liftM (rule "list.sort.descending-run") >>= fun _=>descL lo (n+1) nrem >>= f)=partL lo n nrem:=fun n f h1 h2=>by
  refine congrArg (bind _) (funext fun _=>congrArg (bind _) (funext fun c=>?_))
  rcases c with ⟨_|r,m,q⟩
  ·exact h2 m q
  ·exact h1 r m q
 rw[countRun'_eq]
 unfold ascL
 refine congrArg (bind _) (funext fun c=>?_)
 obtain⟨r,n⟩:=c
 cases r with
 |some r=>rfl
 |none=>
  dsimp only
  refine congrArg (ite _ _) ?_
  by_cases hn:n > 1
  ·rw[if_pos hn,if_pos hn]
   refine congrArg (bind _) (funext fun x=>?_)
   cases x with
   |none=>rfl
   |some rose=>
    dsimp only
    refine congrArg (ite _ _) (congrArg (bind _) (funext fun _=>pl n _ (fun _ _ _=>rfl) fun m q=>by
    dsimp only
    by_cases o:q > 0
    ·rw[if_pos o,if_pos o];exact congrArg (bind _) (funext fun _=>tl m _ (fun _ _=>rfl) fun _=>rfl)
    ·rw[if_neg o,if_neg o];exact tl m _ (fun _ _=>rfl) fun _=>rfl))
  ·rw[if_neg hn,if_neg hn]
   exact pl n _ (fun _ _ _=>rfl) fun m q=>by
    dsimp only
    by_cases o:q > 0
    ·rw[if_pos o,if_pos o];exact congrArg (bind _) (funext fun _=>tl m _ (fun _ _=>rfl) fun _=>rfl)
    ·rw[if_neg o,if_neg o];exact tl m _ (fun _ _=>rfl) fun _=>rfl
theorem wp_desc {st st₀:SortSt}{lo n nrem:Nat}{Q:DescSt->SortSt->Prop}(hO:LtOk kd κ a₀ prog w A E s)(hn:lo+nrem<=a₀.size)(h1:1<=n)(hnn:n<=nrem)(hB:SQ kd a₀ lo (lo+nrem) st₀ st)(hs:NI κ (arrOf st) lo (lo+n))
  (h:∀m neq st',SQ kd a₀ lo (lo+nrem) st₀ st'->n<=m->m<=nrem->NI κ (arrOf st') lo (lo+m)->neq+1<=m->(∀i,lo+m-(neq+1)<=i->i<lo+m->KK κ (arrOf st') i=KK κ (arrOf st') (lo+m-1))->Q (none,m,neq) st'):
  wpS (model prog w) A E s (descL lo n nrem) Q st:=by
 unfold descL
 refine wpS_forRange (I:=fun x c st'=>∃neq,c=(none,x,neq)/\SQ kd a₀ lo (lo+nrem) st₀ st'/\NI κ (arrOf st') lo (lo+x)/\neq+1<=x /\
   (∀i,lo+x-(neq+1)<=i->i<lo+x->KK κ (arrOf st') i=KK κ (arrOf st') (lo+x-1))) ?step ?fin ⟨0,rfl,hB,hs,by omega,fun i h1 h2=>by congr 1;omega⟩
 case fin=>
  rintro c st' ⟨neq,rfl,g1,g2,g3,g4⟩
  rw[show max n nrem=nrem by omega]at g2 g3 g4 ⊢
  exact h nrem neq st' g1 hnn (Nat.le_refl _) g2 g3 g4
 case step=>
  rintro x c st' hax hxn ⟨neq,rfl,hQ,hN,hq,he⟩
  dsimp only
  have hsz:lo+x<=(arrOf st').size:=by rw[hQ.b.size];omega
  refine wpS_bind (wp_ltAt hO hQ.b (by omega) (by omega) ?_)
  cases hless:κ.blt (KK κ (arrOf st') (lo+x)) (KK κ (arrOf st') (lo+x-1))
  case true=>
   simp only[if_true]
   have grow:∀xs:Array Keyed,(∀k,KK κ xs k=KK κ (arrOf st') k)->NI κ xs lo (lo+(x+1)):=by
    intro xs hk i j hl hij hj
    rw[hk,hk]
    rcases Nat.lt_or_ge j (lo+x) with hjx|hjx
    ·exact hN i j hl hij hjx
    ·obtain rfl:j=lo+x:=by omega
     rcases Nat.lt_or_ge i (lo+x) with hi' | hi'
     ·exact KeyOrd.kle_trans (KeyOrd.kle_of_klt hless) (hN i (lo+x-1) hl (by omega) (by omega))
     ·obtain rfl:i=lo+x:=by omega
      exact KeyOrd.kle_refl _
   by_cases hneq:neq > 0
   ·rw[if_pos hneq]
    exact wpS_bind (wp_reverse (wpS_pure ⟨0,rfl,hQ.mir (by omega) (by omega) (by omega),grow _ (KK_mirror_equal hsz he),by omega,fun i h1 h2=>by congr 1;omega⟩))
   ·rw[if_neg hneq]
    exact wpS_pure ⟨0,rfl,hQ,grow _ (fun _=>rfl),by omega,fun i h1 h2=>by congr 1;omega⟩
  case false=>
   simp only[Bool.false_eq_true,if_false]
   refine wpS_bind (wp_ltAt hO hQ.b (by omega) (by omega) ?_)
   cases hlarger:κ.blt (KK κ (arrOf st') (lo+x-1)) (KK κ (arrOf st') (lo+x))
   case true=>
    simp only[if_true]
    exact wpS_pure (h x neq st' hQ hax (by omega) hN hq he)
   case false=>
    simp only[Bool.false_eq_true,if_false]
    have same:KK κ (arrOf st') (lo+x)=KK κ (arrOf st') (lo+x-1):=KeyOrd.kle_antisymm hlarger hless
    refine wpS_pure ⟨neq+1,rfl,hQ,fun i j hl hij hj=>?_,by omega,fun i h1 h2=>?_⟩
    ·rcases Nat.lt_or_ge j (lo+x) with hjx|hjx
     ·exact hN i j hl hij hjx
     ·obtain rfl:j=lo+x:=by omega
      rcases Nat.lt_or_ge i (lo+x) with hi' | hi'
      ·rw[same];exact hN i (lo+x-1) hl (by omega) (by omega)
      ·obtain rfl:i=lo+x:=by omega
       exact KeyOrd.kle_refl _
    ·rw[show lo+(x+1)-1=lo+x by omega]
     by_cases hix:i=lo+x
     ·rw[hix]
     ·rw[same];exact he i (by omega) (by omega)
theorem wp_part {st st₀:SortSt}{lo n nrem:Nat}{Q:Option Nat->SortSt->Prop}(hO:LtOk kd κ a₀ prog w A E s)(hn:lo+nrem<=a₀.size)(hnn:n+1<=nrem)(hB:SQ kd a₀ lo (lo+nrem) st₀ st)(hs:NI κ (arrOf st) lo (lo+(n+1)))
  (h:∀m st',SQ kd a₀ lo (lo+nrem) st₀ st'->1<=m->m<=nrem->SO κ (arrOf st') lo (lo+m)->Q (some m) st'):
  wpS (model prog w) A E s (partL lo n nrem) Q st:=by
 unfold partL
 refine wpS_bind (wp_rule (wpS_bind (wp_desc hO hn (by omega) hnn hB hs fun m neq st' g1 g2 g3 g4 g5 g6=>?_)))
 dsimp only
 have hsz:lo+m<=(arrOf st').size:=by rw[g1.b.size];omega
 by_cases hneq:neq > 0
 ·rw[if_pos hneq]
  refine wpS_bind (wp_reverse (wp_tail' hO hn (by omega) g3 (g1.mir (by omega) (by omega) (by omega)) ?_ h))
  intro i j hl hij hj
  show κ.kle (KK κ (mirror (arrOf st') _ _ _) j) (KK κ (mirror (arrOf st') _ _ _) i)
  rw[KK_mirror_equal hsz g6,KK_mirror_equal hsz g6]
  exact g4 i j hl hij hj
 ·rw[if_neg hneq]
  exact wp_tail' hO hn (by omega) g3 g1 g4 h
theorem wp_countRun {st:SortSt}{lo nrem:Nat}{Q:Option Nat->SortSt->Prop}(hO:LtOk kd κ a₀ prog w A E s)(hn:lo+nrem<=a₀.size)(h1:1<=nrem)(hB:SB kd a₀ st)
  (h:∀m st',SQ kd a₀ lo (lo+nrem) st st'->1<=m->m<=nrem->SO κ (arrOf st') lo (lo+m)->Q (some m) st'):
  wpS (model prog w) A E s (countRun' lo nrem) Q st:=by
 have hQ:SQ kd a₀ lo (lo+nrem) st st:=SQ.refl hB
 rw[countRun'_eq2]
 refine wpS_bind (wp_asc hO hn (Nat.le_refl 1) h1 hB (fun i j hl hij hj=>by (obtain rfl:i=j:=by omega);exact KeyOrd.kle_refl _) fun n hn1 hn2 hsn hor=>?_)
 dsimp only
 by_cases hnn:n=nrem
 ·rw[if_pos (by simpa using hnn)]
  exact wpS_pure (h n st hQ hn1 hn2 hsn)
 ·rw[if_neg (by simpa using hnn)]
  have hlt:=hor.resolve_left hnn
  by_cases hgt:n > 1
  ·rw[if_pos hgt]
   refine wpS_bind (wp_ltAt hO hB (by omega) (by omega) ?_)
   cases hrose:κ.blt (KK κ (arrOf st) lo) (KK κ (arrOf st) (lo+n-1))
   case true=>
    simp only[if_true]
    exact wpS_pure (h n st hQ hn1 hn2 hsn)
   case false=>
    simp only[Bool.false_eq_true,if_false]
    have hsz:lo+n<=(arrOf st).size:=by rw[hB.size];omega
    have hall:∀k,lo<=k->k<lo+n->KK κ (arrOf st) k=KK κ (arrOf st) (lo+n-1):=fun k hk1 hk2=>
     KeyOrd.kle_antisymm (hsn k (lo+n-1) hk1 (by omega) (by omega)) (KeyOrd.kle_trans hrose (hsn lo k (Nat.le_refl _) hk1 hk2))
    refine wpS_bind (wp_reverse (wp_part hO hn (by omega) (hQ.mir (by omega) (Nat.le_refl _) (by omega)) ?_ h))
    intro i j hl hij hj
    show κ.kle (KK κ (mirror (arrOf st) _ _ _) j) (KK κ (mirror (arrOf st) _ _ _) i)
    rw[KK_mirror_equal hsz hall,KK_mirror_equal hsz hall]
    rcases Nat.lt_or_ge j (lo+n) with hjn|hjn
    ·rw[hall i hl (by omega),hall j (by omega) hjn];exact KeyOrd.kle_refl _
    ·obtain rfl:j=lo+n:=by omega
     rcases Nat.lt_or_ge i (lo+n) with hi' | hi'
     ·rw[hall i hl hi'];exact KeyOrd.kle_of_klt hlt
     ·obtain rfl:i=lo+n:=by omega
      exact KeyOrd.kle_refl _
  ·rw[if_neg hgt]
   obtain rfl:n=1:=by omega
   refine wp_part hO hn (by omega) hQ ?_ h
   intro i j hl hij hj
   by_cases hi':i=j
   ·subst hi';exact KeyOrd.kle_refl _
   ·obtain rfl:i=lo:=by omega
    obtain rfl:j=i+1:=by omega
    exact KeyOrd.kle_of_klt hlt
structure Bis (κ:KeyKind)(xs:Array Keyed)(lo k l r:Nat):Prop where
 le:l<=r
 top:r<=k
 low:∀i,lo<=i->i<lo+l->κ.kle (KK κ xs i) (KK κ xs (lo+k))
 high:∀i,lo+r<=i->i<lo+k->κ.klt (KK κ xs (lo+k)) (KK κ xs i)
section
variable {xs:Array Keyed} {lo k l r:Nat}
theorem Bis.start:Bis κ xs lo k 0 k:=⟨Nat.zero_le _,Nat.le_refl _,fun i a b=>absurd a (Nat.not_le.mpr b),fun i a b=>absurd a (Nat.not_le.mpr b)⟩
theorem Bis.turn (B:Bis κ xs lo k l r)(o:l<r)(hs:SO κ xs lo (lo+k))(b:Bool)(e:κ.blt (KK κ xs (lo+k)) (KK κ xs (lo+(l+r) / 2))=b):
  if b=true then Bis κ xs lo k l ((l+r) / 2) else Bis κ xs lo k ((l+r) / 2+1) r:=by
 have t:=B.top
 cases b
 ·exact⟨by omega,t,fun i a c=>KeyOrd.kle_trans (hs i (lo+(l+r) / 2) a (by omega) (by omega)) e,B.high⟩
 ·exact⟨by omega,by omega,B.low,fun i a c=>KeyOrd.klt_of_klt_of_kle e (hs _ i (by omega) a c)⟩
theorem Bis.put (B:Bis κ xs lo k l l)(hs:SO κ xs lo (lo+k))(hz:lo+k<xs.size):SO κ (bubble xs (lo+k) (lo+k-(lo+l))) lo (lo+(k+1)):=by
 have t:=B.top
 have at_:∀i,KK κ (bubble xs (lo+k) (lo+k-(lo+l))) i=if i=lo+l then KK κ xs (lo+k) else if lo+l<i/\i<=lo+k then KK κ xs (i-1) else KK κ xs i:=fun i=>by
  rw[KK_bubble hz (by omega),show lo+k-(lo+k-(lo+l))=lo+l by omega]
 intro i j a b c
 rw[at_ i,at_ j]
 rcases Nat.lt_trichotomy i (lo+l) with x|x|x<;>rcases Nat.lt_trichotomy j (lo+l) with y|y|y
 ·rw[if_neg (by omega),if_neg (by omega),if_neg (by omega),if_neg (by omega)];exact hs i j a b (by omega)
 ·rw[if_neg (by omega),if_neg (by omega),if_pos y];exact B.low i a x
 ·rw[if_neg (by omega),if_neg (by omega),if_neg (by omega),if_pos (by omega)];exact hs i (j-1) a (by omega) (by omega)
 ·omega
 ·rw[if_pos x,if_pos y];exact KeyOrd.kle_refl _
 ·rw[if_pos x,if_neg (by omega),if_pos (by omega)];exact KeyOrd.kle_of_klt (B.high (j-1) (by omega) (by omega))
 ·omega
 ·omega
 ·rw[if_neg (by omega),if_pos (by omega),if_neg (by omega),if_pos (by omega)];exact hs (i-1) (j-1) (by omega) (by omega) (by omega)
end
theorem wp_binarySort {st:SortSt}{lo n ok:Nat}{Q:Bool->SortSt->Prop}(hO:LtOk kd κ a₀ prog w A E s)(hn:lo+n<=a₀.size)(hok:ok<=n)(hB:SB kd a₀ st)(hs:SO κ (arrOf st) lo (lo+ok))
  (h:∀st',SQ kd a₀ lo (lo+n) st st'->SO κ (arrOf st') lo (lo+n)->Q true st'):wpS (model prog w) A E s (binarySort' lo n ok) Q st:=by
 rw[binarySort'_eq]
 have one:SO κ (arrOf st) lo (lo+max ok 1):=fun i j a b c=>if q:i=j then q ▸ KeyOrd.kle_refl _ else hs i j a b (by omega)
 have fin:∀t,SQ kd a₀ lo (lo+n) st t->SO κ (arrOf t) lo (lo+max (max ok 1) n)->Q true t:=fun t q so=>h t q fun i j a b c=>so i j a b (by omega)
 refine wpS_bind (wpS_forRange (fun k c t=>c=(none,())/\SQ kd a₀ lo (lo+n) st t/\SO κ (arrOf t) lo (lo+k)) (fun k c t a b i=>?_) (fun c t i=>?_) ⟨rfl,SQ.refl hB,one⟩)
 ·obtain⟨rfl,q,so⟩:=i
  have put:∀l,Bis κ (arrOf t) lo k l l->wpS (model prog w) A E s (do moveDown' (lo+k) (lo+l);pure (ForInStep.yield ((none:Option Bool),()))) (fun r u=>match r with | .done _=>False | .yield c=>c=(none,())/\SQ kd a₀ lo (lo+n) st u/\SO κ (arrOf u) lo (lo+(k+1))) t:=fun l B=>by
   have tp:=B.top
   rw[moveDown'_eq]
   exact wpS_bind (wpS_modify (wpS_pure ⟨rfl,q.bub (by omega) (by omega) (by omega) (by omega),B.put so (by rw[q.b.size];omega)⟩))
  refine wpS_bind (wpS_mono (wpS_forRange (fun x d t'=>t'=t/\∃l r,d=(none,l,r)/\r-l<=k-x/\Bis κ (arrOf t) lo k l r) (Q:=fun d t'=>t'=t/\∃l,d=(none,l,l)/\Bis κ (arrOf t) lo k l l) (fun x d t' _ y i=>?_) (fun d t' i=>?_) ⟨rfl,0,k,rfl,Nat.le_refl _,.start⟩) fun d t' i=>?_)
  ·obtain⟨rfl,l,r,rfl,z,B⟩:=i
   have tp:=B.top
   by_cases o:l<r
   ·have m:=B.turn o so
    dsimp only
    rw[if_neg (Nat.not_le.mpr o)]
    refine wpS_bind (wp_ltAt hO q.b (by omega) (by omega) ?_)
    generalize e:κ.blt _ _=b
    replace m:=m b e
    cases b
    ·exact wpS_pure ⟨rfl,_,r,rfl,by omega,m⟩
    ·exact wpS_pure ⟨rfl,l,_,rfl,by omega,m⟩
   ·cases Nat.le_antisymm B.le (Nat.not_lt.mp o)
    dsimp only
    rw[if_pos (Nat.le_refl _)]
    exact wpS_pure ⟨rfl,l,rfl,B⟩
  ·obtain⟨rfl,l,r,rfl,z,B⟩:=i
   cases Nat.le_antisymm B.le (by omega)
   exact⟨rfl,l,rfl,B⟩
  ·obtain⟨rfl,l,rfl,B⟩:=i
   exact wpS_mono (put l B) fun r u g=>by cases r with|done _=>exact g.elim|yield _=>exact g
 ·obtain⟨rfl,q,so⟩:=i
  exact wpS_pure (fin t q so)
end
end S64
namespace S64
open PySem PyProof.Rows
def wr (a:Array Keyed)(base:Nat)(r:List Keyed)(n:Nat):Array Keyed:=(r.zipIdx n).foldl (fun a (p,j)=>a.setIfInBounds (base+j) p) a
theorem mergeAt'_eq (i:Nat):mergeAt' i=(do
 let s <- get
 let (some (sa,na,power),some (sb,nb,_)):=((pendingOf s)[i]?,(pendingOf s)[i+1]?)|unsupported "internal:list.sort.pending"
 set (setPending s (((pendingOf s).setIfInBounds i (sa,na+nb,power)).eraseIdxIfInBounds (i+1)))
 let some k <- gallop' false ( <- elem' (arrOf s) sb) (arrOf s) sa na 0|return false
 if na-k==0 then return true
 let some m <- gallop' true ( <- elem' (arrOf s) (sa+k+(na-k)-1)) (arrOf s) sb nb (nb-1)|return false
 if m==0 then return true
 let merged <- if na-k<=m then mergeLo' ((arrOf s).extract (sa+k) sb) ((arrOf s).extract sb (sb+m)) else mergeHi' ((arrOf s).extract (sa+k) sb) ((arrOf s).extract sb (sb+m))
 modify fun s=>setArr s (wr (arrOf s) (sa+k) merged.toList 0)
 return (failedOf ( <- get)).isNone):=rfl
theorem wr_list {base:Nat}:∀(r:List Keyed) (n:Nat) (a:Array Keyed),base+n+r.length<=a.size->(wr a base r n).toList=a.toList.take (base+n)++r++a.toList.drop (base+n+r.length)
 |[],n,a,h=>by simp[wr]
 |x::r,n,a,h=>by
  have ih:=wr_list (base:=base) r (n+1) (a.setIfInBounds (base+n) x) (by simp at h ⊢;omega)
  unfold wr at ih ⊢
  rw[List.zipIdx_cons,List.foldl_cons]
  simp only at ih ⊢
  simp only[List.length_cons]at h
  have hl:base+n<a.toList.length:=by simp;omega
  rw[ih,Array.toList_setIfInBounds,show base+(n+1)=base+n+1 by omega,List.take_set,List.drop_set_of_lt (by omega),List.take_succ_eq_append_getElem hl,List.set_append_right _ _ (by simp;omega)]
  simp only[List.length_take,Array.length_toList,List.length_cons]
  rw[show base+n-min (base+n) a.size=0 by omega,List.set_cons_zero,show base+n+1+r.length=base+n+(r.length+1) by omega]
  simp
section
variable {prog:Program} {w:World} {A:Around} {E:Value->Shared->Prop} {s:Shared} {a₀:Array Keyed} {κ:KeyKind} {kd:SortKind}
def seg (a:Array Keyed)(lo hi:Nat):List Keyed:=(a.toList.take hi).drop lo
theorem seg_len {a:Array Keyed}{lo hi:Nat}(h:hi<=a.size):(seg a lo hi).length=hi-lo:=by unfold seg;simp;omega
theorem seg_get {a:Array Keyed}{lo hi i:Nat}(h:i<(seg a lo hi).length)(hi':lo+i<a.size):(seg a lo hi)[i]=a[lo+i]:=by simp[seg]
theorem so_seg {a:Array Keyed}{lo hi:Nat}(h:hi<=a.size):SO κ a lo hi↔(seg a lo hi).Pairwise (LeK κ):=by
 rw[List.pairwise_iff_getElem]
 constructor
 ·intro g i j hi hj hij
  have hl:=seg_len (lo:=lo) h
  have:=g (lo+i) (lo+j) (by omega) (by omega) (by omega)
  rw[KK_at (by omega),KK_at (by omega)]at this
  rw[seg_get hi (by omega),seg_get hj (by omega)]
  exact this
 ·intro g i j hl hij hj
  rcases Nat.lt_or_ge i j with hlt|hge
  ·have hlen:=seg_len (lo:=lo) h
   have:=g (i-lo) (j-lo) (by omega) (by omega) (by omega)
   rw[seg_get (by omega) (by omega),seg_get (by omega) (by omega)]at this
   simp only[show lo+(i-lo)=i by omega,show lo+(j-lo)=j by omega]at this
   rw[KK_at (by omega),KK_at (by omega)]
   exact this
  ·obtain rfl:i=j:=by omega
   exact KeyOrd.kle_refl _
theorem mem_seg {a:Array Keyed}{lo hi:Nat}{x:Keyed}(h:x∈seg a lo hi):∃j,∃hj:j<a.size,lo<=j/\j<hi/\x=a[j]:=mem_td h
theorem seg_append (a:Array Keyed){l m h:Nat}(h1:l<=m)(h2:m<=h):seg a l h=seg a l m++seg a m h:=by
 unfold seg
 have e:a.toList.take h=a.toList.take m++(a.toList.take h).drop m:=by
  have:=List.take_append_drop m (a.toList.take h)
  rw[List.take_take,show min m h=m by omega]at this
  exact this.symm
 rw[e]
 rcases Nat.le_total m a.toList.length with hm|hm
 ·rw[List.drop_append_of_le_length (by rw[List.length_take];omega)]
  congr 1
  rw[<-e]
 ·rw[show (a.toList.take h).drop m=[] from List.drop_eq_nil_of_le (by rw[List.length_take];omega)]
  simp only[List.append_nil]
  rw[show List.drop m (a.toList.take m)=[] from List.drop_eq_nil_of_le (by rw[List.length_take];omega),List.append_nil]
theorem so_at {a:Array Keyed}{lo hi i j:Nat}(h:SO κ a lo hi)(h1:lo<=i)(h2:i<=j)(h3:j<hi)(hi':i<a.size)(hj:j<a.size):LeK κ a[i] a[j]:=by
 have:=h i j h1 h2 h3
 rw[KK_at hi',KK_at hj]at this
 exact this
theorem so_congr {xs ys:Array Keyed}{lo hi:Nat}(e:∀i,lo<=i->i<hi->ys[i]?=xs[i]?)(h:SO κ xs lo hi):SO κ ys lo hi:=fun i j h1 h2 h3=>by
 rw[KK_congr (e i h1 (by omega)),KK_congr (e j (by omega) h3)];exact h i j h1 h2 h3
theorem wr_facts {a:Array Keyed}{l e:Nat}{r:List Keyed}(hle:l<=e)(he:e<=a.size)(hp:r.Perm (seg a l e)):
  (wr a l r 0).Perm a/\Out l e a (wr a l r 0)/\seg (wr a l r 0) l e=r:=by
 have hl:r.length=e-l:=by rw[hp.length_eq,seg_len he]
 have hw:=wr_list (base:=l) r 0 a (by omega)
 rw[Nat.add_zero,show l+r.length=e by omega]at hw
 have h0:a.toList=a.toList.take l++seg a l e++a.toList.drop e:=by
  have h1:=List.take_append_drop e a.toList
  have h2:=List.take_append_drop l (a.toList.take e)
  rw[List.take_take,show min l e=l by omega]at h2
  rw[show seg a l e=(a.toList.take e).drop l from rfl,h2,h1]
 have hlt:(a.toList.take l).length=l:=by simp;omega
 refine⟨?_,fun i hi=>?_,?_⟩
 ·rw[Array.perm_iff_toList_perm,hw]
  conv=>rhs;rw[h0]
  exact List.Perm.append_right _ (List.Perm.append_left _ hp)
 ·rw[<-Array.getElem?_toList,<-Array.getElem?_toList,hw]
  rcases hi with hi|hi
  ·rw[List.append_assoc,List.getElem?_append_left (by omega),List.getElem?_take_of_lt hi]
  ·rw[List.getElem?_append_right (by rw[List.length_append];omega),List.length_append,hlt,List.getElem?_drop]
   congr 1;omega
 ·unfold seg
  rw[hw,List.append_assoc,<-List.append_assoc,List.take_append_of_le_length (by rw[List.length_append];omega),List.take_of_length_le (by rw[List.length_append];omega),List.drop_append_of_le_length (by omega),List.drop_eq_nil_of_le (by omega),List.nil_append]
theorem ext_seg (a:Array Keyed)(i j:Nat):(a.extract i j).toList=seg a i j:=by rw[ext_list,seg,List.drop_take]
theorem wp_set {st st':SortSt}{Q:PUnit->SortSt->Prop}(h:Q ⟨⟩ st'):wpS (model prog w) A E s (set st':StateT SortSt Sem PUnit) Q st:=wpS_modify (f:=fun _=>st') h
theorem wp_mergeAt {st:SortSt}{i sa na pw sb nb q:Nat}{Q:Bool->SortSt->Prop}(hO:LtOk kd κ a₀ prog w A E s)(hB:SB kd a₀ st)(e1:(pendingOf st)[i]?=some (sa,na,pw))(e2:(pendingOf st)[i+1]?=some (sb,nb,q))(hsb:sb=sa+na)(hna:1<=na)(hnb:1<=nb)(hz:sb+nb<=a₀.size)
  (s1:SO κ (arrOf st) sa sb) (s2:SO κ (arrOf st) sb (sb+nb))
  (h:∀st',SB kd a₀ st'->pendingOf st'=((pendingOf st).setIfInBounds i (sa,na+nb,pw)).eraseIdxIfInBounds (i+1)->Out sa (sb+nb) (arrOf st) (arrOf st')->SO κ (arrOf st') sa (sb+nb)->Q true st'):
  wpS (model prog w) A E s (mergeAt' i) Q st:=by
 have hsz:=hB.size
 rw[mergeAt'_eq]
 refine wpS_bind (wpS_get ?_)
 rw[e1,e2]
 dsimp only
 refine wpS_bind (wp_set ?_)
 have hB':SB kd a₀ (setPending st (((pendingOf st).setIfInBounds i (sa,na+nb,pw)).eraseIdxIfInBounds (i+1))):=⟨hB.perm,hB.kind,hB.failed⟩
 have hmem:∀x∈(arrOf st).toList,x∈a₀.toList:=fun x hx=>hB.mem hx
 refine wpS_bind (wp_elem (show sb<(arrOf st).size by omega) (wpS_bind (wp_gallR hO hB'.kind (hmem _ (by simp)) hmem (fun i j hi hj g1 g2 g3=>so_at s1 g1 g2 (by omega) hi hj) (by omega) (by omega) (fun k hkn g1 g2=>?_))))
 dsimp only
 by_cases hk0:na-k=0
 ·rw[if_pos (by simpa using hk0)]
  refine wpS_pure (h _ hB' rfl (Out.refl _ _ _) ?_)
  intro i j hl hij hj
  show κ.kle (KK κ (arrOf st) i) (KK κ (arrOf st) j)
  rcases Nat.lt_or_ge j sb with c|c
  ·exact s1 i j hl hij c
  ·rcases Nat.lt_or_ge i sb with c2|c2
   ·have a1:=g1 (i-sa) (by omega) (by omega)
    simp only[show sa+(i-sa)=i by omega]at a1
    have a2:=s2 sb j (Nat.le_refl _) c hj
    rw[KK_at (show sb<(arrOf st).size by omega)]at a2
    rw[KK_at (show i<(arrOf st).size by omega)]
    exact KeyOrd.kle_trans a1 a2
   ·exact s2 i j c2 hij hj
 ·rw[if_neg (by simpa using hk0)]
  have el:sa+k+(na-k)-1=sb-1:=by omega
  rw[el]
  refine wpS_bind (wp_elem (show sb-1<(arrOf st).size by omega) (wpS_bind (wp_gallL hO hB'.kind (hmem _ (by simp)) hmem (fun i j hi hj g1 g2 g3=>so_at s2 g1 g2 (by omega) hi hj) (by omega) (by omega) (fun m hmn g3 g4=>?_))))
  dsimp only
  by_cases hm0:m=0
  ·rw[if_pos (by simpa using hm0)]
   refine wpS_pure (h _ hB' rfl (Out.refl _ _ _) ?_)
   intro i j hl hij hj
   show κ.kle (KK κ (arrOf st) i) (KK κ (arrOf st) j)
   rcases Nat.lt_or_ge j sb with c|c
   ·exact s1 i j hl hij c
   ·rcases Nat.lt_or_ge i sb with c2|c2
    ·have a1:=g4 (j-sb) (by omega) (by omega) (by omega)
     simp only[show sb+(j-sb)=j by omega]at a1
     have a2:=s1 i (sb-1) hl (by omega) (by omega)
     rw[KK_at (show sb-1<(arrOf st).size by omega)]at a2
     rw[KK_at (show j<(arrOf st).size by omega)]
     exact KeyOrd.kle_trans a2 a1
    ·exact s2 i j c2 hij hj
  ·rw[if_neg (by simpa using hm0)]
   have z1:((arrOf st).extract (sa+k) sb).size=sb-(sa+k):=by simp;omega
   have z2:((arrOf st).extract sb (sb+m)).size=m:=by simp;omega
   have hM:MP a₀ κ ((arrOf st).extract (sa+k) sb) ((arrOf st).extract sb (sb+m)):=by
    refine {hA:=fun x hx=>?_,hB:=fun x hx=>?_,sA:=?_,sB:=?_,ha:=by omega,hb:=by omega,hf:=fun y hy=>?_,hl:=fun x hx=>?_}
    ·rw[ext_seg]at hx;obtain⟨j,hj,_,_,rfl⟩:=mem_seg hx;exact hmem _ (by simp)
    ·rw[ext_seg]at hx;obtain⟨j,hj,_,_,rfl⟩:=mem_seg hx;exact hmem _ (by simp)
    ·rw[ext_seg];exact (so_seg (by omega)).mp (fun i j c1 c2 c3=>s1 i j (by omega) c2 c3)
    ·rw[ext_seg];exact (so_seg (by omega)).mp (fun i j c1 c2 c3=>s2 i j c1 c2 (by omega))
    ·rw[ext_seg]at hy;obtain⟨j,hj,c1,c2,rfl⟩:=mem_seg hy
     have a1:=g2 (j-sa) (by omega) (by omega) (by omega)
     simp only[show sa+(j-sa)=j by omega]at a1
     simp only[Array.getElem_extract,Nat.add_zero]
     exact KeyOrd.kle_of_klt a1
    ·rw[ext_seg]at hx;obtain⟨j,hj,c1,c2,rfl⟩:=mem_seg hx
     have a1:=g3 (j-sb) (by omega) (by omega)
     simp only[show sb+(j-sb)=j by omega]at a1
     simp only[Array.getElem_extract,z1,show sa+k+(sb-(sa+k)-1)=sb-1 by omega]
     exact KeyOrd.kle_of_klt a1
   have hend:∀(r:Array Keyed) (st':SortSt),SG (setPending st (((pendingOf st).setIfInBounds i (sa,na+nb,pw)).eraseIdxIfInBounds (i+1))) st'->Mgd (LeK κ) ((arrOf st).extract (sa+k) sb).toList ((arrOf st).extract sb (sb+m)).toList r.toList ->
     wpS (model prog w) A E s (do
      modify fun s=>setArr s (wr (arrOf s) (sa+k) r.toList 0)
      return (failedOf ( <- get)).isNone:StateT SortSt Sem Bool) Q st':=by
    intro r st' hG hR
    refine wpS_bind (wpS_modify (wpS_bind (wpS_get (wpS_pure ?_))))
    have ea:arrOf st'=arrOf st:=hG.arr
    have hf:failedOf (setArr st' (wr (arrOf st') (sa+k) r.toList 0))=none:=hG.fa.trans hB.failed
    rw[hf]
    rw[ext_seg,ext_seg]at hR
    have hp:r.toList.Perm (seg (arrOf st) (sa+k) (sb+m)):=by rw[seg_append _ (show sa+k<=sb by omega) (show sb<=sb+m by omega)];exact hR.1
    obtain⟨w1,w2,w3⟩:=wr_facts (by omega) (by omega) hp
    have hsz2:(wr (arrOf st) (sa+k) r.toList 0).size=(arrOf st).size:=w1.size_eq
    have earr:arrOf (setArr st' (wr (arrOf st') (sa+k) r.toList 0))=wr (arrOf st) (sa+k) r.toList 0:=by rw[<-ea]
    refine h _ ⟨?_,hG.kd.trans hB.kind,hf⟩ hG.pe ?_ ?_
    ·rw[earr];exact w1.trans hB.perm
    ·rw[earr];exact fun i hi=>w2 i (by omega)
    ·rw[earr,so_seg (by omega),seg_append _ (show sa<=sa+k by omega) (show sa+k<=sb+nb by omega),seg_append _ (show sa+k<=sb+m by omega) (show sb+m<=sb+nb by omega),w3]
     have f1:∀x∈seg (wr (arrOf st) (sa+k) r.toList 0) sa (sa+k),∃j,∃hj:j<(arrOf st).size,sa<=j/\j<sa+k/\x=(arrOf st)[j]:=fun x hx=>by
      obtain⟨j,hj,c1,c2,rfl⟩:=mem_seg hx
      refine⟨j,by omega,c1,c2,?_⟩
      have:=w2 j (by omega)
      rw[Array.getElem?_eq_getElem hj,Array.getElem?_eq_getElem (show j<(arrOf st).size by omega)]at this
      exact Option.some.inj this
     have f3:∀x∈seg (wr (arrOf st) (sa+k) r.toList 0) (sb+m) (sb+nb),∃j,∃hj:j<(arrOf st).size,sb+m<=j/\j<sb+nb/\x=(arrOf st)[j]:=fun x hx=>by
      obtain⟨j,hj,c1,c2,rfl⟩:=mem_seg hx
      refine⟨j,by omega,c1,c2,?_⟩
      have:=w2 j (by omega)
      rw[Array.getElem?_eq_getElem hj,Array.getElem?_eq_getElem (show j<(arrOf st).size by omega)]at this
      exact Option.some.inj this
     have f2:∀x∈r.toList,∃j,∃hj:j<(arrOf st).size,sa+k<=j/\j<sb+m/\x=(arrOf st)[j]:=fun x hx=>by
      obtain⟨j,hj,c1,c2,rfl⟩:=mem_seg (hp.mem_iff.mp hx)
      exact⟨j,hj,c1,c2,rfl⟩
     have low:∀j (hj:j<(arrOf st).size),sa<=j->j<sa+k->LeK κ (arrOf st)[j] ((arrOf st)[sb]'(by omega)):=fun j hj c1 c2=>by
      have a1:=g1 (j-sa) (by omega) (by omega)
      simp only[show sa+(j-sa)=j by omega]at a1
      exact a1
     have high:∀j (hj:j<(arrOf st).size),sb+m<=j->j<sb+nb->LeK κ ((arrOf st)[sb-1]'(by omega)) (arrOf st)[j]:=fun j hj c1 c2=>by
      have a1:=g4 (j-sb) (by omega) (by omega) (by omega)
      simp only[show sb+(j-sb)=j by omega]at a1
      exact a1
     refine List.pairwise_append.mpr ⟨?_,List.pairwise_append.mpr ⟨hR.2,?_,fun x hx y hy=>?_⟩,fun x hx y hy=>?_⟩
     ·exact (so_seg (by omega)).mp (so_congr (fun i c1 c2=>w2 i (by omega)) (fun i j c1 c2 c3=>s1 i j c1 c2 (by omega)))
     ·exact (so_seg (by omega)).mp (so_congr (fun i c1 c2=>w2 i (by omega)) (fun i j c1 c2 c3=>s2 i j (by omega) c2 (by omega)))
     ·obtain⟨j,hj,c1,c2,rfl⟩:=f2 x hx
      obtain⟨l,hl,d1,d2,rfl⟩:=f3 y hy
      rcases Nat.lt_or_ge j sb with c|c
      ·exact LeK.trans (so_at s1 (by omega) (by omega) (by omega) hj (by omega)) (high l hl d1 d2)
      ·exact so_at s2 c (by omega) d2 hj hl
     ·obtain⟨j,hj,c1,c2,rfl⟩:=f1 x hx
      rcases List.mem_append.mp hy with hy|hy
      ·obtain⟨l,hl,d1,d2,rfl⟩:=f2 y hy
       rcases Nat.lt_or_ge l sb with c|c
       ·exact so_at s1 c1 (by omega) c hj hl
       ·exact LeK.trans (low j hj c1 c2) (so_at s2 (Nat.le_refl _) c (by omega) (by omega) hl)
      ·obtain⟨l,hl,d1,d2,rfl⟩:=f3 y hy
       exact LeK.trans (low j hj c1 c2) (so_at s2 (Nat.le_refl _) (by omega) d2 (by omega) hl)
   by_cases hc:na-k<=m
   ·rw[if_pos hc]
    exact wpS_bind (wp_mergeLo hO hM hB'.kind hend)
   ·rw[if_neg hc]
    exact wpS_bind (wp_mergeHi hO hM hB'.kind hend)
end
end S64
namespace S64
open PySem PyProof.Rows
abbrev Rn:=Nat×Nat×Nat
def JP (lo n:Nat):StateT SortSt Sem (ForInStep (Option Unit×Nat)):=do
 modify fun s=>setPending s ((pendingOf s).push (lo,n,0))
 pure (.yield (none,lo+n))
def JM (pw:Nat):StateT SortSt Sem (ForInStep (Option Unit×Unit)):=do
 let g <- get
 match if (pendingOf g).size > 1 then (pendingOf g)[(pendingOf g).size-2]? else none with
 |some (_,_,older)=>if older<=pw then pure (.done (none,())) else do
   let b <- mergeAt' ((pendingOf g).size-2)
   if (!b)=true then pure (.done (some (),())) else pure (.yield (none,()))
 |_=>pure (.done (none,()))
def JB (size lo n:Nat):StateT SortSt Sem (ForInStep (Option Unit×Nat)):=do
 let g <- get
 match (pendingOf g).back? with
 |some (s1,n1,_)=>do
  let c <- forIn [0:size] ((none,()):Option Unit×Unit) fun _ _=>JM (power' size (2*s1+n1) (2*s1+n1+n1+n) size)
  match c.1 with
  |some r=>pure (.done (some r,lo))
  |none=>do
   modify fun s=>setPending s ((pendingOf s).modify ((pendingOf s).size-1) fun (st,len,_)=>(st,len,power' size (2*s1+n1) (2*s1+n1+n1+n) size))
   JP lo n
 |_=>JP lo n
def RN (size minrun lo n:Nat):StateT SortSt Sem (ForInStep (Option Unit×Nat)):=
 if n<minrun then (do
  liftM (rule "list.sort.binary-insertion")
  let b <- binarySort' lo (min (size-lo) minrun) n
  if (!b)=true then pure (.done (some (),lo)) else JB size lo (min (size-lo) minrun))
 else JB size lo n
def RB (size minrun:Nat)(c:Option Unit×Nat):StateT SortSt Sem (ForInStep (Option Unit×Nat)):=
 if c.2 >= size then pure (.done (none,c.2)) else do
  let x <- countRun' c.2 (size-c.2)
  match x with
  |some n=>RN size minrun c.2 n
  |_=>pure (.done (some (),c.2))
def FI (p:Array Rn):Nat:=if Option.any (fun x=>decide (x<p[p.size-2+1]?.elim 0 fun x=>x.snd.fst)) (if p.size-2 > 0 then Option.map (fun x=>x.snd.fst) p[p.size-2-1]? else none)=true then p.size-2-1 else p.size-2
def FB:StateT SortSt Sem (ForInStep (Option Unit×Unit)):=do
 let g <- get
 if (pendingOf g).size<=1 then pure (.done (none,()))
 else do
  let b <- mergeAt' (FI (pendingOf g))
  if (!b)=true then pure (.done (some (),())) else pure (.yield (none,()))
theorem sortRuns'_eq2:sortRuns'=(do
 let g <- get
 let c <- forIn [0:(arrOf g).size] ((none,0):Option Unit×Nat) fun _ c=>RB (arrOf g).size (minRun' (arrOf g).size (arrOf g).size 0) c
 match c.1 with
 |some r=>pure r
 |none=>do
  let c <- forIn [0:(arrOf g).size] ((none,()):Option Unit×Unit) fun _ _=>FB
  match c.1 with
  |some r=>pure r
  |none=>pure ()):=by
 rw[sortRuns'_eq]
 refine congrArg (bind _) (funext fun g=>?_)
 refine congr (congrArg bind (congrArg (forIn _ _) (funext fun _=>funext fun c=>?_))) (funext fun c=>?_)
 ·unfold RB
  refine congrArg (ite _ _) (congrArg (bind _) (funext fun x=>?_))
  cases x with
  |none=>rfl
  |some n=>
   dsimp only
   unfold RN
   by_cases hn:n<minRun' (arrOf g).size (arrOf g).size 0
   ·rw[if_pos hn,if_pos hn]
    refine congrArg (bind _) (funext fun _=>congrArg (bind _) (funext fun b=>congrArg (ite _ _) ?_))
    unfold JB
    refine congrArg (bind _) (funext fun g'=>?_)
    try dsimp only
    rcases (pendingOf g').back? with _|⟨s1,n1,q⟩
    ·rfl
    ·try dsimp only
     refine congr (congrArg bind (congrArg (forIn _ _) (funext fun _=>funext fun _=>?_))) (funext fun c=>?_)
     ·unfold JM
      refine congrArg (bind _) (funext fun g2=>?_)
      try dsimp only
      rcases (if (pendingOf g2).size > 1 then (pendingOf g2)[(pendingOf g2).size-2]? else none) with _|⟨a,b,c⟩
      ·rfl
      ·rfl
     ·obtain⟨r,u⟩:=c
      cases r<;>rfl
   ·rw[if_neg hn,if_neg hn]
    unfold JB
    refine congrArg (bind _) (funext fun g'=>?_)
    try dsimp only
    rcases (pendingOf g').back? with _|⟨s1,n1,q⟩
    ·rfl
    ·try dsimp only
     refine congr (congrArg bind (congrArg (forIn _ _) (funext fun _=>funext fun _=>?_))) (funext fun c=>?_)
     ·unfold JM
      refine congrArg (bind _) (funext fun g2=>?_)
      try dsimp only
      rcases (if (pendingOf g2).size > 1 then (pendingOf g2)[(pendingOf g2).size-2]? else none) with _|⟨a,b,c⟩
      ·rfl
      ·rfl
     ·obtain⟨r,u⟩:=c
      cases r<;>rfl
 ·obtain⟨r,lo⟩:=c
  cases r with
  |some r=>rfl
  |none=>
   dsimp only
   refine congr (congrArg bind (congrArg (forIn _ _) (funext fun _=>funext fun c=>?_))) (funext fun c=>?_)
   ·rfl
   ·obtain⟨r,u⟩:=c
    cases r<;>rfl
section
variable {prog:Program} {w:World} {A:Around} {E:Value->Shared->Prop} {s:Shared} {a₀:Array Keyed} {κ:KeyKind} {kd:SortKind}
def Ch (κ:KeyKind)(xs:Array Keyed):List Rn->Nat->Nat->Prop
 |[],a,b=>a=b
 |p::r,a,b=>p.1=a/\1<=p.2.1/\SO κ xs a (a+p.2.1)/\Ch κ xs r (a+p.2.1) b
theorem Ch.le {xs:Array Keyed}:∀{l:List Rn} {a b:Nat},Ch κ xs l a b->a+l.length<=b
 |[],a,b,h=>Nat.le_of_eq h
 |p::r,a,b,h=>by have:=Ch.le h.2.2.2;have:=h.2.1;simp only[List.length_cons];omega
theorem Ch.append {xs:Array Keyed}:∀{l l':List Rn} {a b:Nat},Ch κ xs (l++l') a b ↔ ∃c,Ch κ xs l a c/\Ch κ xs l' c b
 |[],l',a,b=>⟨fun h=>⟨a,rfl,h⟩,fun ⟨c,e,h⟩=>by cases e;exact h⟩
 |p::r,l',a,b=>⟨fun ⟨h1,h2,h3,h4⟩=>by obtain⟨c,g1,g2⟩:=Ch.append.mp h4;exact⟨c,⟨h1,h2,h3,g1⟩,g2⟩,fun ⟨c,⟨h1,h2,h3,h4⟩,h5⟩=>⟨h1,h2,h3,Ch.append.mpr ⟨c,h4,h5⟩⟩⟩
theorem Ch.congr {xs ys:Array Keyed}:∀{l:List Rn} {a b:Nat},(∀i,a<=i->i<b->ys[i]?=xs[i]?)->Ch κ xs l a b->Ch κ ys l a b
 |[],a,b,_,h=>h
 |p::r,a,b,e,⟨h1,h2,h3,h4⟩=>⟨h1,h2,so_congr (fun i g1 g2=>e i g1 (by have:=h4.le;omega)) h3,h4.congr (fun i g1 g2=>e i (by omega) g2)⟩
theorem Ch.same {xs:Array Keyed}:∀{l l':List Rn} {a b:Nat},l.map (fun p=>(p.1,p.2.1))=l'.map (fun p=>(p.1,p.2.1))->Ch κ xs l a b->Ch κ xs l' a b
 |[],[],_,_,_,h=>h
 |[],_::_,_,_,e,_=>by cases e
 |_::_,[],_,_,e,_=>by cases e
 |p::r,p'::r',a,b,e,⟨h1,h2,h3,h4⟩=>by
  simp only[List.map_cons,List.cons.injEq,Prod.mk.injEq]at e
  obtain⟨⟨e1,e2⟩,e3⟩:=e
  refine⟨e1 ▸ h1,e2 ▸ h2,e2 ▸ h3,?_⟩
  rw[<-e2]
  exact h4.same e3
theorem wp_mergeC {st:SortSt}{i m:Nat}{Q:Bool->SortSt->Prop}(hO:LtOk kd κ a₀ prog w A E s)(hB:SB kd a₀ st)(hC:Ch κ (arrOf st) (pendingOf st).toList 0 m)(hm:m<=a₀.size)(hi:i+1<(pendingOf st).size)
  (h:∀st',SB kd a₀ st'->Ch κ (arrOf st') (pendingOf st').toList 0 m->(pendingOf st').size+1=(pendingOf st).size->Out 0 m (arrOf st) (arrOf st')->Q true st'):
  wpS (model prog w) A E s (mergeAt' i) Q st:=by
 have hl:(pendingOf st).toList.length=(pendingOf st).size:=Array.length_toList
 have e0:(pendingOf st).toList=(pendingOf st).toList.take i++(pendingOf st)[i]::(pendingOf st)[i+1]::(pendingOf st).toList.drop (i+2):=by
  have h1:=(List.take_append_drop i (pendingOf st).toList).symm
  rw[List.drop_eq_getElem_cons (by omega),List.drop_eq_getElem_cons (by omega)]at h1
  exact h1
 obtain⟨l1,hl1⟩:∃l,l=(pendingOf st).toList.take i:=⟨_,rfl⟩
 obtain⟨l2,hl2⟩:∃l,l=(pendingOf st).toList.drop (i+2):=⟨_,rfl⟩
 obtain⟨⟨sa,na,pw⟩,hx⟩:∃p,p=(pendingOf st)[i]:=⟨_,rfl⟩
 obtain⟨⟨sb,nb,q⟩,hy⟩:∃p,p=(pendingOf st)[i+1]:=⟨_,rfl⟩
 rw[<-hl1,<-hl2,<-hx,<-hy]at e0
 have hln:l1.length=i:=by rw[hl1,List.length_take];omega
 rw[e0]at hC
 obtain⟨c,c1,c2,c3,c4,c5,c6,c7,c8⟩:=Ch.append.mp hC
 dsimp only at c2 c3 c4 c5 c6 c7 c8
 subst c2
 subst c5
 have hle:=c8.le
 have hle1:=c1.le
 refine wp_mergeAt hO hB (by rw[hx];exact Array.getElem?_eq_getElem (by omega)) (by rw[hy];exact Array.getElem?_eq_getElem hi) rfl c3 c6 (by omega) c4 c7 (fun st' g1 g2 g3 g4=>?_)
 have e1:(pendingOf st').toList=l1++(sa,na+nb,pw)::l2:=by
  rw[g2,Array.toList_eraseIdxIfInBounds,Array.toList_setIfInBounds,e0,List.set_append_right _ _ (by omega),hln,Nat.sub_self,List.set_cons_zero,List.eraseIdx_append_of_length_le (by omega),hln,show i+1-i=1 by omega]
  rfl
 refine h st' g1 ?_ ?_ (fun i hi=>g3 i (by omega))
 ·rw[e1]
  refine Ch.append.mpr ⟨sa,c1.congr (fun i _ h2=>g3 i (by omega)),rfl,?_,?_,?_⟩
  ·show 1<=na+nb
   omega
  ·rw[show sa+(na+nb)=sa+na+nb by omega];exact g4
  ·show Ch κ (arrOf st') l2 (sa+(na+nb)) m
   rw[show sa+(na+nb)=sa+na+nb by omega]
   exact c8.congr (fun i h1 _=>g3 i (by omega))
 ·have l1':(pendingOf st').toList.length=(l1++(sa,na+nb,pw)::l2).length:=by rw[e1]
  have l2':(pendingOf st).toList.length=(l1++(sa,na,pw)::(sa+na,nb,q)::l2).length:=by rw[e0]
  simp only[List.length_append,List.length_cons,Array.length_toList]at l1' l2'
  omega
theorem wp_JP {st:SortSt}{lo n:Nat}{Q:ForInStep (Option Unit×Nat)->SortSt->Prop}(hB:SB kd a₀ st)(hC:Ch κ (arrOf st) (pendingOf st).toList 0 lo)(hn:1<=n)(hs:SO κ (arrOf st) lo (lo+n))
  (h:∀st',SB kd a₀ st'->Ch κ (arrOf st') (pendingOf st').toList 0 (lo+n)->Q (.yield (none,lo+n)) st'):wpS (model prog w) A E s (JP lo n) Q st:=by
 unfold JP
 refine wpS_bind (wpS_modify (wpS_pure (h _ ⟨hB.perm,hB.kind,hB.failed⟩ ?_)))
 show Ch κ (arrOf st) ((pendingOf st).push (lo,n,0)).toList 0 (lo+n)
 rw[Array.toList_push]
 exact Ch.append.mpr ⟨lo,hC,rfl,hn,hs,rfl⟩
theorem wp_JB {st:SortSt}{lo n:Nat}{Q:ForInStep (Option Unit×Nat)->SortSt->Prop}(hO:LtOk kd κ a₀ prog w A E s)(hB:SB kd a₀ st)(hC:Ch κ (arrOf st) (pendingOf st).toList 0 lo)(hn:1<=n)(hz:lo+n<=a₀.size)(hs:SO κ (arrOf st) lo (lo+n))
  (h:∀st',SB kd a₀ st'->Ch κ (arrOf st') (pendingOf st').toList 0 (lo+n)->Q (.yield (none,lo+n)) st'):wpS (model prog w) A E s (JB a₀.size lo n) Q st:=by
 unfold JB
 refine wpS_bind (wpS_get ?_)
 rcases (pendingOf st).back? with _|⟨s1,n1,q⟩
 ·exact wp_JP hB hC hn hs h
 ·dsimp only
  generalize power' a₀.size (2*s1+n1) (2*s1+n1+n1+n) a₀.size=pw
  refine wpS_bind (wpS_mono (wpS_forRange (I:=fun _ c st'=>c=(none,())/\SB kd a₀ st'/\Ch κ (arrOf st') (pendingOf st').toList 0 lo/\Out 0 lo (arrOf st) (arrOf st'))
   (Q:=fun c st'=>c=(none,())/\SB kd a₀ st'/\Ch κ (arrOf st') (pendingOf st').toList 0 lo/\Out 0 lo (arrOf st) (arrOf st')) ?step (fun _ _ hh=>hh) ⟨rfl,hB,hC,Out.refl _ _ _⟩) ?post)
  case step=>
   rintro x c st' _ _ ⟨rfl,g1,g2,g3⟩
   unfold JM
   refine wpS_bind (wpS_get ?_)
   rcases hh:(if (pendingOf st').size > 1 then (pendingOf st')[(pendingOf st').size-2]? else none) with _|⟨a,b,older⟩
   ·exact wpS_pure ⟨rfl,g1,g2,g3⟩
   ·dsimp only
    have hgt:(pendingOf st').size > 1:=by
     by_cases hq:(pendingOf st').size > 1
     ·exact hq
     ·rw[if_neg hq]at hh;cases hh
    split
    ·exact wpS_pure ⟨rfl,g1,g2,g3⟩
    ·refine wpS_bind (wp_mergeC hO g1 g2 (by omega) (by omega) (fun st2 k1 k2 k3 k4=>?_))
     rw[if_neg (by simp)]
     exact wpS_pure ⟨rfl,k1,k2,g3.trans k4⟩
  case post=>
   rintro c st' ⟨rfl,g1,g2,g3⟩
   dsimp only
   refine wpS_bind (wpS_modify ?_)
   refine wp_JP ⟨g1.perm,g1.kind,g1.failed⟩ ?_ hn ?_ h
   ·refine Ch.same ?_ g2
    show _=((pendingOf st').modify _ _).toList.map _
    rw[Array.toList_modify]
    apply List.ext_getElem?
    intro i
    rw[List.getElem?_map,List.getElem?_map,List.getElem?_modify]
    by_cases hi:(pendingOf st').size-1=i
    ·simp only[if_pos hi];cases (pendingOf st').toList[i]?<;>rfl
    ·simp only[if_neg hi];cases (pendingOf st').toList[i]?<;>rfl
   ·exact so_congr (fun i h1 h2=>g3 i (by omega)) hs
theorem wp_sortRuns {st:SortSt}{Q:Unit->SortSt->Prop}(hO:LtOk kd κ a₀ prog w A E s)(hB:SB kd a₀ st)(hp:pendingOf st = #[])
  (h:∀st',SB kd a₀ st'->SO κ (arrOf st') 0 a₀.size->Q () st'):wpS (model prog w) A E s sortRuns' Q st:=by
 rw[sortRuns'_eq2]
 refine wpS_bind (wpS_get ?_)
 rw[hB.size]
 generalize minRun' a₀.size a₀.size 0=mr
 refine wpS_bind (wpS_mono (wpS_forRange (I:=fun x c st'=>SB kd a₀ st'/\∃lo,c=(none,lo)/\lo<=a₀.size/\(x<=lo\/a₀.size<=lo)/\Ch κ (arrOf st') (pendingOf st').toList 0 lo)
  (Q:=fun c st'=>SB kd a₀ st'/\c=(none,a₀.size)/\Ch κ (arrOf st') (pendingOf st').toList 0 a₀.size) ?step ?fin ⟨hB,0,rfl,by omega,by omega,by rw[hp];rfl⟩) ?post)
 case fin=>
  rintro c st' ⟨g1,lo,rfl,g2,g3,g4⟩
  obtain rfl:lo=a₀.size:=by omega
  exact⟨g1,rfl,g4⟩
 case step=>
  rintro x c st' _ hx ⟨g1,lo,rfl,g2,g3,g4⟩
  unfold RB
  dsimp only
  by_cases hge:lo >= a₀.size
  ·rw[if_pos hge]
   obtain rfl:lo=a₀.size:=by omega
   exact wpS_pure ⟨g1,rfl,g4⟩
  ·rw[if_neg hge]
   have hfin:∀n,1<=n->lo+n<=a₀.size->∀st2,SB kd a₀ st2->Ch κ (arrOf st2) (pendingOf st2).toList 0 (lo+n)->SB kd a₀ st2/\∃lo',((none,lo+n):Option Unit×Nat)=(none,lo')/\lo'<=a₀.size/\(x+1<=lo'\/a₀.size<=lo')/\Ch κ (arrOf st2) (pendingOf st2).toList 0 lo' :=
    fun n h1 h2 st2 k1 k2=>⟨k1,lo+n,rfl,h2,by omega,k2⟩
   refine wpS_bind (wp_countRun hO (by omega) (by omega) g1 (fun m st2 k1 k2 k3 k4=>?_))
   have k5:Ch κ (arrOf st2) (pendingOf st2).toList 0 lo:=by rw[k1.pe];exact g4.congr (fun i _ h2=>k1.out i (.inl h2))
   dsimp only
   unfold RN
   by_cases hm:m<mr
   ·rw[if_pos hm]
    refine wpS_bind (wp_rule (wpS_bind (wp_binarySort hO (by omega) (by omega) k1.b k4 (fun st3 q1 q2=>?_))))
    rw[if_neg (by simp)]
    have q3:Ch κ (arrOf st3) (pendingOf st3).toList 0 lo:=by rw[q1.pe];exact k5.congr (fun i _ h2=>q1.out i (.inl h2))
    exact wp_JB hO q1.b q3 (by omega) (by omega) q2 (hfin _ (by omega) (by omega))
   ·rw[if_neg hm]
    exact wp_JB hO k1.b k5 k2 (by omega) k4 (hfin _ k2 (by omega))
 case post=>
  rintro c st' ⟨g1,rfl,g4⟩
  dsimp only
  have hle:=g4.le
  refine wpS_bind (wpS_mono (wpS_forRange (I:=fun x c st2=>c=(none,())/\SB kd a₀ st2/\Ch κ (arrOf st2) (pendingOf st2).toList 0 a₀.size/\(pendingOf st2).size+x<=a₀.size)
   (Q:=fun c st2=>c=(none,())/\SB kd a₀ st2/\Ch κ (arrOf st2) (pendingOf st2).toList 0 a₀.size/\(pendingOf st2).size<=1) ?step2 ?fin2 ⟨rfl,g1,g4,by simpa using hle⟩) ?post2)
  case fin2=>
   rintro c st2 ⟨rfl,k1,k2,k3⟩
   exact⟨rfl,k1,k2,by omega⟩
  case step2=>
   rintro x c st2 _ hx ⟨rfl,k1,k2,k3⟩
   unfold FB
   refine wpS_bind (wpS_get ?_)
   by_cases h1:(pendingOf st2).size<=1
   ·rw[if_pos h1]
    exact wpS_pure ⟨rfl,k1,k2,h1⟩
   ·rw[if_neg h1]
    have hFI:FI (pendingOf st2)+1<(pendingOf st2).size:=by
     unfold FI
     repeat' split
     all_goals omega
    refine wpS_bind (wp_mergeC hO k1 k2 (Nat.le_refl _) hFI (fun st3 q1 q2 q3 q4=>?_))
    rw[if_neg (by simp)]
    exact wpS_pure ⟨rfl,q1,q2,by omega⟩
  case post2=>
   rintro c st2 ⟨rfl,k1,k2,k3⟩
   refine wpS_pure (h st2 k1 ?_)
   have hl:(pendingOf st2).toList.length<=1:=by simpa using k3
   match hp2:(pendingOf st2).toList,hl with
   |[],_=>rw[hp2]at k2;intro i j h1 h2 h3;rw[<-show 0=a₀.size from k2]at h3;omega
   |[p],_=>
    rw[hp2]at k2
    obtain⟨c1,c2,c3,c4⟩:=k2
    have e:0+p.2.1=a₀.size:=c4
    rw[e]at c3
    exact c3
end
end S64
namespace HT
theorem lexLt_irr2:∀{xs:List Int},HT.lexLt xs xs=false
 |[]=>rfl
 |x::xs=>by rw[HT.lexLt_cons,if_pos rfl];exact lexLt_irr2
theorem lexLt_trans:∀{xs ys zs:List Int},lexLt xs ys=true->lexLt ys zs=true->lexLt xs zs=true
 |[],[],_,h,_=>by cases h
 |_::_,[],_,h,_=>by cases h
 |_,_::_,[],_,h=>by cases h
 |[],_::_,_::_,_,_=>rfl
 |x::xs,y::ys,z::zs,h,g=>by
  rw[lexLt_cons]at h g ⊢
  by_cases e1:x=y
  ·rw[if_pos e1]at h
   by_cases e2:y=z
   ·rw[if_pos e2]at g;rw[if_pos (e1.trans e2)];exact lexLt_trans h g
   ·rw[if_neg e2]at g;rw[if_neg (e1 ▸ e2),e1];exact g
  ·rw[if_neg e1]at h
   by_cases e2:y=z
   ·rw[if_neg (e2 ▸ e1),<-e2];exact h
   ·rw[if_neg e2]at g
    have:=of_decide_eq_true h
    have:=of_decide_eq_true g
    rw[if_neg (by omega)]
    exact decide_eq_true (by omega)
theorem lexLt_total:∀{xs ys:List Int},lexLt xs ys=false->lexLt ys xs=false->xs=ys
 |[],[],_,_=>rfl
 |[],_::_,h,_=>by cases h
 |_::_,[],_,h=>by cases h
 |x::xs,y::ys,h,g=>by
  rw[lexLt_cons]at h g
  by_cases e:x=y
  ·rw[if_pos e]at h;rw[if_pos e.symm]at g;rw[e,lexLt_total h g]
  ·rw[if_neg e]at h;rw[if_neg (Ne.symm e)]at g
   have:=of_decide_eq_false h
   have:=of_decide_eq_false g
   omega
end HT
namespace S64
open PySem PyProof.Rows L2
def pblt (x y:Int×List Int):Bool:=if x.1=y.1 then HT.lexLt x.2 y.2 else decide (x.1<y.1)
theorem pblt_trans {a b c:Int×List Int}(h:pblt a b=true)(g:pblt b c=true):pblt a c=true:=by
 unfold pblt at *
 by_cases e1:a.1=b.1
 ·rw[if_pos e1]at h
  by_cases e2:b.1=c.1
  ·rw[if_pos e2]at g;rw[if_pos (e1.trans e2)];exact HT.lexLt_trans h g
  ·rw[if_neg e2]at g;rw[if_neg (e1 ▸ e2),e1];exact g
 ·rw[if_neg e1]at h
  by_cases e2:b.1=c.1
  ·rw[if_neg (e2 ▸ e1),<-e2];exact h
  ·rw[if_neg e2]at g
   have:=of_decide_eq_true h
   have:=of_decide_eq_true g
   rw[if_neg (by omega)]
   exact decide_eq_true (by omega)
theorem pblt_total {a b:Int×List Int}(h:pblt a b=false)(g:pblt b a=false):a=b:=by
 unfold pblt at *
 by_cases e:a.1=b.1
 ·rw[if_pos e]at h;rw[if_pos e.symm]at g
  exact Prod.ext e (HT.lexLt_total h g)
 ·rw[if_neg e]at h;rw[if_neg (Ne.symm e)]at g
  have:=of_decide_eq_false h
  have:=of_decide_eq_false g
  omega
theorem pblt_neg {a b c:Int×List Int}(h:pblt a c=true):pblt a b=true\/pblt b c=true:=by
 cases e:pblt a b with
 |true=>exact .inl rfl
 |false=>
  cases e2:pblt b a with
  |true=>exact .inr (pblt_trans e2 h)
  |false=>have:=pblt_total e e2;subst this;exact .inr h
def KeyV (K:PySem.W.Frag)(H:Hp)(v:Value)(n:Int)(ns:List Int):Prop:=∃t u,v=.ref t/\SqT K H t [.int n,.ref u]/\SqT K H u (ns.map V.int)
open Classical in
noncomputable def kS (K:PySem.W.Frag)(H:Hp):PyProof.Rows.KeyKind where
 α:=Int×List Int
 blt:=pblt
 irrefl:=fun a=>by unfold pblt;rw[if_pos rfl];exact HT.lexLt_irr2
 trans:=fun _ _ _=>pblt_trans
 negTrans:=fun _ _ _=>pblt_neg
 total:=fun _ _=>pblt_total
 keyOf:=fun v=>if h:∃p:Int×List Int,KeyV K H v p.1 p.2 then some h.choose else none
 dflt:=(0,[])
section
variable {X:Cx} {pins:List (Addr×Obj)} {σ:L2.St} {H:Hp} {s:Shared}
theorem map_int_inj:∀{ns ms:List Int},ns.map V.int=ms.map V.int->ns=ms
 |[],[],_=>rfl
 |[],_::_,h=>by cases h
 |_::_,[],h=>by cases h
 |n::ns,m::ms,h=>by
  simp only[List.map_cons,List.cons.injEq,V.int.injEq]at h
  rw[h.1,map_int_inj h.2]
theorem KeyV.inj (I:Inv X pins σ H s){v:Value}{n m:Int}{ns ms:List Int}(h:KeyV X.K H v n ns)(g:KeyV X.K H v m ms):n=m/\ns=ms:=by
 obtain⟨t,u,rfl,h1,h2⟩:=h
 obtain⟨t',u',e,g1,g2⟩:=g
 cases e
 have e:=I.tuple_inj h1 g1
 simp only[List.cons.injEq,V.int.injEq,V.ref.injEq,and_true]at e
 obtain⟨rfl,rfl⟩:=e
 exact⟨rfl,map_int_inj (I.tuple_inj h2 g2)⟩
theorem KE_kS (I:Inv X pins σ H s){x:Keyed}{n:Int}{ns:List Int}(h:KeyV X.K H x.1 n ns):KE (kS X.K H) x=(n,ns):=by
 have hex:∃p:Int×List Int,KeyV X.K H x.1 p.1 p.2:=⟨(n,ns),h⟩
 have e:(kS X.K H).keyOf x.1=some hex.choose:=dif_pos hex
 have e2:=KeyV.inj I hex.choose_spec h
 unfold KE
 rw[e]
 exact Prod.ext e2.1 e2.2
theorem lt_pair (I:Inv X pins σ H s){A:Around}{E:Value->Shared->Prop}(hu:A.units+6<cLine){v u:Value}{n m:Int}{ns ms:List Int}(hv:KeyV X.K H v n ns)(hw:KeyV X.K H u m ms){Q:Bool->Shared->Prop}(h:Q (pblt (n,ns) (m,ms)) s):
  wpAny (model X.prog X.w) A (keyLt' (tuples' true) v u) Q E s:=by
 obtain⟨a,ta,rfl,ha,hta⟩:=hv
 obtain⟨b,tb,rfl,hb,htb⟩:=hw
 obtain⟨its,r1,⟨o1,q1,c1,n1,d1⟩,_⟩:=I.tuple ha
 obtain⟨its2,r2,⟨o2,q2,c2,n2,d2⟩,_⟩:=I.tuple hb
 obtain⟨jts,k1,p1,_⟩:=I.tuple hta
 obtain⟨jts2,k2,p2,_⟩:=I.tuple htb
 have i1:IntsAre jts.toArray.toList ns:=intsAre_of k1
 have i2:IntsAre jts2.toArray.toList ms:=intsAre_of k2
 have eqT:=fun (bb:Bool) (he:EqD X.K H 2 (.ref ta) (.ref tb) bb)=>(EqD.at (x:=V.ref ta) (y:=V.ref tb) (u:=Value.ref ta) (v:=Value.ref tb) I 2 A (by omega) rfl rfl he).1
 have hed:=EqD.ints (K:=X.K) (H:=H) (a:=ta) (c:=tb) (xs:=ns) (ys:=ms) (.inr ⟨hta,htb⟩) 1
 cases r1 with
 |cons e1 r1'=>cases r1' with
  |cons e2 r1''=>cases r1'';cases r2 with
   |cons e3 r2'=>cases r2' with
    |cons e4 r2'' =>
     cases r2''
     obtain⟨t1,rfl⟩:=e1
     obtain⟨t2,rfl⟩:=e3
     cases e2
     cases e4
     refine PySem.W.kat_lt q1 d1 q2 d2 ?_
     simp only[List.zip_cons_cons,List.zip_nil_right]
     refine PySem.W.kat_cons (wpAny_eqBool_int (PySem.W.kat_go (fun e=>?_) (fun e=>?_)))
     ·have hnm:n=m:=by simpa using e
      refine PySem.W.kat_yes (PySem.W.kat_cons (eqT _ hed _ _ _ _ (PySem.W.kat_go (fun e'=>?_) (fun e'=>?_))))
      ·have hns:ns=ms:=of_decide_eq_true e'
       refine PySem.W.kat_yes (PySem.W.kat_nil ?_)
       have:pblt (n,ns) (m,ms)=decide (([Value.int n t1,Value.ref ta].toArray).size<([Value.int m t2,Value.ref tb].toArray).size):=by
        subst hnm;subst hns
        unfold pblt
        rw[if_pos rfl,HT.lexLt_irr2];rfl
       rw[<-this];exact h
      ·have hns:ns≠ms:=of_decide_eq_false e'
       refine PySem.W.kat_no (PySem.W.kat_one _ _ ?_)
       have:pblt (n,ns) (m,ms)=HT.lexLt ns ms:=by unfold pblt;rw[if_pos hnm]
       rw[this]at h
       exact HT.lt_tupInts p1 p2 i1 i2 (by omega) h
     ·have hnm:n≠m:=by simpa using e
      refine PySem.W.kat_no ?_
      show wpAny _ _ (oneLt' true _ _) _ _ _
      refine oneLt_int ?_
      have:pblt (n,ns) (m,ms)=decide (n<m):=by unfold pblt;rw[if_neg hnm]
      rw[<-this];exact h
theorem ltOk (I:Inv X pins σ H s){A:Around}{E:Value->Shared->Prop}(hu:A.units+6<cLine){a₀:Array Keyed}(hk:∀x∈a₀.toList,∃n ns,KeyV X.K H x.1 n ns):LtOk (tuples' true) (kS X.K H) a₀ X.prog X.w A E s:=by
 intro x y st Q hx hy hkd h
 obtain⟨n,ns,h1⟩:=hk x hx
 obtain⟨m,ms,h2⟩:=hk y hy
 rw[KE_kS I h1,KE_kS I h2]at h
 rw[lt'_eq]
 refine wpS_bind (wpS_get ?_)
 rw[hkd]
 refine wpS_bind (wpS_lift (wpAny_attempt (lt_pair I hu h1 h2 ⟨rfl,?_⟩)))
 exact wpS_pure h
end
end S64
namespace S64
open PySem PyProof.Rows L2
theorem perm_of_map {α β:Type}{f:α->β}:∀{k l:List β},k.Perm l->∀m:List α,k=m.map f->∃m':List α,m'.Perm m/\l=m'.map f:=by
 intro k l h
 induction h with
 |nil=>intro m e;cases m with
  |nil=>exact⟨[],.refl _,rfl⟩
  |cons=>cases e
 |cons x _ ih=>intro m e;cases m with
  |nil=>cases e
  |cons y m=>
   simp only[List.map_cons,List.cons.injEq]at e
   obtain⟨rfl,e⟩:=e
   obtain⟨m',p,rfl⟩:=ih m e
   exact⟨y::m',p.cons y,rfl⟩
 |swap x y l=>intro m e;cases m with
  |nil=>cases e
  |cons a m=>cases m with
   |nil=>cases e
   |cons b m=>
    simp only[List.map_cons,List.cons.injEq]at e
    obtain⟨rfl,rfl,rfl⟩:=e
    exact⟨b::a::m,.swap a b m,rfl⟩
 |trans _ _ ih1 ih2=>
  intro m e
  obtain⟨m1,p1,e1⟩:=ih1 m e
  obtain⟨m2,p2,e2⟩:=ih2 m1 e1
  exact⟨m2,p2.trans p1,e2⟩
abbrev Wd:=Addr×List Int
def wv (ws:List Wd):List V:=ws.map fun w=>V.ref w.1
def wu (ws:List Wd):List Value:=ws.map fun w=>Value.ref w.1
theorem vals_w:∀ws:List Wd,Vals (wv ws) (wu ws)
 |[]=>.nil
 |_::r=>.cons rfl (vals_w r)
theorem vals_ref:∀{ts:List Addr} {us:List Value},Vals (ts.map V.ref) us->us=ts.map Value.ref
 |[],_,h=>by cases h;rfl
 |t::ts,_,h=>by
  cases h with
  |cons e r=>
   have e':_=Value.ref t:=e
   rw[vals_ref r,e'];rfl
def kw (w:Wd):Int×List Int:=((w.2.length:Int),w.2)
def Srt (os:List Wd):Prop:=os.Pairwise fun p q=>pblt (kw q) (kw p)=false
def WsOk (K:PySem.W.Frag)(H:Hp)(ws:List Wd):Prop:=∀w∈ws,SqT K H w.1 (w.2.map V.int)
def TsOk (K:PySem.W.Frag)(H:Hp)(ts:List Addr)(ws:List Wd):Prop:=∀(j:Nat) t w,ts[j]?=some t->ws[j]?=some w->SqT K H t [.int w.2.length,.ref w.1]
section
variable {X:Cx} {pins:List (Addr×Obj)} {σ:L2.St} {H H0:Hp} {s:Shared} {A:Around} {E:Value->Shared->Prop} {ws:List Wd} {ts:List Addr} {a kT:Addr} {e1:Nat} {P:PySem.Fin->Shared->Prop} {f:Value}
def Turn (X:Cx)(pins:List (Addr×Obj))(σ:L2.St)(A:Around)(f:Value)(ws:List Wd)(H0:Hp):Prop:=∀w∈ws,∀(H':Hp) (s':Shared),Inv X pins σ H' s'->Same H0 H' ->
 wpAny (model X.prog X.w) A (call f [.ref w.1]) (EP X pins σ (fun k H''=>∃t,k=.ref t/\Same H' H''/\SqT X.K H'' t [.int w.2.length,.ref w.1])) (fun _ _=>False) s'
abbrev Emp (a:Addr)(e1:Nat):L2.HO:=.ext fun h=>h.get? a=some (seqObj "list" #[] e1)
def Fin74 (X:Cx)(pins:List (Addr×Obj))(σ:L2.St)(H0:Hp)(a:Addr)(ws:List Wd)(P:PySem.Fin->Shared->Prop):Prop:=
 ∀s' H' os,Inv X pins σ H' s'->Same H0 H'->H' a=some (.lst (wv os))->os.Perm ws->Srt os->P (.done (.ret .none)) s'
theorem tail74 {st:SortSt}{os:List Wd}(I:Inv X pins σ H s)(ha:H a=some (Emp a e1))(hk:H kT=some (.lst (ts.map V.ref)))(hka:kT≠a)(h0:Same H0 H)(hn:H0 a=none)(hnk:H0 kT=none)(hz:os.length<=sizeLine)
  (harr:(arrOf st).map (·.2)=(wu os).toArray) (hf:failedOf st=none) (hp:os.Perm ws) (hs:Srt os) (h:Fin74 X pins σ H0 a ws P):
  wpAny (model X.prog X.w) A (ksk_tail a false e1 (.ref kT) st) P E s:=by
 obtain⟨z,its,n,r,el,e⟩:=I.lstM hk
 have I1:Inv X pins σ (upd H kT (.lst [])) {s with heap:=s.heap.update kT (Obj.mapSeq fun _=>(#[]:Array Value)),toks:=s.toks}:=I.lset (its':=[]) (f:=fun _ => #[]) hk e rfl .nil (Nat.zero_le _)
 have ha1:upd H kT (.lst []) a=some (Emp a e1):=by rw[upd_ne (Ne.symm hka)];exact ha
 obtain⟨e2,_,_⟩:=I1.hok a _ ha1
 unfold ksk_tail
 refine wpAny_bind (listUpdate_at e rfl ?_ (by rw[List.size_toArray,<-el];exact z) (Nat.zero_le _))
 refine wpAny_bind (wpAny_letGo ?_)
 refine wpAny_bind (seqEpoch_at e2 rfl ?_)
 simp only[Bool.false_eq_true,if_false]
 rw[harr]
 refine wpAny_bind (listUpdate_at e2 rfl ?_ (Nat.zero_le _) (by rw[List.size_toArray];simp only[wu,List.length_map];omega))
 rw[hf]
 simp only[bne_self_eq_false,Bool.false_eq_true,if_false]
 have q:=PySem.IsL.update (f:=fun _=>(wu os).toArray) e2
 have I2:Inv X pins σ (upd (upd H kT (.lst [])) a (.lst (wv os))) {s with heap:=(s.heap.update kT (Obj.mapSeq fun _=>(#[]:Array Value))).update a (Obj.mapSeq fun _=>(wu os).toArray),toks:=s.toks}:=by
  refine I1.write (x:=a) (e:=a) (by rw[ha1];exact trivial) (.inl rfl) (fun b' u hb hu=>(Heap.get?_update_other _ _ (Ne.symm hb)).trans hu) ⟨_,q⟩ ⟨by simp only[wv,List.length_map];exact hz,wu os,_,vals_w os,q⟩
 exact wpAny_pure (h _ _ os I2 ((h0.over hnk).over hn) upd_same hp hs)
theorem pairs_list (hl:ts.length=ws.length):((ts.map Value.ref).toArray.zip (wu ws).toArray).toList=(ts.zip ws).map fun p=>(Value.ref p.1,Value.ref p.2.1):=by
 rw[ksk_zip,List.toList_toArray]
 unfold wu
 rw[List.zip_map]
 rfl
theorem keys_in (hl:ts.length=ws.length)(hT:TsOk X.K H ts ws){p:Addr×Wd}(hp:p∈ts.zip ws):SqT X.K H p.1 [.int p.2.2.length,.ref p.2.1]:=by
 obtain⟨j,hj,e⟩:=List.mem_iff_getElem.mp hp
 rw[List.getElem_zip]at e
 rw[List.length_zip]at hj
 subst e
 exact hT j _ _ (List.getElem?_eq_getElem (by omega)) (List.getElem?_eq_getElem (by omega))
theorem katTups (I:Inv X pins σ H s):∀(ts:List Addr) (ws:List Wd),ts.length=ws.length->(∀p∈ts.zip ws,SqT X.K H p.1 [.int p.2.2.length,.ref p.2.1])->∃fs:List Value,PySem.W.KatTups s.heap (ts.map Value.ref) fs/\fs.length=ts.length/\∀v∈fs,∃n t,v=.int n t
 |[],[],_,_=>⟨[],trivial,rfl,fun v hv=>by cases hv⟩
 |t::ts,w::ws,hl,h=>by
  obtain⟨fs,h1,h2,h3⟩:=katTups I ts ws (by simpa using hl) (fun p hp=>h p (List.mem_cons_of_mem _ hp))
  have h4:SqT X.K H t [.int w.2.length,.ref w.1]:=h (t,w) List.mem_cons_self
  obtain⟨its,r,⟨o,ho,hc,n,hd⟩,_⟩:=I.tuple h4
  cases r with
  |cons e1 r' =>
   obtain⟨tk,rfl⟩:=e1
   refine⟨.int w.2.length tk::fs,PySem.W.KatTups.cons ho hc hd rfl h1,by simp[h2],fun v hv=>?_⟩
   rcases List.mem_cons.mp hv with rfl|hv
   ·exact⟨_,_,rfl⟩
   ·exact h3 v hv
theorem end74 (I:Inv X pins σ H s)(hu:A.units+6<cLine)(ha:H a=some (Emp a e1))(hk:H kT=some (.lst (ts.map V.ref)))(hka:kT≠a)(h0:Same H0 H)(hn:H0 a=none)(hnk:H0 kT=none)(hz:ws.length<=sizeLine)
  (hl:ts.length=ws.length) (hW:WsOk X.K H ws) (hT:TsOk X.K H ts ws) (h:Fin74 X pins σ H0 a ws P):
  wpAny (model X.prog X.w) A (ksk_end a false (wu ws).toArray e1 (.ref kT) (ts.map Value.ref).toArray) P E s:=by
 have hsz:(wu ws).toArray.size=ws.length:=by simp[wu]
 have hki:=fun p hp=>keys_in (X:=X) (H:=H) hl hT (p:=p) hp
 have fin:∀st:SortSt,(arrOf st).Perm ((ts.map Value.ref).toArray.zip (wu ws).toArray)->failedOf st=none->SO (kS X.K H) (arrOf st) 0 (arrOf st).size->wpAny (model X.prog X.w) A (ksk_tail a false e1 (.ref kT) st) P E s:=by
  intro st hp hf hs
  have hp':=(Array.perm_iff_toList_perm.mp hp).symm
  rw[pairs_list hl]at hp'
  obtain⟨m',p1,e⟩:=perm_of_map hp' _ rfl
  have e2:(arrOf st).map (·.2)=(wu (m'.map (·.2))).toArray:=by
   apply Array.ext'
   rw[Array.toList_map,e,List.toList_toArray]
   simp[wu]
  have pz:(m'.map (·.2)).Perm ws:=by
   have:=p1.map (·.2)
   rwa [List.map_snd_zip (by omega)]at this
  refine tail74 I ha hk hka h0 hn hnk (by rw[pz.length_eq];exact hz) e2 hf pz ?_ h
  have hs2:=(so_seg (Nat.le_refl _)).mp hs
  have e3:seg (arrOf st) 0 (arrOf st).size=(arrOf st).toList:=by unfold seg;rw[List.drop_zero];exact List.take_of_length_le (by simp)
  rw[e3,e,List.pairwise_map]at hs2
  unfold Srt
  rw[List.pairwise_map]
  refine hs2.imp_of_mem (fun {x y} hx hy hle=>?_)
  have kx:KeyV X.K H (Value.ref x.1) x.2.2.length x.2.2:=⟨_,_,rfl,hki x (p1.mem_iff.mp hx),hW _ (List.of_mem_zip (p1.mem_iff.mp hx)).2⟩
  have ky:KeyV X.K H (Value.ref y.1) y.2.2.length y.2.2:=⟨_,_,rfl,hki y (p1.mem_iff.mp hy),hW _ (List.of_mem_zip (p1.mem_iff.mp hy)).2⟩
  unfold LeK at hle
  rw[KE_kS I (x:=(Value.ref x.1,Value.ref x.2.1)) kx,KE_kS I (x:=(Value.ref y.1,Value.ref y.2.1)) ky]at hle
  exact hle
 unfold ksk_end
 simp only[Bool.false_eq_true,if_false]
 by_cases h2:(wu ws).toArray.size<2
 ·rw[if_pos h2,if_pos h2]
  refine wpAny_bind (wpAny_pure ?_)
  rw[StateT.run_pure]
  refine wpAny_bind (wpAny_pure ?_)
  refine fin (SortSt.mk' general' ((ts.map Value.ref).toArray.zip (wu ws).toArray) #[] 7 none) (Array.Perm.refl _) rfl ?_
  intro i j g1 g2 g3
  have g4:j<((ts.map Value.ref).toArray.zip (wu ws).toArray).size:=g3
  rw[Array.size_zip,hsz]at g4
  have:i=j:=by omega
  subst this
  exact KeyOrd.kle_refl _
 ·rw[if_neg h2,if_neg h2]
  obtain⟨fs,f1,f2,f3⟩:=katTups I ts ws hl hki
  refine wpAny_bind (PySem.W.kat_kind (T:=.type "int") f1 (by omega) (fun v hv=>?_) (by decide) ?_)
  ·obtain⟨n,t,rfl⟩:=f3 v hv
   exact PySem.W.Looks.of_pure rfl
  ·have hz0:((ts.map Value.ref).toArray.zip (wu ws).toArray).size=ws.length:=by simp[wu,hl]
   refine wpAny_bind (wpAny_mono (wp_sortRuns (κ:=kS X.K H) (kd:=tuples' true) (a₀:=(ts.map Value.ref).toArray.zip (wu ws).toArray) (st:=SortSt.mk' (tuples' true) ((ts.map Value.ref).toArray.zip (wu ws).toArray) #[] 7 none)
    (Q:=fun _ st'=>SB (tuples' true) ((ts.map Value.ref).toArray.zip (wu ws).toArray) st'/\SO (kS X.K H) (arrOf st') 0 ((ts.map Value.ref).toArray.zip (wu ws).toArray).size)
    (ltOk I hu (fun x hx=>?_)) ⟨Array.Perm.refl _,rfl,rfl⟩ rfl fun st' a1 a2=>⟨a1,a2⟩) ?_ fun _ _ e=>e)
   ·rw[pairs_list hl]at hx
    obtain⟨p,hp,rfl⟩:=List.mem_map.mp hx
    exact⟨p.2.2.length,p.2.2,_,_,rfl,hki p hp,hW _ (List.of_mem_zip hp).2⟩
   ·rintro⟨⟨⟩,st'⟩ s' ⟨rfl,hB,hS⟩
    exact fin st' hB.perm hB.failed (by rw[hB.size];exact hS)
theorem WsOk.same {K:PySem.W.Frag}{H H':Hp}(h:WsOk K H ws)(e:Same H H'):WsOk K H' ws:=fun w hw=>e.seqT (h w hw)
theorem sqT_over {K:PySem.W.Frag}{H:Hp}{p b:Addr}{o:L2.HO}{zs xs:List V}(hp:H p=some (.lst zs))(h:SqT K H b xs):SqT K (upd H p o) b xs:=by
 have:TSq K H (upd H p o):=TSq.un (fun xs e=>by rw[hp]at e;cases e) (fun ob xs e=>by rw[hp]at e;cases e)
 exact this b xs h
theorem rest74 (I:Inv X pins σ H s)(hu:A.units+6<cLine)(ha:H a=some (Emp a e1))(hk:H kT=some (.lst []))(hka:kT≠a)(h0:Same H0 H)(hn:H0 a=none)(hnk:H0 kT=none)(hz:ws.length<sizeLine)
  (hW:WsOk X.K H0 ws) (hT:Turn X pins σ A f ws H0) (h:Fin74 X pins σ H0 a ws P):
  wpAny (model X.prog X.w) A (ksk_rest a f false (wu ws).toArray e1 (.ref kT)) P E s:=by
 unfold ksk_rest
 refine wpAny_bind (wpAny_rule ?_)
 rw[List.forIn_toArray]
 refine wpAny_bind (ksk_fold (fun i s'=>∃(H':Hp) (ts:List Addr),Inv X pins σ H' s'/\Same H0 H'/\H' a=some (Emp a e1)/\H' kT=some (.lst (ts.map V.ref))/\ts.length=i/\TsOk X.K H' ts ws) (wu ws) 0 s
  ⟨H,[],I,h0,ha,hk,rfl,fun j t w h1 _=>by simp at h1⟩ ?step ?done)
 case step=>
  rintro j x s' hx ⟨H',ts,I',g0,g1,g2,g3,g4⟩
  simp only[Nat.zero_add]at g3 ⊢
  unfold wu at hx
  rw[List.getElem?_map]at hx
  obtain⟨w,hw,rfl⟩:∃w,ws[j]?=some w/\Value.ref w.1=x:=by
   cases e:ws[j]? with
   |none=>rw[e]at hx;cases hx
   |some w=>rw[e]at hx;cases hx;exact⟨w,rfl,rfl⟩
  have hj:j<ws.length:=(List.getElem?_eq_some_iff.mp hw).1
  refine wpAny_bind (wpAny_attempt (wpAny_mono (hT w (List.mem_of_getElem? hw) H' s' I' g0) (fun k s2 hk2=>?_) fun _ _ z=>z.elim))
  obtain⟨v,H2,I2,rv,t,rfl,q1,q2⟩:=hk2
  have rk:k=Value.ref t:=rv
  subst rk
  have hk3:=q1 _ _ g2
  obtain⟨z,its,n,r,el,e⟩:=I2.lstM hk3
  dsimp only
  have hi:=vals_ref r
  have hti:its.length=j:=by rw[hi,List.length_map];exact g3
  refine wpAny_bind (listUpdate_at e rfl ?_ (by rw[List.size_toArray,hti];omega) (by rw[Array.size_push,List.size_toArray,hti];omega))
  refine wpAny_pure ⟨rfl,upd H2 kT (.lst ((ts++[t]).map V.ref)),ts++[t],?_,?_,?_,upd_same,by simp[g3],?_⟩
  ·have:=I2.lset (its':=its++[Value.ref t]) (ys:=(ts++[t]).map V.ref) (f:=fun a=>a.push (Value.ref t)) (t':=s2.toks) hk3 e (by simp) (by rw[List.map_append];exact r.append (.cons rfl .nil)) (by rw[List.length_map,List.length_append,g3];simp;omega)
   exact this
  ·exact (g0.trans q1).over hnk
  ·rw[upd_ne (Ne.symm hka)];exact q1 _ _ g1
  ·intro i t' w' h1 h2
   refine sqT_over hk3 ?_
   by_cases hi:i<ts.length
   ·rw[List.getElem?_append_left hi]at h1
    exact q1.seqT (g4 i t' w' h1 h2)
   ·rw[List.getElem?_append_right (by omega)]at h1
    have:i-ts.length=0:=by
     by_cases hq:i-ts.length=0
     ·exact hq
     ·rw[List.getElem?_eq_none (by simp;omega)]at h1;cases h1
    rw[this]at h1
    cases h1
    have:i=j:=by omega
    subst this
    rw[hw]at h2;cases h2
    exact q2
 case done=>
  rintro s' ⟨H',ts,I',g0,g1,g2,g3,g4⟩
  obtain⟨z,its,n,r,el,e⟩:=I'.lstM g2
  have hi:=vals_ref r
  subst hi
  refine wpAny_bind (listItems_at e rfl ?_)
  exact end74 I' hu g1 g2 hka g0 hn hnk (by omega) (by rw[g3];simp[wu]) (hW.same g0) g4 h
theorem sort74 {n:Nat}(I:Inv X pins σ H s)(hu:A.units+6<cLine)(ha:H a=some (.lst (wv ws)))(h0:Same H0 H)(hn:H0 a=none)(hz:ws.length<sizeLine)(hfr:∀b,s.heap.objs.size<=b->H0 b=none)
  (hW:WsOk X.K H0 ws) (hT:Turn X pins σ A f ws H0) (h:Fin74 X pins σ H0 a ws P):
  wpAny (model X.prog X.w) A (ksk_tree a f false) P E s:=by
 obtain⟨z,its,n,r,el,e⟩:=I.lstM ha
 have hi:its=wu ws:=by
  have:Vals ((ws.map (·.1)).map V.ref) its:=by rw[List.map_map];exact r
  rw[vals_ref this,List.map_map];rfl
 subst hi
 have q:=PySem.IsL.update (f:=fun _=>(#[]:Array Value)) e
 obtain⟨e1,he1⟩:∃e1,(s.heap.update a (Obj.mapSeq fun _=>(#[]:Array Value))).get? a=some (seqObj "list" #[] e1):=⟨_,q⟩
 have I1:Inv X pins σ (upd H a (Emp a e1)) {s with heap:=s.heap.update a (Obj.mapSeq fun _=>(#[]:Array Value)),toks:=s.toks}:=by
  refine I.write (x:=a) (e:=a) (by rw[ha];exact trivial) (.inl rfl) (fun b' u hb hu=>(Heap.get?_update_other _ _ (Ne.symm hb)).trans hu) ⟨_,he1⟩ ⟨he1,⟨_,he1⟩,fun h1 h2 g1 g2=>g2 _ g1⟩
 unfold ksk_tree
 refine wpAny_bind (listItems_at e rfl ?_)
 refine wpAny_bind (listUpdate_at e rfl ?_ (by rw[List.size_toArray];simp only[wu,List.length_map];omega) (Nat.zero_le _))
 refine wpAny_bind (seqEpoch_at he1 rfl ?_)
 refine wpAny_bind (wpAny_newTuple ?_ (by rw[List.toList_toArray];simp only[wu,List.length_map];omega))
 refine wpAny_bind (wpAny_newList ?_ (Nat.zero_le _))
 refine wpAny_holding ?_
 have I2:=I1.kept (t':=s.toks) (h':=(s.heap.update a (Obj.mapSeq fun _=>(#[]:Array Value))).push {cls:=.type "tuple",data:=.seq (wu ws).toArray}) (fun _ _ q=>Heap.get?_push_of_some _ q)
 have I3:=I2.lnew (t':=s.toks) (its:=[]) (ys:=[]) .nil (Nat.zero_le _)
 have hk:((s.heap.update a (Obj.mapSeq fun _=>(#[]:Array Value))).push {cls:=.type "tuple",data:=.seq (wu ws).toArray}).objs.size=s.heap.objs.size+1:=by rw[size_push',Heap.size_update]
 have hlt:=Heap.lt_size e
 refine rest74 I3 hu ?_ upd_same ?_ ?_ hn ?_ hz hW hT h
 ·rw[upd_ne (by show a≠_;rw[hk];exact Nat.ne_of_lt (Nat.lt_succ_of_lt hlt))];exact upd_same
 ·show _≠a
  rw[hk];exact Nat.ne_of_gt (Nat.lt_succ_of_lt hlt)
 ·refine (h0.over hn).over (hfr _ ?_)
  show _<=_
  rw[hk];omega
 ·refine hfr _ ?_
  show _<=_
  rw[hk];omega
def Fin75 (X:Cx)(pins:List (Addr×Obj))(σ:L2.St)(H:Hp)(ws:List Wd)(Q:Value->Shared->Prop):Prop:=
 ∀s' H' D os,Inv X pins σ H' s'->Same H H'->H D=none->H' D=some (.lst (wv os))->os.Perm ws->Srt os->Q (.ref D) s'
theorem sorted74 {l q:Addr}{Q:Value->Shared->Prop}(I:Inv X pins σ H s)(hu:A.units+8<cLine)(hl:SqL X.K H l (wv ws))(hz:ws.length<sizeLine)(hW:WsOk X.K H ws)
  (hT:Turn X pins σ A.in1.in1 (.ref q) ws H) (h:Fin75 X pins σ H ws Q):
  wpAny (model X.prog X.w) A (call (.builtin "sorted") [.ref l] [(Str.ofString "key",.ref q)]) Q E s:=by
 obtain⟨its,r,pl,_⟩:=I.list hl
 have hi:its=wu ws:=by
  have:Vals ((ws.map (·.1)).map V.ref) its:=by rw[List.map_map];exact r
  rw[vals_ref this,List.map_map];rfl
 subst hi
 have hlen:(wu ws).length=ws.length:=by simp[wu]
 refine call_function_entry_kw kind_sorted plain_sorted entry_sorted (ksk_s1 _ _) ?_
 unfold Builtin.«sorted»
 refine wpAny_bind (m:=checkCount "sorted" 1 1 _) (wpAny_pure ?_)
 refine wpAny_bind (collect_list (vs:=wu ws) ?isl ?_ (by omega))
 case isl=>
  exact pl.isList
 refine wpAny_bind (wpAny_newList ?_ (by omega))
 have hsz:((s.heap.push (seqObj "list" #[] 0)).update s.heap.objs.size (Obj.mapSeq (· ++ (wu ws).toArray))).objs.size=s.heap.objs.size+1:=by
  rw[Heap.size_update,size_push']
 have keep:∀b o,s.heap.get? b=some o->((s.heap.push (seqObj "list" #[] 0)).update s.heap.objs.size (Obj.mapSeq (· ++ (wu ws).toArray))).get? b=some o:=fun b o q=>by
  have hlt:b<s.heap.objs.size:=Heap.lt_size q
  rw[Heap.get?_update_ne _ _ _ _ (Nat.ne_of_lt hlt),Heap.get?_push_ne _ _ _ (Nat.ne_of_lt hlt)]
  exact q
 have I1:=I.kept (t':=s.toks) keep
 have I2:=I1.lnew (t':=s.toks) (its:=wu ws) (ys:=wv ws) (vals_w ws) (by simp only[wv,List.length_map];omega)
 have hD:H (s.heap.objs.size+1)=none:=I.hok.fresh (Nat.le_succ _)
 have hoL:(((s.heap.push (seqObj "list" #[] 0)).update s.heap.objs.size (Obj.mapSeq (· ++ (wu ws).toArray))).push (seqObj "list" (wu ws).toArray 0)).get? (s.heap.objs.size+1)=some (seqObj "list" (wu ws).toArray 0):=by
  rw[<-hsz];exact Heap.get?_push_size _ rfl
 show wpAny _ _ _ _ _ {s with heap:=((s.heap.push (seqObj "list" #[] 0)).update s.heap.objs.size (Obj.mapSeq (· ++ (wu ws).toArray))).push (seqObj "list" (wu ws).toArray 0)}
 have I3:Inv X pins σ (upd H (s.heap.objs.size+1) (.lst (wv ws))) {s with heap:=((s.heap.push (seqObj "list" #[] 0)).update s.heap.objs.size (Obj.mapSeq (· ++ (wu ws).toArray))).push (seqObj "list" (wu ws).toArray 0)}:=by
  have:=I2
  dsimp only at this
  rw[hsz]at this
  exact this
 rw[hsz]
 refine wpAny_bind (wpAny_holding (wpAny_call_entry_kw slot_list_sort ⟨_,hoL,rfl⟩ entry_list_sort ?body (ksk_l1 _ _)))
 case body=>
  have ht':=ksk_t1 q (s.heap.objs.size+1)
  show wpAny (model X.prog X.w) A.in1.in1 (Builtin.«list.sort» ⟨[.ref (s.heap.objs.size+1)],[(Str.ofString "key",.ref q)]⟩) _ _ _
  rw[ht']
  refine sort74 (n:=0) (H0:=H) I3 (by rw[in1_units,in1_units];omega) upd_same (Same.new hD) hD hz (fun b hb=>I.hok.fresh ?_) hW hT fun s' H' os I' g1 g2 g3 g4=>⟨_,rfl,?_⟩
  ·have hb':(((s.heap.push (seqObj "list" #[] 0)).update s.heap.objs.size (Obj.mapSeq (· ++ (wu ws).toArray))).push (seqObj "list" (wu ws).toArray 0)).objs.size<=b:=hb
   rw[size_push',hsz]at hb'
   omega
  ·exact wpAny_pure ⟨_,rfl,h s' H' _ os I' g1 hD g2 g3 g4⟩
end
end S64
namespace L2
open PySem PySem.Spec PyProof.Rows
theorem lam_of {P:Program}{w:World}{K:PySem.W.Frag}{mg:Str->Option Value}{base:Heap}{k:Nat}{f c':Addr}{name qual:Str}{params:Arguments}{body:Expr}{scope:Scope}{pm ctv:Value}
  {A:Around} {outer:List Env} {s:Shared} {H:Hp} {args:Args} {us:List Value} {vs:List V} {N ps:List Str} {Q:VK} {E:XK} {t:TE} (S:FnScope N ps scope) (hr:Room (k+1) A) (e0:Env0 P w K mg base A outer s H)
  (ho:s.heap.get? f=some (PySem.W.kla_obj name qual params body scope [] pm c' ctv)) (hcd:s.heap.CodeRec (.ref c') qual) (hb:bindArgs (PySem.W.kla_fn name qual params body scope [] pm (.ref c') ctv) args=pure (ps.zip us)) (r:Vals vs us) (hl:vs.length=ps.length)
  (ht:PE (cxOf CX0 P w K mg base N qual scope f (.ref c') A outer s H E).nox body t) (hq:t (start N vs) H Q):codeAny (model P w) A (.call (.ref f) args) (CR CX0 outer P w H s Q E) s:=by
 have lim:s.heap.NoLimit:=e0.mod.nolimit.keeps fun b o e=>(e0.bs b o e).1
 have hkind:∀y∈ps.zip us,scope.names.lookup y.1=some .local\/(scope.names.lookup y.1=some .cell/\((cellsFrom (s.heap.objs.size+1) scope.names []).lookup y.1).isSome=true):=fun ⟨n,v⟩ hy=>by
  rcases S.par n (List.of_mem_zip hy).1 with q|q
  ·exact .inl q
  ·exact .inr ⟨q,PySem.W.cellsFrom_some _ _ _ (.inl q)⟩
 refine PySem.W.kla_callFunE hr.depth ho rfl S.co S.gen rfl hcd ?_
 rw[hb]
 refine wpAny_pure ?_
 refine wpAny_newFunctionEnv_cells S.kind hkind fun env he s1 x=>?_
 subst he
 refine⟨lim.keeps x.toInCall.keep,PySem.W.kla_codeExpr ?_⟩
 have I:Inv (cxOf CX0 P w K mg base N qual scope f (.ref c') A outer s H E) [] (start N vs) H s1:=inv_start S hr.hd e0 hl r x
 refine wpAny_mono (ht [] s1 (start N vs) H _ (I.wish _) hq) (fun u s' hs=>?_) fun e s' hs=>hs.elim
 obtain⟨v,H',J,rv,q⟩:=hs
 have J':=J.unwish
 exact⟨v,H',J'.os,J'.bare,J'.base,J'.hok,rv,q⟩
def BmOk (mg:Str->Option Value)(base:Heap):Prop:=∃bm ob,mg "__builtins__"=some (.ref bm)/\bm≠builtinsNs/\base.get? bm=some ob/\ob.cls=.type "module" /\ ob.dict=some builtinsNs/\ob.data=.plain
section
variable {X:Cx} {pins:List (Addr×Obj)} {σ:St} {H:Hp} {s:Shared}
theorem Inv.tab {P:Addr}{ps ps':Array Value}{h':Heap}{t':Nat}(I:Inv X pins σ H s)(hP:H P=some (.tbl ps))(k:∀b o,b≠P->s.heap.get? b=some o->h'.get? b=some o)(e:h'.get? P=some (PySem.W.tabObj (ps++ps'))):
  Inv X pins σ (upd H P (.tbl (ps++ps'))) {s with heap:=h',toks:=t' }:=by
 have nP:∀b,H b=none->b≠P:=fun b n z=>by subst z;rw[hP]at n;cases n
 have nP2:∀b u,H b=some u->(∀qs,u ≠ .tbl qs)->b≠P:=fun b u q hu z=>by subst z;rw[hP]at q;cases q;exact hu _ rfl
 refine I.un ⟨fun b o q n _ _=>k b o (nP b n) q,fun b o q n _ _=>⟨o.slots,k b o (nP b n) q⟩,fun b o q n _=>by rw[upd_ne (nP b n)];exact n,fun b o q _=>?_,fun b xs q=>?_,fun b o u q=>?_,fun b qs q=>?_⟩ (fun b u q=>?_)
 ·by_cases hb:b=P
  ·subst hb;exact⟨_,e⟩
  ·exact⟨o,k b o hb q⟩
 ·rw[upd_ne (nP2 b _ q (fun _ z=>by cases z))];exact q
 ·rw[upd_ne (nP2 b _ q (fun _ z=>by cases z))];exact q
 ·by_cases hb:b=P
  ·subst hb;rw[hP]at q;cases q;exact⟨ps',upd_same⟩
  ·rw[upd_ne hb];exact⟨#[],by rw[q];simp⟩
 ·by_cases hb:b=P
  ·subst hb;rw[upd_same]at q;cases q;exact e
  ·rw[upd_ne hb]at q
   refine (I.hok b u q).stay (fun c v hc r=>k c v ?_ r) (fun c r=>by rw[upd_ne (nP2 c _ r (fun _ z=>by cases z))];exact r) fun c xs r=>by rw[upd_ne (nP2 c _ r (fun _ z=>by cases z))];exact r
   rcases hc with rfl|hc
   ·exact hb
   ·exact nP2 c _ hc (fun _ z=>by cases z)
theorem lam_make {c P:Addr}{ps:Array Value}{params:Arguments}{body:Expr}{scope:Scope}{pos:Pos}{A:Around}{M:Model}{E:Value->Shared->Prop}{Q:Value->Shared->Prop}(I:Inv X pins σ H s)(hcode:X.env.code=.ref c)(C:PySem.W.CodeHd X.base c P)(hP:H P=some (.tbl ps))
  (ht:TriplesOk ps.toList) (hnf:codeAmong pos ps.toList=none) (hb:BmOk X.mg X.base) (hcl:closureFor scope X.env=pure []) (hdef:defaultsOf params X.env=([],[]))
  (h:∀f c' oc vs t ctv ps' s',Inv X (pins++[(f,PySem.W.kla_obj "<lambda>" (X.env.qual ++ "<lambda>") params body scope [] ((X.mg "__name__").getD .none) c' ctv),(c',oc)]) σ (upd H P (.tbl (ps++ps'))) s'->oc.data=.fields vs->vs[1]?=some (.str (X.env.qual ++ "<lambda>") t)->Q (.ref f) s'):
  wpAny M A (eval (.Lambda params body scope pos) X.env) Q E s:=by
 obtain⟨bm,ob,b1,b2,b3,b4,b5,b6⟩:=hb
 have hg:s.heap.Ns mainGlobals X.mg:=I.mod.glob.keeps I.bk
 have eP:s.heap.get? P=some (PySem.W.tabObj ps):=I.hok P _ hP
 have nb:∀b o,X.base.get? b=some o->b≠P:=fun b o e z=>by subst z;have:=(I.bs b o e).2;rw[hP]at this;cases this
 have hgP:mainGlobals≠P:=by
  obtain⟨o,es,ep,e,_⟩:=I.mod.glob
  exact nb _ _ e
 have hbG:bm≠mainGlobals:=fun q=>by
  obtain⟨o,es,ep,e,hd,_⟩:=I.mod.glob
  rw[q,e]at b3;cases b3;rw[hd]at b6;cases b6
 refine PySem.W.kla_eval hdef ?_
 refine PySem.W.kla_makeFunction (mg:=X.mg) hcl I.ok.glob hg hcode (C.keeps I.bk) eP ht hnf hgP ⟨bm,ob,b1,b2,hbG,nb _ _ b3,I.bk _ _ b3,b4,b5,b6⟩ fun c' ctv h' tk hx hge hlt hrec htb=>?_
 obtain⟨c₂,oc,vs,t,e2,hoc,hd,hv⟩:=hrec
 cases e2
 have I1:=I.tab (t':=tk) (h':=h'.push (PySem.W.kla_obj "<lambda>" (X.env.qual ++ "<lambda>") params body scope [] ((X.mg "__name__").getD .none) c' ctv)) hP (fun b o hb e=>Heap.get?_push_of_some _ (hx b o hb e)) (Heap.get?_push_of_some _ htb)
 have hsz:s.heap.objs.size<=h'.objs.size:=Nat.le_trans hge (Nat.le_of_lt hlt)
 have hnew:∀b,s.heap.objs.size<=b->upd H P (HO.tbl (ps ++ #[rawInt pos.line,rawInt pos.col,.ref c'])) b=none/\b≠X.env.locals/\b∉X.fs:=fun b hb=>by
  refine⟨?_,fun z=>?_,I.nofs hb⟩
  ·rw[upd_ne (fun z=>by subst z;exact absurd (Heap.lt_size eP) (Nat.not_lt.mpr hb))]
   exact I.hok.fresh hb
  ·subst z;exact absurd I.lt (Nat.not_lt.mpr hb)
 refine h h'.objs.size c' oc vs t ctv _ _ (I1.pins_of fun p hp=>?_) hd hv
 rcases List.mem_append.mp hp with hp|hp
 ·exact I1.pin p (List.mem_append_right _ hp)
 ·rcases List.mem_cons.mp hp with rfl|hp
  ·exact⟨Heap.get?_push_size _ rfl,(hnew _ hsz).1,(hnew _ hsz).2.1,(hnew _ hsz).2.2,fun v z=>by cases z⟩
  ·rw[List.mem_singleton.mp hp]
   exact⟨Heap.get?_push_of_some _ hoc,(hnew _ hge).1,(hnew _ hge).2.1,(hnew _ hge).2.2,fun v z=>by rw[hd]at z;cases z⟩
end
end L2
namespace L2
open PySem PySem.Spec PyProof.Rows S64
abbrev lamA (ap:Pos):Arguments:={posonlyargs:=[],args:=[{arg := "word",annotation:=none,pos:=ap}],vararg:=none,kwonlyargs:=[],kw_defaults:=[],kwarg:=none,defaults:=[]}
abbrev lamB (p1 p2 p3 p4 p5:Pos):Expr:=.Tuple [.Call (.Name "len" p1) [.Name "word" p2] [] p3,.Name "word" p4] 0 p5
abbrev lamS:Scope:={kind:=.function,names:=[(Str.ofString "word",.local),(Str.ofString "len",.globalImplicit)],isGenerator:=false,isCoroutine:=false,more:=[]}
theorem lamScope:FnScope ["word"] ["word"] lamS:=⟨rfl,rfl,rfl,by decide,rfl,fun x hx=>.inl (by rw[List.mem_singleton.mp hx];rfl),fun y hy=>by
 rcases List.mem_cons.mp hy with rfl|hy
 ·simp
 ·rw[List.mem_singleton.mp hy];simp⟩
def tSortedK (K:PySem.W.Frag)(P:Addr)(t:TA):TE:=fun σ H Q=>t σ H fun vs H1=>∃l ws,vs=[.ref l]/\SqL K H1 l (wv ws)/\WsOk K H1 ws/\ws.length<sizeLine/\H1 P=some (.tbl #[]) /\
 ∀ps' H2 D os,Same (upd H1 P (.tbl ps')) H2->H1 D=none->H2 D=some (.lst (wv os))->os.Perm ws->Srt os->Q (.ref D) H2
theorem r_sortedK {K:PySem.W.Frag}{P:Addr}{t:TA}{σ:St}{H:Hp}{Q:VK}:tSortedK K P t σ H Q=t σ H fun vs H1=>∃l ws,vs=[.ref l]/\SqL K H1 l (wv ws)/\WsOk K H1 ws/\ws.length<sizeLine/\H1 P=some (.tbl #[]) /\
 ∀ps' H2 D os,Same (upd H1 P (.tbl ps')) H2->H1 D=none->H2 D=some (.lst (wv os))->os.Perm ws->Srt os->Q (.ref D) H2:=rfl
theorem pe_sortedK {X:Cx}{e:Expr}{ta:TA}{c P:Addr}{k:Nat}{p kp pos lp ap p1 p2 p3 p4 p5:Pos}(hr:Room (k+3) X.A)(hg:Gl X "sorted")(hm:X.mg "sorted"=none)(hml:X.mg "len"=none)(hcode:X.env.code=.ref c)(C:PySem.W.CodeHd X.base c P)(hbm:BmOk X.mg X.base)
  (ha:PA X [e] ta)
  (he:backTo pos (starEach [e] X.env)=(false,eval e X.env)::backTo pos (starEach [] X.env):=by rfl) (hpl:(backTo pos (starEach [e] X.env)).any (·.1)=false:=by rfl):
  PE X (.Call (.Name "sorted" p) [e] [⟨some "key",.Lambda (lamA ap) (lamB p1 p2 p3 p4 p5) lamS lp,kp⟩] pos) (tSortedK X.K P ta):=by
 intro pins s σ H Q I h
 refine wpAny_Call_Name_kw (ld_blt I hg hm rfl ?_)
 refine callWith_kw ?_ he hpl
 refine thn (ha pos pins s σ H _ I h) fun us s1 ⟨vs,H1,I1,r1,q1⟩=>?_
 obtain⟨l,ws,rfl,hl,hW,hz,hP,q⟩:=q1
 obtain⟨u1,rfl,rx⟩:=vals1 r1
 cases rx
 refine kws_cons (lam_make I1 hcode C hP (by trivial) rfl hbm rfl rfl fun f c' oc vs t ctv ps' s2 I2 hd hv=>kws_nil ?_)
 show wpAny (model X.prog X.w) X.A (call (.builtin "sorted") [.ref l] [(Str.ofString "key",.ref f)]) _ _ s2
 have nP:∀b ys,SqT X.K H1 b ys->SqT X.K (upd H1 P (.tbl (#[]++ps'))) b ys:=by
  have:TSq X.K H1 (upd H1 P (.tbl (#[]++ps'))):=TSq.un (fun xs e=>by rw[hP]at e;cases e) (fun ob xs e=>by rw[hP]at e;cases e)
  exact this
 have hl2:SqL X.K (upd H1 P (.tbl (#[]++ps'))) l (wv ws):=by
  rcases hl with hl|hl
  ·left
   have hlP:l≠P:=fun z=>by
    subst z
    rcases hl with hl|⟨o,hl⟩<;>(rw[hP]at hl;cases hl)
   rcases hl with hl|⟨o,hl⟩
   ·exact .inl (by rw[upd_ne hlP];exact hl)
   ·exact .inr ⟨o,by rw[upd_ne hlP];exact hl⟩
  ·exact .inr hl
 refine sorted74 I2 (by have:=hr.un;omega) hl2 hz (fun w hw=>nP _ _ (hW w hw)) (fun w hw H' s' I' hS=>?_) (fun s' H' D os I' g1 g2 g3 g4 g5=>?_)
 ·have hf:=(I'.pin _ (List.mem_append_right _ (List.mem_append_right _ (List.mem_cons_self)))).1
  have hc':=(I'.pin _ (List.mem_append_right _ (List.mem_append_right _ (List.mem_cons_of_mem _ (List.mem_cons_self))))).1
  have hcr:s'.heap.CodeRec (.ref c') (X.env.qual ++ "<lambda>"):=⟨c',oc,vs,t,rfl,hc',hd,hv⟩
  have hwT:SqT X.K H' w.1 (w.2.map V.int):=hS.seqT (nP _ _ (hW w hw))
  refine wpAny_call (codeAny_mono (lam_of (k:=k) (N:=["word"]) (ps:=["word"]) (vs:=[.ref w.1]) (us:=[.ref w.1]) (E:=fun _ _ _=>False) (Q:=fun kv H''=>∃t,kv=.ref t/\Same H' H''/\SqT X.K H'' t [.int w.2.length,.ref w.1]) lamScope hr.in1.in1 I'.env0.in1.in1 hf hcr rfl (.cons rfl .nil) rfl
   (pe_tup (pa_cons (pe_callB call_len_seq rfl hml rfl (pa_cons (pv 0) pa_nil)) (pa_cons (pv 0) pa_nil))) ?_) fun r s2 hq=>?_)
  ·refine⟨.ref w.1,rfl,w.1,w.2.map V.int,rfl,.inr hwT,.ref w.1,rfl,?_,fun p hp=>?_⟩
   ·show 2<=sizeLine
    decide
   ·rw[List.length_map]
    exact⟨p,rfl,Same.new hp,.inl (.inl upd_same)⟩
  ·cases r with
   |error e=>exact hq.elim
   |ok fl=>
    cases fl with
    |ret u=>exact I'.after hq
    |next=>exact False.elim hq
    |brk=>exact False.elim hq
    |cont=>exact False.elim hq
 ·have hD:H1 D=none:=by
   by_cases hb:D=P
   ·subst hb;rw[upd_same]at g2;cases g2
   ·rw[upd_ne hb]at g2;exact g2
  exact⟨.ref D,H',I'.unpinned,rfl,q _ H' D os g1 hD g3 g4 g5⟩
end L2
namespace L2
open PySem PySem.Spec PyProof.Rows
theorem law_callT {P:Program}{w:World}{K:PySem.W.Frag}{mg mb:Str->Option Value}{CX:CXT}{k:Nat}{fa a c T:Addr}{fd:FuncData}{x:Str}{sp:Sp}{s₁:Shared}{vs:List Value}{ns:List Int}
  (KX:K.In s₁.heap) (hns:s₁.heap.Ns mainGlobals mg) (hb:s₁.heap.Ns builtinsNs mb) (hbb:∀x:Str,x ≠ "__name__" -> mb x=bootBuiltins x) (hlim:s₁.heap.NoLimit) (hg:s₁.gens = #[]) (hbm:BmOk mg s₁.heap)
  (hC:PySem.W.CodeHd s₁.heap c T) (hT:s₁.heap.get? T=some (PySem.W.tabObj #[])) (hKT:K.lookup T=none)
  (ha:s₁.heap.get? a=some {cls:=.type "list",data:=.seq vs.toArray}) (hi:IntsAre vs ns) (hl:ns.length<=sizeLine) (hr:Room k callerA)
  (F:∀base:Heap,K.In base->base.Ns mainGlobals mg->PySem.W.CodeHd base c T->BmOk mg base->FnOk P w K mg base CX k fa fd [x] sp) (hbind:∀(s:Shared) (u:Value),BindsTo s fd ⟨[u],[]⟩ [(x,u)])
  (hsp:∀H:Hp,H T=some (.tbl #[])->SqL K H a (ns.map V.int)->sp [.ref a] H (fun v _=>v=.bl true) fun _ _ _=>False)
  (hCX:∀H e s',CX [] H s₁ (fun _ _ _=>False) e s'->False):
  codeAny (model P w) callerA (.call (.ref fa) ⟨[.ref a],[]⟩) (fun r s'=>r=.ok (.ret (.bool true))/\OldK s₁.heap s'.heap/\s'.os=s₁.os/\AllBare s'.gens) s₁:=by
 have rv:=vals_ints hi
 have lenV:=hi.length
 have hTa:T≠a:=fun z=>by subst z;rw[hT]at ha;cases ha
 have core:∀H:Hp,H T=some (.tbl #[])->SqL K H a (ns.map V.int)->HOk P w H s₁.heap->(∀b,H b≠none->b=T\/(b=a/\K.lookup a=none/\∃o xs,H a=some (.frz o (.lst xs)))) ->
   codeAny (model P w) callerA (.call (.ref fa) ⟨[.ref a],[]⟩) (fun r s'=>r=.ok (.ret (.bool true))/\OldK s₁.heap s'.heap/\s'.os=s₁.os/\AllBare s'.gens) s₁:=by
  intro H hHT hS hok hA
  have free:∀{b:Addr} {o:Obj},s₁.heap.get? b=some o->o.cls ≠ .none->o.data ≠ .seq vs.toArray 0->H b=none:=fun {b o} e h1 h2=>by
   cases q:H b with
   |none=>rfl
   |some u=>
    rcases hA b (by rw[q];simp) with rfl|⟨rfl,_⟩
    ·rw[hT]at e;cases e;exact absurd rfl h1
    ·rw[ha]at e;cases e;exact absurd rfl h2
  have nsK:∀{b:Addr} {m:Str->Option Value},s₁.heap.Ns b m->(hidT s₁.heap H).Ns b m:=fun {b m} ⟨o,es,ep,e,d,r⟩=>⟨o,es,ep,hidT_get e (by
   cases q:H b with
   |none=>rfl
   |some u=>
    rcases hA b (by rw[q];simp) with rfl|⟨rfl,_⟩
    ·rw[hT]at e;cases e;cases d
    ·rw[ha]at e;cases e;cases d),d,r⟩
  have hKb:K.In (hidT s₁.heap H):=fun b o e=>hidT_get (KX b o e) (by
   cases q:H b with
   |none=>rfl
   |some u=>
    rcases hA b (by rw[q];simp) with rfl|⟨rfl,z,_⟩
    ·rw[hKT]at e;cases e
    ·rw[z]at e;cases e)
  have hM:Mod K mg (hidT s₁.heap H):=⟨hKb,nsK hns,⟨mb,nsK hb,hbb⟩,let ⟨mc,h1,h2⟩:=hlim;⟨mc,nsK h1,h2⟩⟩
  have e0:Env0 P w K mg (hidT s₁.heap H) callerA [] s₁ H:=⟨rfl,hM,fun b o e=>of_hidT e,Nat.le_of_eq (hidT_size _ _),trivial,fun b hb=>absurd (show b∈([]:List Addr) from hb) (by simp),hok,.of_eq hg⟩
  have hCb:PySem.W.CodeHd (hidT s₁.heap H) c T:=by
   obtain⟨o,ws,file,tf,flags,tg,inF,text,tt,e,hc,hd,r⟩:=id hC
   exact⟨o,ws,file,tf,flags,tg,inF,text,tt,hidT_get e (free e (by rw[hc];intro z;cases z) (by rw[hd];intro z;cases z)),hc,hd,r⟩
  have hbb2:BmOk mg (hidT s₁.heap H):=by
   obtain⟨bm,ob,b1,b2,b3,b4,b5,b6⟩:=hbm
   exact⟨bm,ob,b1,b2,hidT_get b3 (free b3 (by rw[b4];intro z;cases z) (by rw[b6];intro z;cases z)),b4,b5,b6⟩
  refine codeAny_mono ((F _ hKb (nsK hns) hCb hbb2).run callerA [] s₁ H ⟨[.ref a],[]⟩ [.ref a] [.ref a] _ _ hr e0 (hbind s₁ (.ref a)) (.cons rfl .nil) (hsp H hHT hS)) fun r s' h=>?_
  cases r with
  |error e=>exact (hCX H e s' h).elim
  |ok fl=>
   cases fl with
   |next=>exact False.elim h
   |brk=>exact False.elim h
   |cont=>exact False.elim h
   |ret u=>
    obtain⟨v,H',os,bare,un,hok',r',q⟩:=h
    have q':v=.bl true:=q
    subst q'
    obtain rfl:u=Value.bool true:=r'
    have noB:∀b:Addr,b∉frs ([]:List Env):=fun b z=>absurd (show b∈([]:List Addr) from z) (by simp)
    have all:∀b o,s₁.heap.get? b=some o->asItWas s₁.heap s'.heap b o:=fun b o e=>by
     cases q:H b with
     |none=>exact .inl (un.keep b o e q (noB b) (by simp))
     |some u=>
      rcases hA b (by rw[q];simp) with rfl|⟨rfl,_,ob,xs,z⟩
      ·obtain⟨more,z2⟩:=un.tbls b _ hHT
       have e2:s'.heap.get? b=some {cls:=.none,data:=.fields (#[]++more)}:=hok' b _ z2
       rw[hT]at e;cases e
       obtain⟨o',ws,_,_,_,_,_,_,_,e3,hc,hd,h11,_⟩:=hC
       exact .inr (.inl ⟨⟨c,o',ws,e3,hc,hd,h11⟩,rfl,#[],more,rfl,e2⟩)
      ·have z2:=un.frzs b ob _ z
       obtain⟨e1,_⟩:=hok b _ z
       obtain⟨e2,_⟩:=hok' b _ z2
       rw[e]at e1;cases e1
       exact .inl e2
    refine⟨rfl,⟨all,fun b o e=>?_⟩,os,bare⟩
    exact un.there b o e (by simp)
 cases hk:K.lookup a with
 |some o=>
  have e:=KX a o hk
  rw[ha]at e
  cases e
  refine core (fun b=>if b=T then some (.tbl #[]) else none) (if_pos rfl) (.inr ⟨_,vs.toArray,_,hk,rfl,rfl,rfl,by rw[List.size_toArray,lenV];exact hl,by simpa using rv⟩) (fun b u z=>?_) (fun b z=>?_)
  ·by_cases hb:b=T
   ·have z':=(if_pos hb).symm.trans z
    cases z';subst hb;exact hT
   ·have z':=(if_neg hb).symm.trans z
    cases z'
  ·by_cases hb:b=T
   ·exact .inl hb
   ·exact absurd (if_neg hb) z
 |none=>
  refine core (fun b=>if b=T then some (.tbl #[]) else if b=a then some (.frz {cls:=.type "list",data:=.seq vs.toArray} (.lst (ns.map V.int))) else none) (if_pos rfl) (.inl (.inr ⟨{cls:=.type "list",data:=.seq vs.toArray},by show (if a=T then _ else _)=_;rw[if_neg (Ne.symm hTa),if_pos rfl]⟩)) (fun b u z=>?_) (fun b z=>?_)
  ·by_cases hb:b=T
   ·have z':=(if_pos hb).symm.trans z
    cases z';subst hb;exact hT
   ·have z1:=(if_neg hb).symm.trans z
    by_cases hb2:b=a
    ·have z':=(if_pos hb2).symm.trans z1
     cases z'
     subst hb2
     exact⟨ha,by rw[List.length_map];exact hl,vs,_,rv,ha⟩
    ·have z':=(if_neg hb2).symm.trans z1
     cases z'
  ·by_cases hb:b=T
   ·exact .inl hb
   ·by_cases hb2:b=a
    ·exact .inr ⟨hb2,hk,_,_,by show (if a=T then _ else _)=_;rw[if_neg (Ne.symm hTa),if_pos rfl]⟩
    ·exact absurd (by show (if b=T then _ else _)=_;rw[if_neg hb,if_neg hb2]) z
theorem walk_ofT {l:PySem.W.OpenLaw}{n k:Nat}{q:Program}{loose:List Str}{XP:(Str->Option Value)->Heap->Prop}{YP:World->Heap->Prop}{d:DefRec}{K:Params->PySem.W.Frag}{CX:World->CXT}{sp:World->Sp}{x xT:Str}
  (hn:l.most=some n) (hn2:n<=sizeLine) (hdf:d.params.defaults=[]) (hr:Room k callerA)
  (hY:∀(w:World) (h:Heap),YP w h->(K w.params).In h)
  (F:∀(w:World) (mg:Str->Option Value) (fa:Addr) (h:Heap),YP w h->(K w.params).In h->h.Ns mainGlobals mg->mg d.name=some (.ref fa) ->
   ∃(fd:FuncData) (c T:Addr),PySem.W.tabIn (K w.params) xT=some (c,T)/\(K w.params).lookup T=none/\PySem.W.CodeHd h c T/\h.get? T=some (PySem.W.tabObj #[])/\(∀(s:Shared) (u:Value),BindsTo s fd ⟨[u],[]⟩ [(x,u)]) /\
    ∀base:Heap,(K w.params).In base->base.Ns mainGlobals mg->PySem.W.CodeHd base c T->BmOk mg base->FnOk l.prog w (K w.params) mg base (CX w) k fa fd [x] (sp w))
  (hsp:∀(w:World) (H:Hp) (a c T:Addr) (ns:List Int),ns.length<=n->PySem.W.tabIn (K w.params) xT=some (c,T)->H T=some (.tbl #[])->SqL (K w.params) H a (ns.map V.int)->sp w [.ref a] H (fun v _=>v=.bl true) fun _ _ _=>False)
  (hCX:∀(w:World) (H:Hp) (s:Shared) (e:Value) (s':Shared),CX w [] H s (fun _ _ _=>False) e s'->False):
  PySem.W.WalkO q loose XP YP l.row.toRowW d [] (fun f vs=>PySem.call f vs):=by
 refine Att.attach_call hn hdf fun w s₀ s₁ mg mb fa o pm cd doc a vs ns G Y ho hd hcd hmg hobj hints hlen hg=>?_
 have KX:=hY w _ Y
 obtain⟨fd,c,T,hti,hKT,hC,hT,hb,hF⟩:=F w mg fa _ Y KX G.T.g hmg
 exact law_callT KX G.T.g G.T.b G.T.builtins G.T.nolimit hg (let ⟨bm,ob,b1,b2,b3,b4,b5,b6⟩:=G.T.bmain;⟨bm,ob,b1,b2,b3,b4,b5,b6⟩) hC hT hKT hobj hints (Nat.le_trans hlen hn2) hr hF hb (fun H hO hS=>hsp w H a c T ns hlen hti hO hS) fun H e s'=>hCX w H s₁ e s'
def tabC (K:PySem.W.Frag)(x:Str):Addr:=((PySem.W.tabIn K x).getD (0,0)).1
def tabP (K:PySem.W.Frag)(x:Str):Addr:=((PySem.W.tabIn K x).getD (0,0)).2
theorem tabC_of {K:PySem.W.Frag}{x:Str}{c T:Addr}(h:PySem.W.tabIn K x=some (c,T)):tabC K x=c:=by unfold tabC;rw[h];rfl
theorem tabP_of {K:PySem.W.Frag}{x:Str}{c T:Addr}(h:PySem.W.tabIn K x=some (c,T)):tabP K x=T:=by unfold tabP;rw[h];rfl
theorem tabIn_mk {K:PySem.W.Frag}{x:Str}{f c T:Addr}{fd:FuncData}{oc oc2:Value}{od od2:Option Addr}{sl sl2:Array (Option Value)}{vs:Array Value}(a:PySem.W.nsIn K mainGlobals x=some (some (.ref f)))(l:K.lookup f=some ⟨oc,od,.func fd,sl⟩)(hc:fd.code=.ref c)
  (lc:K.lookup c=some ⟨oc2,od2,.fields vs,sl2⟩) (h:vs[11]?=some (.ref T)):PySem.W.tabIn K x=some (c,T):=by
 unfold PySem.W.tabIn
 rw[a]
 dsimp only
 rw[l]
 dsimp only
 rw[hc]
 dsimp only
 rw[lc]
 dsimp only
 rw[h]
structure FunL (K:PySem.W.Frag)(mg:Str->Option Value)(base:Heap)(x qual:Str)(st:Stmt)(f:Addr)(fd:FuncData):Prop where
 ex:∃(oc:Value) (od:Option Addr) (kV doc pm:Value) (an:Option Addr) (ct:Value) (osl:Array (Option Value)),
  fd=PySem.W.fnOf x qual (defArgs st) (defBody st) (defScope st) .none kV doc pm an (.ref (tabC K x)) ct/\K.lookup f=some ⟨oc,od,.func fd,osl⟩/\PySem.W.codeIn K (.ref (tabC K x)) qual=true
 C:PySem.W.CodeHd base (tabC K x) (tabP K x)
 B:BmOk mg base
section
variable {P:Program} {w:World} {K:PySem.W.Frag} {mg:Str->Option Value} {base:Heap}
theorem FunL.ok {x qual:Str}{st:Stmt}{f:Addr}{fd:FuncData}{N ps:List Str}{k:Nat}{sp:Sp}(F:FunL K mg base x qual st f fd)(S:FnScope N ps (defScope st))(len:∀vs H Q E,sp vs H Q E->vs.length=ps.length)
  (hbody:∀(cdv:Value) (hcd:cdv=.ref (tabC K x)) (A:Around) (outer:List Env) (s:Shared) (H:Hp) (vs:List V) (Q:VK) (E:XK),Room k (A.deeper (envOfC qual (defScope st) s.heap.objs.size f cdv))->sp vs H Q E ->
   ∃t,PSs (cxOf CX0 P w K mg base N qual (defScope st) f cdv A outer s H E).nox (defBody st) t/\t {nx:=fun _ H'=>Q .non H',rt:=Q} (start N vs) H):FnOk P w K mg base CX0 (k+1) f fd ps sp:=by
 obtain⟨oc,od,kV,doc,pm,an,ct,osl,rfl,lk,hcd⟩:=F.ex
 refine fn_of lk hcd S len fun A outer s H vs Q E hr hsp=>?_
 obtain⟨t,h,q⟩:=hbody _ rfl A outer s H vs Q E hr hsp
 exact⟨t,h.nox,q⟩
theorem funL_mk {x qual:Str}{st:Stmt}{f c T:Addr}{oc:Value}{od an:Option Addr}{osl:Array (Option Value)}{kV doc pm ct:Value}(ti:PySem.W.tabIn K x=some (c,T))(l:K.lookup f=some ⟨oc,od,.func (PySem.W.fnOf x qual (defArgs st) (defBody st) (defScope st) .none kV doc pm an (.ref c) ct),osl⟩)
  (hc:PySem.W.codeIn K (.ref c) qual=true) (C:PySem.W.CodeHd base c T) (B:BmOk mg base):FunL K mg base x qual st f (PySem.W.fnOf x qual (defArgs st) (defBody st) (defScope st) .none kV doc pm an (.ref c) ct):=
 ⟨⟨oc,od,kV,doc,pm,an,ct,osl,by rw[tabC_of ti],l,by rw[tabC_of ti];exact hc⟩,by rw[tabC_of ti,tabP_of ti];exact C,B⟩
end
end L2
namespace Mine
open PySem L2 GW GB
local macro_rules | `(tactic| walk_at "rd") => `(tactic| (try dsimp only[↓r_varD,vD_some,↓r_ID,↓r_I0D,iD_int,↓r_BD,bD_bl,↓r_EqF,eD_int,eD_str,eD_non,eD_bl,↓r_ixTD,↓r_ixLD,aD_ref,nD_int,↓r_lenD,lD1_one,↓r_seq,↓r_next,↓r_asg,↓r_gname,↓r_var,↓r_c,↓r_op,↓r_un,↓r_I,↓r_I0,↓r_U,↓r_call,↓r_cons,↓r_nil,↓r_ret,↓r_drop,↓r_if,↓r_B,↓r_test,↓r_and,↓r_or,↓r_not,↓r_chain,↓r_CB,↓r_lst,↓r_tup,↓r_ixL,↓r_ixT,↓r_sl,↓r_part,↓r_nopart,↓r_slT,↓r_BM,↓r_append,↓r_gsub,↓r_setL,↓r_Eq,↓r_iList,↓r_iTup,↓r_iRng1,↓r_aug,↓r_ip,↓r_true,↓r_comp,↓r_for,↓r_extend,↓r_rep,↓r_raise,↓r_iEnumT,↓r_disp1,↓r_listRng,↓r_gTup,↓r_gCons,↓r_gNil,↓r_dget,↓r_dnotin,↓r_dput,↓r_dget1,↓r_disp,↓r_pairs0,↓r_pairs1,↓r_geP,↓r_iSeq,↓r_listZip,↓r_dnewB,r_ixB,↓r_setdefK,r_sortedK,↓r_dnewK,↓r_dnewT,r_cxK,L2.start,List.map_cons,List.map_nil,List.length_cons,List.length_nil,List.cons_append,List.nil_append,List.replicate,List.getElem?_cons_zero,List.getElem?_cons_succ,List.set_cons_zero,List.set_cons_succ,scal])<;>(try simp only[↓r_varD,vD_some,↓r_ID,↓r_I0D,iD_int,↓r_BD,bD_bl,↓r_EqF,eD_int,eD_str,eD_non,eD_bl,↓r_ixTD,↓r_ixLD,aD_ref,nD_int,↓r_lenD,lD1_one,iD_ex,bD_ex,eD_ex,aD_ex,nD_ex,↓r_seq,↓r_next,↓r_asg,↓r_gname,↓r_var,↓r_c,↓r_op,↓r_un,↓r_I,↓r_I0,↓r_U,↓r_call,↓r_cons,↓r_nil,↓r_ret,↓r_drop,↓r_if,↓r_B,↓r_test,↓r_and,↓r_or,↓r_not,↓r_chain,↓r_CB,↓r_lst,↓r_tup,↓r_ixL,↓r_ixT,↓r_sl,↓r_part,↓r_nopart,↓r_slT,↓r_BM,↓r_append,↓r_gsub,↓r_setL,↓r_Eq,↓r_iList,↓r_iTup,↓r_iRng1,↓r_aug,↓r_ip,↓r_true,↓r_comp,↓r_for,↓r_extend,↓r_rep,↓r_raise,↓r_iEnumT,↓r_disp1,↓r_listRng,↓r_gTup,↓r_gCons,↓r_gNil,↓r_dget,↓r_dnotin,↓r_dput,↓r_dget1,↓r_disp,↓r_pairs0,↓r_pairs1,↓r_geP,↓r_iSeq,↓r_listZip,↓r_dnewB,r_ixB,↓r_setdefK,r_sortedK,↓r_dnewK,↓r_dnewT,r_cxK,L2.start,List.map_cons,List.map_nil,List.length_cons,List.length_nil,List.cons_append,List.nil_append,List.append_nil,List.replicate,List.getElem?_cons_zero,List.getElem?_cons_succ,List.set_cons_zero,List.set_cons_succ,Option.some.injEq,V.int.injEq,V.str.injEq,V.ref.injEq,V.bl.injEq,List.cons.injEq,and_true,true_and,and_assoc,exists_and_left,exists_eq_left',exists_eq_left,exists_eq_right,exists_eq,if_true,if_false,Bool.false_eq_true,decide_eq_true_eq,scal,Nat.reduceAdd,Nat.reduceSub,reduceCtorEq,Bool.not_true,Bool.not_false]))
local macro_rules | `(tactic| walk_at "sc") => `(tactic| exact⟨rfl,rfl,rfl,by decide +kernel,rfl,by decide +kernel,by decide +kernel⟩)
def top (i:Nat):Stmt:=PySem.Challenge.pw_guessroom_k22_suite_words.main.body.getD i (.Pass ⟨0,0,0,0⟩)
abbrev s_is_word:Stmt:=top 4
theorem sc_is_word:FnScope ["letters","word"] ["letters","word"] (defScope s_is_word):=by walk_at "sc"
abbrev s_check_word:Stmt:=top 5
theorem sc_check_word:FnScope ["letters","word"] ["letters","word"] (defScope s_check_word):=by walk_at "sc"
abbrev s_next_word:Stmt:=top 6
theorem sc_next_word:FnScope ["letters","word","kept"] ["letters","word"] (defScope s_next_word):=by walk_at "sc"
abbrev s_words_to:Stmt:=top 7
theorem sc_words_to:FnScope ["letters","most","words","word"] ["letters","most"] (defScope s_words_to):=by walk_at "sc"
abbrev s_trail:Stmt:=top 9
theorem sc_trail:FnScope ["house","word","ways","rooms","letter"] ["house","word"] (defScope s_trail):=by walk_at "sc"
abbrev s_room_behind:Stmt:=top 10
theorem sc_room_behind:FnScope ["house","word"] ["house","word"] (defScope s_room_behind):=by walk_at "sc"
abbrev s_words_in:Stmt:=top 12
theorem sc_words_in:FnScope ["house","words","rooms","walked","room","letter","goal"] ["house"] (defScope s_words_in):=by walk_at "sc"
abbrev s_ways_in:Stmt:=top 13
theorem sc_ways_in:FnScope ["house","words"] ["house"] (defScope s_ways_in):=by walk_at "sc"
abbrev s_reached:Stmt:=top 14
theorem sc_reached:FnScope ["house"] ["house"] (defScope s_reached):=by walk_at "sc"
abbrev s_numbered:Stmt:=top 16
theorem sc_numbered:FnScope ["row","numbers","thing"] ["row"] (defScope s_numbered):=by walk_at "sc"
abbrev s_words_and_classes:Stmt:=top 17
theorem sc_words_and_classes:FnScope ["house","words","marks_behind","classes","walked","letter","marks","finer"] ["house"] (defScope s_words_and_classes):=by walk_at "sc"
abbrev s_tellers:Stmt:=top 18
theorem sc_tellers:FnScope ["house"] ["house"] (defScope s_tellers):=by walk_at "sc"
abbrev s_classes_of:Stmt:=top 19
theorem sc_classes_of:FnScope ["house"] ["house"] (defScope s_classes_of):=by walk_at "sc"
abbrev s_homes:Stmt:=top 21
theorem sc_homes:FnScope ["house","classes","numbers","told","room"] ["house"] (defScope s_homes):=by walk_at "sc"
abbrev s_least:Stmt:=top 22
theorem sc_least:FnScope ["house","home_of","marks","ways","room"] ["house"] (defScope s_least):=by walk_at "sc"
abbrev s_in_order:Stmt:=top 24
theorem sc_in_order:FnScope ["words","once","word"] ["words"] (defScope s_in_order):=by walk_at "sc"
abbrev s_words_with:Stmt:=top 25
theorem sc_words_with:FnScope ["base","more","ends","words","way","middle","first"] ["base","more","ends"] (defScope s_words_with):=by walk_at "sc"
abbrev s_suite:Stmt:=top 26
theorem sc_suite:FnScope ["house","more","base","words"] ["house","more"] (defScope s_suite):=by walk_at "sc"
abbrev s__law_cell_at:Stmt:=top 28
theorem sc__law_cell_at:FnScope ["script","k"] ["script","k"] (defScope s__law_cell_at):=by walk_at "sc"
abbrev s__law_mixed:Stmt:=top 29
theorem sc__law_mixed:FnScope ["number","k","many","turn"] ["number","k","many"] (defScope s__law_mixed):=by walk_at "sc"
abbrev s__law_marks_by:Stmt:=top 30
theorem sc__law_marks_by:FnScope ["number","rooms","way","top","marks","room","mark"] ["number","rooms"] (defScope s__law_marks_by):=by walk_at "sc"
abbrev s__law_ways_by:Stmt:=top 31
theorem sc__law_ways_by:FnScope ["script","letters","rooms","shape","ways","room","row","letter","k","goal"] ["script","letters","rooms"] (defScope s__law_ways_by):=by walk_at "sc"
abbrev s__law_blown:Stmt:=top 32
theorem sc__law_blown:FnScope ["house","number","rooms","small","fold","ways","room","row","letter","goal","twins"] ["house","number","rooms"] (defScope s__law_blown):=by walk_at "sc"
abbrev s__law_house_by:Stmt:=top 33
theorem sc__law_house_by:FnScope ["script","letters","rooms","marks","house","number"] ["script"] (defScope s__law_house_by):=by walk_at "sc"
abbrev s__law_more_by:Stmt:=top 34
theorem sc__law_more_by:FnScope ["script","house","number"] ["script","house"] (defScope s__law_more_by):=by walk_at "sc"
abbrev s__law_is_word:Stmt:=top 35
theorem sc__law_is_word:FnScope ["found","letters","letter"] ["found","letters"] (defScope s__law_is_word):=by walk_at "sc"
abbrev s__law_words:Stmt:=top 36
theorem sc__law_words:FnScope ["found","letters","last","word"] ["found","letters"] (defScope s__law_words):=by walk_at "sc"
abbrev s__law_middles:Stmt:=top 37
theorem sc__law_middles:FnScope ["letters","many","row","at","word","letter"] ["letters","many"] (defScope s__law_middles):=by walk_at "sc"
abbrev s_law:Stmt:=top 38
theorem sc_law:FnScope ["script","house","many","found","base","ends","due","first","middle","end","word"] ["script"] (defScope s_law):=by walk_at "sc"
def c_is_word_0:Caps:=[("letter",none),("letters",some 0)]
theorem nd_c_is_word_0:(Caps.names c_is_word_0).Nodup:=by decide +kernel
def c_ways_in_0:Caps:=[("room",none),("words",some 1)]
theorem nd_c_ways_in_0:(Caps.names c_ways_in_0).Nodup:=by decide +kernel
def c_numbered_0:Caps:=[("thing",none),("numbers",some 1)]
theorem nd_c_numbered_0:(Caps.names c_numbered_0).Nodup:=by decide +kernel
def c_words_and_classes_0:Caps:=[("goals",none),("marks_behind",some 2),("walked",some 4),("letter",some 5)]
theorem nd_c_words_and_classes_0:(Caps.names c_words_and_classes_0).Nodup:=by decide +kernel
def c_least_3:Caps:=[("goal",none),("home_of",some 1)]
theorem nd_c_least_3:(Caps.names c_least_3).Nodup:=by decide +kernel
def c_words_with_0:Caps:=[("end",none),("first",some 6)]
theorem nd_c_words_with_0:(Caps.names c_words_with_0).Nodup:=by decide +kernel
def c_suite_0:Caps:=[("mark",none),("words",some 3)]
theorem nd_c_suite_0:(Caps.names c_suite_0).Nodup:=by decide +kernel
def c__law_blown_0:Caps:=[("twin",none),("goal",some 9),("fold",some 4)]
theorem nd_c__law_blown_0:(Caps.names c__law_blown_0).Nodup:=by decide +kernel
def c__law_blown_4:Caps:=[("room",none),("house",some 0)]
theorem nd_c__law_blown_4:(Caps.names c__law_blown_4).Nodup:=by decide +kernel
structure Txt (mg:Str->Option Value):Prop where
 all:mg "all"=none
 bool:mg "bool"=none
 enumerate:mg "enumerate"=none
 int:mg "int"=none
 isinstance:mg "isinstance"=none
 len:mg "len"=none
 list:mg "list"=none
 max:mg "max"=none
 min:mg "min"=none
 range:mg "range"=none
 sorted:mg "sorted"=none
 tuple:mg "tuple"=none
 zip:mg "zip"=none
structure Exs (K:PySem.W.Frag)(mg:Str->Option Value)(C_AskError C_BadWord:Addr):Prop where
 m_AskError:mg "AskError"=some (.ref C_AskError)
 m_BadWord:mg "BadWord"=some (.ref C_BadWord)
 x_BadWord:PySem.W.excIn K C_BadWord bmV "ValueError.__new__"=true
 c_BadWord:ExcCls K C_BadWord
 e_BadWord:PySem.W.exmOne K (.ref C_BadWord) (.ref C_AskError)=some true
 v_BadWord:PySem.W.kitOne K (.ref C_BadWord) (.type "ValueError")=some true
 k_BadWord_AskError:PySem.W.kitOne K (.ref C_BadWord) (.ref C_AskError)=some true
 k_BadWord_BadWord:PySem.W.kitOne K (.ref C_BadWord) (.ref C_BadWord)=some true
section
variable {P:Program} {w:World} {K:PySem.W.Frag} {mg:Str->Option Value} {base:Heap}
variable {C_AskError C_BadWord:Addr}
def sp_is_word (K:PySem.W.Frag):Sp:=fun vs H Q _=>∃(L:Int) (a:Addr) (ws:List Int),vs=[.int L,.ref a]/\SqT K H a (ws.map V.int)/\ws.length<=1000/\∀H',Same H H'->Q (.bl (isW L ws)) H'
theorem ok_is_word {f:Addr}{fd:FuncData}(F:Fun K "is_word" "is_word" s_is_word f fd)(T:Txt mg)
  (Z:Exs K mg C_AskError C_BadWord)
  : FnOk P w K mg base CX0 1 f fd ["letters","word"] (sp_is_word K):=by
 refine F.ok sc_is_word (fun vs H Q E h=>?_) (fun cdv A outer s H vs Q E hr h=>?_)
 ·obtain⟨L,a,ws,rfl,_⟩:=h;rfl
 ·obtain⟨L,a,ws,rfl,hw,hz,k⟩:=h
  have hl:=line1000
  refine⟨_,(pss_one (ps_ret (pe_callB (call_all rfl) rfl T.all PyProof.Rows.boot_all (pa_cons (pe_comp rfl (blk_mk rfl) (cp:=c_is_word_0) ⟨⟨rfl,rfl⟩,True.intro⟩ (pi_tup (pvD 1)) (fun _ _ _ _=>(pg_name (i:=0) nd_c_is_word_0 rfl (Or.inl rfl))) (fun _ _ _ _=>pf_nil) (fun _ _ _ _=>(pe_chain op_le op_lt pe_int (pvD 0) (pvD 1)))) pa_nil)))),?_⟩
  walk_at "rd"
  refine⟨⟨_,hw⟩,compMapT (σ':=[some (.int L)]) (fun x=>match x with | .int n=>.bl (inW L n)|_=>.non) rfl hw (by rw[List.length_map];omega) (fun x hx R hR=>?_) (fun D hD=>?_)⟩
  ·obtain⟨n,_,rfl⟩:=mem_mapI hx
   walk_at "rd"
   by_cases h0:0<=n
   ·simp only[h0,if_true]
    simpa [inW,h0] using hR
   ·simp only[h0,if_false]
    simpa [inW,h0] using hR
  ·refine⟨D,rfl,ws.map (inW L),.inl (.inl ?_),?_⟩
   ·rw[upd_same,List.map_map,List.map_map];rfl
   ·have:=k _ (Same.new hD (o:=.lst ((ws.map V.int).map fun x=>match x with | .int n=>.bl (inW L n)|_=>.non)))
    simpa [isW,List.all_map] using this
def sp_check (K:PySem.W.Frag)(BW:Addr):Sp:=fun vs H Q E=>∃(L:Int) (a:Addr) (ws:List Int),vs=[.int L,.ref a]/\SqT K H a (ws.map V.int)/\ws.length<=1000/\(isW L ws=true->∀H',Same H H'->Q .non H')/\(isW L ws=false->∀H',Same H H'->E (.ref BW) none H')
theorem ok_check_word {f:Addr}{fd:FuncData}(F:Fun K "check_word" "check_word" s_check_word f fd)(T:Txt mg)
  (Z:Exs K mg C_AskError C_BadWord)
  {f_is_word:Addr} {fd_is_word:FuncData} (g_is_word:FnOk P w K mg base CX0 1 f_is_word fd_is_word ["letters","word"] (sp_is_word K)) (F_is_word:Fun K "is_word" "is_word" s_is_word f_is_word fd_is_word) (b_is_word:Binds K fd_is_word ["letters","word"] []) (m_is_word:mg "is_word"=some (.ref f_is_word))
  : FnOk P w K mg base (CXe P w) 2 f fd ["letters","word"] (sp_check K C_BadWord):=by
 refine F.okE sc_check_word (fun vs H Q E h=>?_) (fun cdv A outer s H vs Q E hr h=>?_)
 ·obtain⟨L,a,ws,rfl,_⟩:=h;rfl
 ·obtain⟨L,a,ws,rfl,hw,hz,k,kE⟩:=h
  have hl:=line1000
  refine⟨_,(pss_one (ps_if (pt_not (ptB (pt_val (pe_call g_is_word (hr.mono (by decide)) rfl m_is_word F_is_word.kp b_is_word .nil pass0 (pa_cons (pvD 0) (pa_cons (pvD 1) pa_nil))))))
   (pss_one (ps_raise Z.m_BadWord Z.x_BadWord rfl rfl (pa_cons pe_str pa_nil)))
   pss_nil)),?_⟩
  walk_at "rd"
  refine⟨L,a,ws,rfl,hw,hz,fun H' s'=>?_⟩
  walk_at "rd"
  cases hv:isW L ws with
  |true=>
   simp only[Bool.not_true,Bool.false_eq_true,if_false]
   exact k hv H' s'
  |false=>
   simp only[Bool.not_false,if_true]
   exact⟨by omega,kE hv H' s'⟩
def sp_nextS (K:PySem.W.Frag)(BW:Addr):Sp:=fun vs H Q E=>∃(L:Int) (a:Addr) (ws:List Int),vs=[.int L,.ref a]/\SqT K H a (ws.map V.int)/\ws.length<=990/\(isW L ws=true->∀p H',Same H H'->H' p=some (.tup ((nextW L ws).map V.int))->Q (.ref p) H')/\(isW L ws=false->∀H',Same H H'->E (.ref BW) none H')
theorem ok_next_word {f:Addr}{fd:FuncData}(F:Fun K "next_word" "next_word" s_next_word f fd)(T:Txt mg)
  (Z:Exs K mg C_AskError C_BadWord)
  {f_check_word:Addr} {fd_check_word:FuncData} (g_check_word:FnOk P w K mg base (CXe P w) 2 f_check_word fd_check_word ["letters","word"] (sp_check K C_BadWord)) (F_check_word:Fun K "check_word" "check_word" s_check_word f_check_word fd_check_word) (b_check_word:Binds K fd_check_word ["letters","word"] []) (m_check_word:mg "check_word"=some (.ref f_check_word))
  : FnOk P w K mg base (CXe P w) 3 f fd ["letters","word"] (sp_nextS K C_BadWord):=by
 refine F.okE sc_next_word (fun vs H Q E h=>?_) (fun cdv A outer s H vs Q E hr h=>?_)
 ·obtain⟨L,a,ws,rfl,_⟩:=h;rfl
 ·obtain⟨L,a,ws,rfl,hw,hz,k',kE⟩:=h
  have hl:=line1000
  refine⟨_,(pss_cons (ps_expr (pe_call g_check_word (hr.mono (by decide)) rfl m_check_word F_check_word.kp b_check_word .nil (passE fun _ _ _ h=>h) (pa_cons (pvD 0) (pa_cons (pvD 1) pa_nil))))
   (pss_cons (ps_setL (i:=2) sc_next_word.nd (pe_callB (lenD call_len_seq) (by rfl) T.len PySem.boot_len (pa_cons (pvD 1) pa_nil)))
   (pss_cons (ps_while PassesOwn.leaving (PW.pt (pw_and (ptT (pt_cmpR (opD0 op_gt) (pvD 2) pe_int (nomark _))) (pw_and1 (ptT (pt_cmpR (opE op_eq) (pe_ixA (ixTD ix_tup) (pvD 1) (pe_op (opD0 op_sub) (pvD 2) pe_int)) (pe_op (opD0 op_sub) (pvD 0) pe_int) (nomark _))))))
   (pss_one (ps_aug (i:=2) sc_next_word.nd rfl (Or.inl rfl) pe_int ip_sub)))
   (pss_cons (ps_if (ptT (pt_cmpR (opE op_eq) (pvD 2) pe_int (nomark _)))
   (pss_one (ps_ret (pe_op op_repT (pe_tup (pa_cons pe_int pa_nil)) (pe_op (opD0 op_add) (pe_callB (lenD call_len_seq) (by rfl) T.len PySem.boot_len (pa_cons (pvD 1) pa_nil)) pe_int))))
   pss_nil)
   (pss_one (ps_ret (pe_op op_catT2 (pe_op op_catT2 (pe_slice sl_tup (pvD 1) po_none (po_some (pe_op (opD0 op_sub) (pvD 2) pe_int))) (pe_tup (pa_cons (pe_op (opD0 op_add) (pe_ixA (ixTD ix_tup) (pvD 1) (pe_op (opD0 op_sub) (pvD 2) pe_int)) pe_int) pa_nil))) (pe_op op_repT (pe_tup (pa_cons pe_int pa_nil)) (pe_op (opD0 op_sub) (pe_callB (lenD call_len_seq) (by rfl) T.len PySem.boot_len (pa_cons (pvD 1) pa_nil)) (pvD 2)))))))))),?_⟩
  walk_at "rd"
  refine⟨L,a,ws,rfl,hw,by omega,fun hv H1 s1=>?_,kE⟩
  have k:=k' hv
  walk_at "rd"
  have hw1:=s1.seqT hw
  refine⟨_,.inr hw1,?_⟩
  rw[List.length_map]
  obtain⟨Pv,hPv⟩:∃Pv:Nat->St->Hp->Prop,∀m σ2 H2,Pv m σ2 H2↔(H2=H1/\∃kept:Nat,m=kept/\kept<=ws.length/\(∀j,kept<=j->j<ws.length->ws[j]?=some (L-1))/\σ2=[some (.int L),some (.ref a),some (.int kept)]):=⟨_,fun _ _ _=>Iff.rfl⟩
  refine whileW Pv ⟨ws.length,(hPv _ _ _).mpr ⟨rfl,ws.length,rfl,Nat.le_refl _,fun j h1 h2=>absurd h2 (by omega),rfl⟩⟩ ?_
  intro m σ2 H2 hp
  obtain⟨rfl,kept,em,hk,hj,rfl⟩:=(hPv _ _ _).mp hp
  walk_at "rd"
  by_cases h0:0<kept
  ·have hlt:kept-1<ws.length:=by omega
   have hx:ws[kept-1]?=some (ws[kept-1]'hlt):=by simp[hlt]
   have ax:atI (ws.map V.int) ((kept:Int)-1)=some (V.int (ws[kept-1]'hlt)):=atI_of (by omega) (by rw[List.getElem?_map,show ((kept:Int)-1).toNat=kept-1 by omega,hx];rfl)
   rw[if_pos (show (0:Int)<kept by omega)]
   refine⟨_,hw1,_,ax,?_⟩
   walk_at "rd"
   refine ite2 (fun he=>?_) (fun hne=>?_)
   ·refine⟨fun σ' H'=>H'=H2/\σ'=[some (.int L),some (.ref a),some (.int ((kept:Int)-1))],fun σ' H' h=>?_,rfl,rfl⟩
    obtain⟨rfl,rfl⟩:=h
    refine⟨kept-1,by omega,(hPv _ _ _).mpr ⟨rfl,kept-1,rfl,by omega,fun j h1 h2=>?_,by rw[show ((kept-1:Nat):Int)=(kept:Int)-1 by omega]⟩⟩
    by_cases e:j=kept-1
    ·subst e;rw[hx,he]
    ·exact hj j (by omega) h2
   ·-- return word[:kept-1]+(word[kept-1]+1,)+(0,) * ..
    rw[if_neg (show ¬ (kept:Int)=0 by omega)]
    have hcut:¬ (HT.sIx (ws.map V.int).length 0 none=0/\HT.sIx (ws.map V.int).length (ws.map V.int).length (some ((kept:Int)-1))=(ws.map V.int).length):=by
     rintro⟨_,h2⟩
     rw[show (kept:Int)-1=((kept-1:Nat):Int) by omega,HT.sIx_nat,List.length_map]at h2
     omega
    have ecut:cutV (ws.map V.int) none (some ((kept:Int)-1))=(ws.take (kept-1)).map V.int:=by
     rw[cut_ints]
     unfold cutI
     rw[show (kept:Int)-1=((kept-1:Nat):Int) by omega,HT.sIx_nat,HT.sIx_none,List.drop_zero,Nat.sub_zero]
     congr 2
     omega
    refine⟨_,hw1,hcut,fun p1 hp1=>?_⟩
    rw[ecut]
    have t1:Same H2 (upd H2 p1 (.tup ((ws.take (kept-1)).map V.int))):=Same.new hp1
    have q1:(upd H2 p1 (.tup ((ws.take (kept-1)).map V.int))) p1=some (.tup ((ws.take (kept-1)).map V.int)):=upd_same
    generalize upd H2 p1 (.tup ((ws.take (kept-1)).map V.int))=H3 at t1 q1 ⊢
    refine⟨_,t1.seqT hw1,_,ax,?_⟩
    walk_at "rd"
    refine⟨by omega,fun p2 hp2=>?_⟩
    refine rCatT2.ofS ((Same.new hp2) _ _ q1) upd_same (by simp;omega) fun p3 H4 t4 q3=>?_
    walk_at "rd"
    have t5:Same H2 H4:=(t1.newT hp2).trans t4
    refine⟨by omega,fun p4 hp4=>?_⟩
    have q3':=(Same.new hp4 (o:=.tup [V.int 0])) _ _ q3
    have w4:=((t5.newT hp4 (o:=.tup [V.int 0])).seqT hw1)
    have t6:=t5.newT hp4 (o:=.tup [V.int 0])
    have z4:(upd H4 p4 (.tup [V.int 0])) p4=some (.tup [V.int 0]):=upd_same
    generalize upd H4 p4 (.tup [V.int 0])=H5 at q3' w4 t6 z4 ⊢
    refine⟨_,.inr w4,?_⟩
    refine rRepT.ofS z4 (by simp) (by omega) (by rw[List.length_map];omega) (by simp;omega) fun p5 H6 t7 q5=>?_
    refine rCatT2.ofS (t7 _ _ q3') q5 (by simp[flat_rep1];omega) fun p6 H7 t8 q6=>?_
    refine k p6 H7 (s1.trans (t6.trans (t7.trans t8))) ?_
    have e:=next_of_kept (L:=L) (w:=ws) (k:=kept-1) hlt (fun j h1 h2=>hj j (by omega) h2) hx (by intro z;exact hne (by rw[z]))
    rw[e]
    rw[flat_rep1]at q6
    have en:(((ws.map V.int).length:Int)-(kept:Int)).toNat=ws.length-(kept-1+1):=by rw[List.length_map];omega
    rw[en]at q6
    simpa [List.map_append,List.map_replicate] using q6
  ·have h00:kept=0:=by omega
   subst h00
   rw[if_neg (by omega)]
   walk_at "rd"
   refine⟨by omega,fun p1 hp1=>?_⟩
   refine⟨_,.inr ((Same.new hp1).seqT hw1),?_⟩
   refine rRepT.ofS upd_same (by simp) (by omega) (by rw[List.length_map];omega) (by simp;omega) fun p5 H6 t7 q5=>?_
   refine k p5 H6 (s1.trans ((Same.new hp1).trans t7)) ?_
   rw[next_of_all (L:=L) (w:=ws) hj]
   rw[flat_rep1]at q5
   have en:(((ws.map V.int).length:Int)+1).toNat=ws.length+1:=by rw[List.length_map];omega
   rw[en]at q5
   simpa [List.map_replicate] using q5
def sp_wto (K:PySem.W.Frag):Sp:=fun vs H Q _=>∃(L:Int) (m:Nat),vs=[.int L,.int m]/\1<=L/\L<=6/\m<=8/\many L (m+1)<=4000/\∀p xs H',Same H H'->H p=none->H' p=some (.lst xs)->WordsT K H' xs ((List.range (many L (m+1)).toNat).map (nth L))->Q (.ref p) H'
theorem ok_words_to {f:Addr}{fd:FuncData}(F:Fun K "words_to" "words_to" s_words_to f fd)(T:Txt mg)
  (Z:Exs K mg C_AskError C_BadWord)
  {f_next_word:Addr} {fd_next_word:FuncData} (g_next_word:FnOk P w K mg base (CXe P w) 3 f_next_word fd_next_word ["letters","word"] (sp_nextS K C_BadWord)) (F_next_word:Fun K "next_word" "next_word" s_next_word f_next_word fd_next_word) (b_next_word:Binds K fd_next_word ["letters","word"] []) (m_next_word:mg "next_word"=some (.ref f_next_word))
  : FnOk P w K mg base CX0 4 f fd ["letters","most"] (sp_wto K):=by
 refine F.ok sc_words_to (fun vs H Q E h=>?_) (fun cdv A outer s H vs Q E hr h=>?_)
 ·obtain⟨L,m,rfl,_⟩:=h;rfl
 ·obtain⟨L,m,rfl,hL1,hL6,hm,hmany,k⟩:=h
  have hl:=line1000
  refine⟨_,(pss_cons (ps_setL (i:=2) sc_words_to.nd (pe_lst pa_nil))
   (pss_cons (ps_setL (i:=3) sc_words_to.nd (pe_tup pa_nil))
   (pss_cons (ps_while PassesOwn.never (ptT (pt_cmpR (opD0 op_le) (pe_callB (lenD call_len_seq) (by rfl) T.len PySem.boot_len (pa_cons (pvD 3) pa_nil)) (pvD 1) (nomark _)))
   (pss_cons (ps_expr (pe_bm PySem.F.plainAttrs_list PySem.F.slot_list_append PySem.F.type_list_append mt_append (pvD 2) (pa_cons (pvD 3) pa_nil)))
   (pss_one (ps_setL (i:=3) sc_words_to.nd (pe_call g_next_word (hr.mono (by decide)) rfl m_next_word F_next_word.kp b_next_word .nil (passNev (P:=P) (w:=w)) (pa_cons (pvD 0) (pa_cons (pvD 3) pa_nil)))))))
   (pss_one (ps_ret (pvD 2)))))),?_⟩
  walk_at "rd"
  refine⟨by omega,fun p hp=>⟨by omega,fun t ht=>?_⟩⟩
  have hpt:p≠t:=fun z=>by rw[<-z,upd_same]at ht;cases ht
  obtain⟨Pv,hPv⟩:∃Pv:Nat->St->Hp->Prop,∀m' σ2 H2,Pv m' σ2 H2↔(∃(n:Nat) (t2:Addr) (xs:List V),m'=((many L (m+1)).toNat-n)/\n<=(many L (m+1)).toNat/\Same H H2/\H2 p=some (.lst xs)/\WordsT K H2 xs ((List.range n).map (nth L))/\H2 t2=some (.tup ((nth L n).map V.int))/\σ2=[some (.int L),some (.int m),some (.ref p),some (.ref t2)]):=⟨_,fun _ _ _=>Iff.rfl⟩
  refine whileW Pv ⟨_,(hPv _ _ _).mpr ⟨0,t,[],rfl,Nat.zero_le _,(Same.new hp).newT ht,by rw[upd_ne hpt,upd_same],WordsT.nil,upd_same,rfl⟩⟩ ?_
  intro m' σ2 H2 hpv
  obtain⟨n,t2,xs,rfl,hn,s2,hpx,hW,hT,rfl⟩:=(hPv _ _ _).mp hpv
  have hv:=nth_valid (show 0<L by omega) n
  have hiff:=length_iff (show 0<L by omega) hv m
  rw[place_nth]at hiff
  have hnn:=many_nonneg (show 0<L by omega) (m+1)
  have hxl:=hW.1
  rw[List.length_map,List.length_range]at hxl
  walk_at "rd"
  refine⟨_,.inr (SqT.of hT),?_⟩
  rw[List.length_map]
  refine ite2 (fun hle=>?_) (fun hgt=>?_)
  ·have hle':(nth L n).length<=m:=by omega
   have hlt:=hiff.mp hle'
   refine⟨fun σ' H'=>∃t3 xs',σ'=[some (.int L),some (.int m),some (.ref p),some (.ref t3)]/\Same H H'/\H' p=some (.lst xs')/\WordsT K H' xs' ((List.range (n+1)).map (nth L))/\H' t3=some (.tup ((nth L (n+1)).map V.int)),fun σ' H' h=>?_,?_⟩
   ·obtain⟨t3,xs',rfl,s3,hp3,hW3,hT3⟩:=h
    exact⟨_,by omega,(hPv _ _ _).mpr ⟨n+1,t3,xs',rfl,by omega,s3,hp3,hW3,hT3,rfl⟩⟩
   ·have hlen:=nth_length (show 0<L by omega) n
    have hT':=TK.lst hpx (o:=.lst (xs++[V.ref t2])) _ _ hT
    refine⟨.inl ⟨rfl,_,SqL.of hpx⟩,_,hpx,by omega,L,t2,nth L n,rfl,SqT.of hT',by omega,fun _ t3 H3 s3 hT3=>?_,fun hf=>by rw[hv]at hf;cases hf⟩
    refine⟨t3,xs++[V.ref t2],rfl,(s2.over hp).trans s3,s3 _ _ upd_same,?_,hT3⟩
    rw[List.range_succ,List.map_append]
    exact ((hW.mono (TK.lst hpx)).snoc hT').mono (TK.of s3)
  ·have hge:¬ (nth L n).length<=m:=by omega
   have hnl:¬ ((n:Int)<many L (m+1)):=fun z=>hge (hiff.mpr z)
   have e:n=(many L (m+1)).toNat:=by omega
   subst e
   walk_at "rd"
   exact k p xs H2 s2 hp hpx hW
def sp_trail (K:PySem.W.Frag)(BW:Addr):Sp:=fun vs H Q E=>∃(h a:Addr) (L:Int) (marks:List Int) (ways:List (List Int)) (ws:List Int),vs=[.ref h,.ref a]/\House K H h L marks ways/\Wf L marks ways/\SqT K H a (ws.map V.int)/\ws.length<=600/\(isW L ws=true->∀p H',Same H H'->H p=none->H' p=some (.lst ((trailW ways ws).map V.int))->Q (.ref p) H')/\(isW L ws=false->∀H',Same H H'->E (.ref BW) none H')
theorem ok_trail {f:Addr}{fd:FuncData}(F:Fun K "trail" "trail" s_trail f fd)(T:Txt mg)
  (Z:Exs K mg C_AskError C_BadWord)
  {f_check_word:Addr} {fd_check_word:FuncData} (g_check_word:FnOk P w K mg base (CXe P w) 2 f_check_word fd_check_word ["letters","word"] (sp_check K C_BadWord)) (F_check_word:Fun K "check_word" "check_word" s_check_word f_check_word fd_check_word) (b_check_word:Binds K fd_check_word ["letters","word"] []) (m_check_word:mg "check_word"=some (.ref f_check_word))
  : FnOk P w K mg base (CXe P w) 3 f fd ["house","word"] (sp_trail K C_BadWord):=by
 refine F.okE sc_trail (fun vs H Q E h=>?_) (fun cdv A outer s H vs Q E hr h=>?_)
 ·obtain⟨h,a,L,marks,ways,ws,rfl,_⟩:=h;rfl
 ·obtain⟨h,a,L,marks,ways,ws,rfl,hh,wf,hw,hz,k,kE⟩:=h
  have hl:=line1000
  refine⟨_,(pss_cons (ps_expr (pe_call g_check_word (hr.mono (by decide)) rfl m_check_word F_check_word.kp b_check_word .nil (passE fun _ _ _ h=>h) (pa_cons (pe_ixA (ixTD ix_tup) (pvD 0) pe_int) (pa_cons (pvD 1) pa_nil))))
   (PSs.nox (pss_cons (ps_setL (i:=2) sc_trail.nd (pe_ixA (ixTD ix_tup) (pvD 0) pe_int))
   (pss_cons (ps_setL (i:=3) sc_trail.nd (pe_lst (pa_cons pe_int pa_nil)))
   (pss_cons (ps_for PassesOwn.never rfl (pi_tup (pvD 1)) (pg_name (i:=4) sc_trail.nd rfl (Or.inl rfl))
   (pss_one (ps_expr (pe_bm PySem.F.plainAttrs_list PySem.F.slot_list_append PySem.F.type_list_append mt_append (pvD 3) (pa_cons (pe_ixA (ixTD ix_tup) (pe_ixA (ixTD ix_tup) (pvD 2) (pe_ixA (ixLD ix_list) (pvD 3) (pe_un un_neg pe_int))) (pvD 4)) pa_nil)))))
   (pss_one (ps_ret (pvD 3)))))))),?_⟩
  walk_at "rd"
  obtain⟨m,wv,h1,h2,h3⟩:=hh
  refine⟨_,h1,_,rfl,L,a,ws,rfl,hw,by omega,fun hv H1 s1=>?_,kE⟩
  walk_at "rd"
  have hw1:=s1.seqT hw
  have h3':=h3.mono s1
  refine⟨_,s1.seqT h1,_,rfl,by omega,fun p hp=>?_⟩
  have s2:=Same.new hp (o:=.lst [V.int 0])
  refine⟨⟨_,s2.seqT hw1⟩,forT (xs:=ws.map V.int) (fun i σ2 H2=>Same H1 H2/\H2 p=some (.lst (((List.range (i+1)).map fun j=>walkW ways (ws.take j)).map V.int))/\∃o,σ2=[some (.ref h),some (.ref a),some (.ref wv),some (.ref p),o]) ⟨s2,by rw[upd_same];simp[walkW],none,rfl⟩ (fun i σ2 H2 _ h=>h.1.seqT hw1) (fun i x σ2 H2 hx h=>?_) (fun σ2 H2 h=>?_)⟩
  ·obtain⟨s3,hp3,o,rfl⟩:=h
   obtain⟨n,hn,rfl⟩:=get_mapI hx
   have hi:=(List.getElem?_eq_some_iff.mp hn).1
   have hx:=isW_iff.mp hv n (List.mem_of_getElem? hn)
   have hwk:=wf.walk hv i
   obtain⟨row,g,r1,r2,r3,r4,r5⟩:=wf.step hwk.1 hwk.2 hx.1 hx.2
   obtain⟨xs,t,q1,q2,q3⟩:=(h3'.mono s3).atZ hwk.1 r1
   walk_at "rd"
   refine⟨.inl ⟨rfl,_,SqL.of hp3⟩,_,SqL.of hp3,_,atI_end (v:=V.int (walkW ways (ws.take i))) (by simp),?_⟩
   walk_at "rd"
   refine⟨_,q1,_,q2,?_⟩
   walk_at "rd"
   refine⟨_,q3,_,atI_int hx.1 r2,_,hp3,by simp;omega,s3.over hp,?_,_,rfl⟩
   rw[upd_same,show List.range (i+1+1)=List.range (i+1)++[i+1] from List.range_succ,List.map_append,List.map_append,<-r3,<-walkW_take hn]
   rfl
  ·obtain⟨s3,hp3,o,rfl⟩:=h
   walk_at "rd"
   rw[List.length_map]at hp3
   exact k hv p H2 (s1.trans s3) (s1.free hp) hp3
def sp_room (K:PySem.W.Frag)(BW:Addr):Sp:=fun vs H Q E=>∃(h a:Addr) (L:Int) (marks:List Int) (ways:List (List Int)) (ws:List Int),vs=[.ref h,.ref a]/\House K H h L marks ways/\Wf L marks ways/\SqT K H a (ws.map V.int)/\ws.length<=600/\(isW L ws=true->∀H',Same H H'->Q (.int (walkW ways ws)) H')/\(isW L ws=false->∀H',Same H H'->E (.ref BW) none H')
theorem ok_room_behind {f:Addr}{fd:FuncData}(F:Fun K "room_behind" "room_behind" s_room_behind f fd)(T:Txt mg)
  (Z:Exs K mg C_AskError C_BadWord)
  {f_trail:Addr} {fd_trail:FuncData} (g_trail:FnOk P w K mg base (CXe P w) 3 f_trail fd_trail ["house","word"] (sp_trail K C_BadWord)) (F_trail:Fun K "trail" "trail" s_trail f_trail fd_trail) (b_trail:Binds K fd_trail ["house","word"] []) (m_trail:mg "trail"=some (.ref f_trail))
  : FnOk P w K mg base (CXe P w) 4 f fd ["house","word"] (sp_room K C_BadWord):=by
 refine F.okE sc_room_behind (fun vs H Q E h=>?_) (fun cdv A outer s H vs Q E hr h=>?_)
 ·obtain⟨h,a,L,marks,ways,ws,rfl,_⟩:=h;rfl
 ·obtain⟨h,a,L,marks,ways,ws,rfl,hh,wf,hw,hz,k,kE⟩:=h
  have hl:=line1000
  refine⟨_,(pss_one (ps_ret (pe_ixA (ixLD ix_list) (pe_call g_trail (hr.mono (by decide)) rfl m_trail F_trail.kp b_trail .nil (passE fun _ _ _ h=>h) (pa_cons (pvD 0) (pa_cons (pvD 1) pa_nil))) (pe_un un_neg pe_int)))),?_⟩
  walk_at "rd"
  refine⟨h,a,L,marks,ways,ws,rfl,hh,wf,hw,hz,fun hv p H1 s1 _ hp=>?_,kE⟩
  walk_at "rd"
  refine⟨_,SqL.of hp,_,atI_end (v:=V.int (walkW ways ws)) ?_,k hv H1 s1⟩
  rw[List.getElem?_map,List.length_map,trailW_length,show ws.length+1-1=ws.length by omega,trailW_last];rfl
def EntsS (K:PySem.W.Frag)(H:Hp)(d:Addr)(ents:List (Int×List Int)):Prop:=∃kvs:List (Key×V),H d=some (.dK kvs)/\kvs.length=ents.length/\∀(i:Nat) (e:Int×List Int),ents[i]?=some e->∃t,kvs[i]?=some (Sum.inl e.1,V.ref t)/\H t=some (.tup (e.2.map V.int))
theorem tk_dK {H:Hp}{p t:Addr}{xs:List V}{kvs kvs':List (Key×V)}(hp:H p=some (.dK kvs))(h:H t=some (.tup xs)):upd H p (.dK kvs') t=some (.tup xs):=by
 rw[upd_ne (fun z=>by rw[z,hp]at h;cases h)];exact h
theorem EntsS.mono {K:PySem.W.Frag}{H H':Hp}{d:Addr}{ents:List (Int×List Int)}(h:EntsS K H d ents)(s:Same H H'):EntsS K H' d ents:=by
 obtain⟨kvs,h1,h2,h3⟩:=h
 refine⟨kvs,s _ _ h1,h2,fun i e he=>?_⟩
 obtain⟨t,a,b⟩:=h3 i e he
 exact⟨t,a,s _ _ b⟩
theorem EntsS.off {K:PySem.W.Frag}{H:Hp}{d p:Addr}{ents:List (Int×List Int)}{zs ys:List V}(h:EntsS K H d ents)(hp:H p=some (.lst zs)):EntsS K (upd H p (.lst ys)) d ents:=by
 obtain⟨kvs,h1,h2,h3⟩:=h
 refine⟨kvs,by rw[upd_ne (fun z=>by rw[z,hp]at h1;cases h1)];exact h1,h2,fun i e he=>?_⟩
 obtain⟨t,a,b⟩:=h3 i e he
 exact⟨t,a,TK.lst hp _ _ b⟩
theorem EntsS.no {K:PySem.W.Frag}{H:Hp}{d:Addr}{ents:List (Int×List Int)}(h:EntsS K H d ents){g:Int}(hg:g∉ents.map (·.1)):DGet H d (.int g) none:=by
 obtain⟨kvs,h1,h2,h3⟩:=h
 have e:valV kvs (Sum.inl g:Key)=none:=by
  unfold valV
  rw[Option.map_eq_none_iff,List.find?_eq_none]
  intro kv hkv
  obtain⟨i,hi,e⟩:=List.getElem_of_mem hkv
  obtain⟨t,a,_⟩:=h3 i ents[i] (by simp[show i<ents.length by omega])
  have e2:kvs[i]?=some kv:=by rw[List.getElem?_eq_getElem hi,e]
  rw[e2]at a
  cases a
  simp only[decide_eq_true_eq]
  intro z
  injection z with z
  exact hg (List.mem_map.mpr ⟨ents[i],List.getElem_mem _,z⟩)
 have:=DGet.k (k:=(Sum.inl g:Key)) h1
 rw[e]at this
 exact this
theorem EntsS.yes {K:PySem.W.Frag}{H:Hp}{d:Addr}{ents:List (Int×List Int)}(h:EntsS K H d ents)(nod:(ents.map (·.1)).Nodup){g:Int}{w:List Int}(hg:(g,w)∈ents):∃t,DGet H d (.int g) (some (.ref t))/\H t=some (.tup (w.map V.int)):=by
 obtain⟨kvs,h1,h2,h3⟩:=h
 obtain⟨i,hi,ei⟩:=List.getElem_of_mem hg
 have ei':ents[i]?=some (g,w):=by rw[List.getElem?_eq_getElem hi,ei]
 obtain⟨t,a,b⟩:=h3 i _ ei'
 refine⟨t,?_,b⟩
 have hf:valV kvs (Sum.inl g:Key)=some (.ref t):=by
  unfold valV
  cases hq:kvs.find? (fun kv=>decide (kv.1=(Sum.inl g:Key))) with
  |none=>
   rw[List.find?_eq_none]at hq
   have:=hq _ (List.mem_of_getElem? a)
   simp at this
  |some kv=>
   have hk:=List.find?_some hq
   simp only[decide_eq_true_eq]at hk
   obtain⟨j,hj,ej⟩:=List.getElem_of_mem (List.mem_of_find?_eq_some hq)
   have hj':j<ents.length:=by omega
   obtain⟨t',a',b'⟩:=h3 j ents[j] (by simp[hj'])
   have e2:kvs[j]?=some kv:=by rw[List.getElem?_eq_getElem hj,ej]
   rw[e2]at a'
   have a2:kv=(Sum.inl ents[j].1,V.ref t'):=Option.some.inj a'
   rw[a2]at hk
   have hk':ents[j].1=g:=by injection hk
   have ij:i=j:=by
    refine (List.getElem_inj (h₀:=by simpa using hi) (h₁:=by simpa using hj') nod).mp ?_
    simp[ei,hk']
   subst ij
   rw[e2]at a
   have a3:kv=(Sum.inl g,V.ref t):=Option.some.inj a
   rw[a3];rfl
 have:=DGet.k (k:=(Sum.inl g:Key)) h1
 rw[hf]at this
 exact this
theorem EntsS.put {K:PySem.W.Frag}{H:Hp}{d t:Addr}{ents:List (Int×List Int)}{g:Int}{w:List Int}(h:EntsS K H d ents)(hg:g∉ents.map (·.1))(hz:ents.length<1000)(ht:H t=some (.tup (w.map V.int))):∃H',DPut H d (.int g) (.ref t) H'/\(∃kvs kvs',H d=some (.dK kvs)/\H'=upd H d (.dK kvs'))/\EntsS K H' d (ents++[(g,w)]):=by
 have hno:=h.no hg
 obtain⟨kvs,h1,h2,h3⟩:=h
 have hl:=line1000
 have hv:valV kvs (Sum.inl g:Key)=none:=by
  rcases hno with ⟨kvs',k,e,ey,er⟩|⟨kvs',k,b,e,ey,_⟩
  ·have e1:kvs'=kvs:=by
    rcases e with e|⟨o,e⟩
    ·rw[h1]at e;cases e;rfl
    ·rw[h1]at e;cases e
   subst e1
   cases k with
   |inl m=>
    have:m=g:=by injection ey with ey;exact ey.symm
    subst this
    exact er.symm
   |inr m=>cases ey
  ·cases ey
 have hp:putK kvs (Sum.inl g:Key) (V.ref t)=kvs++[(Sum.inl g,V.ref t)]:=by
  unfold putK
  rw[valV_any,hv]
  rfl
 refine⟨_,DPut.k (k:=(Sum.inl g:Key)) h1 (by omega),⟨kvs,_,h1,rfl⟩,kvs++[(Sum.inl g,V.ref t)],by rw[upd_same,hp],by simp[h2],fun i e he=>?_⟩
 by_cases hi:i<ents.length
 ·rw[List.getElem?_append_left hi]at he
  obtain⟨t',a,b⟩:=h3 i e he
  exact⟨t',by rw[List.getElem?_append_left (by omega)];exact a,tk_dK h1 b⟩
 ·have hlt:=(List.getElem?_eq_some_iff.mp he).1
  rw[List.length_append,List.length_singleton]at hlt
  have e1:i=ents.length:=by omega
  subst e1
  rw[List.getElem?_append_right (Nat.le_refl _),Nat.sub_self]at he
  simp at he
  subst he
  exact⟨t,by rw[List.getElem?_append_right (by omega),h2,Nat.sub_self];rfl,tk_dK h1 ht⟩
def sp_wordsin (K:PySem.W.Frag):Sp:=fun vs H Q _=>∃(h:Addr) (L:Int) (marks:List Int) (ways:List (List Int)),vs=[.ref h]/\House K H h L marks ways/\Wf L marks ways/\∀d top H',Same H H'->H d=none->EntsS K H' d (wordsIn ways)->Bfs L marks.length ways (wordsIn ways) (wordsIn ways).length top->Q (.ref d) H'
theorem ok_words_in {f:Addr}{fd:FuncData}(F:Fun K "words_in" "words_in" s_words_in f fd)(T:Txt mg)
  (Z:Exs K mg C_AskError C_BadWord)
  : FnOk P w K mg base CX0 1 f fd ["house"] (sp_wordsin K):=by
 refine F.ok sc_words_in (fun vs H Q E h=>?_) (fun cdv A outer s H vs Q E hr h=>?_)
 ·obtain⟨h,L,marks,ways,rfl,_⟩:=h;rfl
 ·obtain⟨h,L,marks,ways,rfl,hh,wf,k⟩:=h
  have hl:=line1000
  have hL1:=wf.l1
  have hn1:=wf.n1
  have hn40:=wf.n40
  refine⟨_,(@pss_cons _ _ _ _ _ (@ps_setD _ 1 _ _ _ _ _ _ _ _ sc_words_in.nd rfl (Or.inl rfl) pe_int (pe_tup pa_nil) rfl (Or.inl rfl))
   (pss_cons (ps_setL (i:=2) sc_words_in.nd (pe_lst (pa_cons pe_int pa_nil)))
   (pss_cons (ps_setL (i:=3) sc_words_in.nd pe_int)
   (pss_cons (ps_while PassesOwn.never (ptT (pt_cmpR (opD0 op_lt) (pvD 3) (pe_callB (lenD call_len_seq) (by rfl) T.len PySem.boot_len (pa_cons (pvD 2) pa_nil)) (nomark _)))
   (pss_cons (ps_setL (i:=4) sc_words_in.nd (pe_ixA (ixLD ix_list) (pvD 2) (pvD 3)))
   (pss_cons (ps_for PassesOwn.never rfl (pi_enumT rfl T.enumerate (pe_ixA (ixTD ix_tup) (pe_ixA (ixTD ix_tup) (pvD 0) pe_int) (pvD 4))) (pg_tup rfl (pgs_cons (pg_name (i:=5) sc_words_in.nd rfl (Or.inl rfl)) (pgs_cons (pg_name (i:=6) sc_words_in.nd rfl (Or.inl rfl)) pgs_nil)))
   (pss_one (ps_if (pt_cmp (pc_dnotin (hu_of hr) (pvD 6) (pvD 1)))
   (pss_cons (ps_dput (hu_of hr) (pvD 1) (pvD 6) (pe_op op_catT2 (pe_dget (hu_of hr) (pvD 1) (pvD 4) (fun _ _=>rfl)) (pe_tup (pa_cons (pvD 5) pa_nil))) rfl)
   (pss_one (ps_expr (pe_bm PySem.F.plainAttrs_list PySem.F.slot_list_append PySem.F.type_list_append mt_append (pvD 2) (pa_cons (pvD 6) pa_nil)))))
   pss_nil)))
   (pss_one (ps_aug (i:=3) sc_words_in.nd rfl (Or.inl rfl) pe_int ip_add)))))
   (pss_one (ps_ret (pvD 1))))))),?_⟩
  walk_at "rd"
  intro p hp
  refine⟨by omega,fun p1 hp1=>⟨Same.new hp1 _ _ upd_same,[(Sum.inl 0,V.ref p1)],rfl,by simp,by omega,fun p2 hp2=>?_⟩⟩
  have hm1:mergeK [] [((Sum.inl 0:Key),V.ref p1)]=[((Sum.inl 0:Key),V.ref p1)]:=rfl
  rw[hm1]at hp2 ⊢
  have hne1:p1≠p:=(none_of_upd hp1).2
  have hne2:p2≠p:=(none_of_upd hp2).2
  have s0:Same H (upd (upd (upd (upd H p (.dK [])) p1 (.tup [])) p (.dK [(Sum.inl 0,V.ref p1)])) p2 (.lst [V.int 0])):=(((Same.new hp).newT hp1).over hp).newT hp2
  have en0:EntsS K (upd (upd (upd (upd H p (.dK [])) p1 (.tup [])) p (.dK [(Sum.inl 0,V.ref p1)])) p2 (.lst [V.int 0])) p [(0,[])]:=by
   refine⟨[(Sum.inl 0,V.ref p1)],Same.new hp2 _ _ upd_same,rfl,fun i e he=>?_⟩
   cases i with
   |zero=>
    simp at he
    subst he
    refine⟨p1,rfl,?_⟩
    refine Same.new hp2 _ _ ?_
    rw[upd_ne hne1];exact upd_same
   |succ i=>simp at he
  have hr0:upd (upd (upd (upd H p (.dK [])) p1 (.tup [])) p (.dK [(Sum.inl 0,V.ref p1)])) p2 (.lst [V.int 0]) p2=some (.lst ((([(0,[])]:List (Int×List Int)).map (·.1)).map V.int)):=upd_same
  have hp2n:H p2=none:=by
   have h1:=(none_of_upd hp2).1
   have h2:=(none_of_upd h1).1
   exact (none_of_upd h2).1
  generalize upd (upd (upd (upd H p (.dK [])) p1 (.tup [])) p (.dK [(Sum.inl 0,V.ref p1)])) p2 (.lst [V.int 0])=H0 at s0 en0 hr0 ⊢
  clear hp1 hp2 hm1
  obtain⟨Pv,hPv⟩:∃Pv:Nat->St->Hp->Prop,∀m σ2 H2,Pv m σ2 H2↔(∃(ents:List (Int×List Int)) (i:Nat) (top:Int) (o4 o5 o6:Option V),m=marks.length+1-i/\Same H H2/\EntsS K H2 p ents/\H2 p2=some (.lst ((ents.map (·.1)).map V.int))/\Bfs L marks.length ways ents i top/\(∀e,ents[i]?=some e->top<=place L e.2*L+1)/\bfs ways (marks.length+1-i) ents i=wordsIn ways/\σ2=[some (.ref h),some (.ref p),some (.ref p2),some (.int i),o4,o5,o6]):=⟨_,fun _ _ _=>Iff.rfl⟩
  refine whileW Pv ⟨_,(hPv _ _ _).mpr ⟨[(0,[])],0,1,none,none,none,rfl,s0,en0,hr0,Bfs.start L hn1 ways,fun e he=>?_,by unfold wordsIn;rw[wf.len];rfl,rfl⟩⟩ ?_
  ·simp at he;subst he;simp[place,placeR]
  intro m σ2 H2 hpv
  obtain⟨ents,i,top,o4,o5,o6,rfl,s2,en2,hr2,bf,htop,hbfs,rfl⟩:=(hPv _ _ _).mp hpv
  have hbl:=bf.len
  walk_at "rd"
  refine⟨_,.inl (SqL.of hr2),?_⟩
  rw[List.length_map,List.length_map]
  refine ite2 (fun hlt=>?_) (fun hge=>?_)
  ·have hi:i<ents.length:=by omega
   obtain⟨e,he⟩:∃e,ents[i]?=some e:=⟨ents[i],by simp[hi]⟩
   obtain⟨r,w⟩:=e
   have hmem:=List.mem_of_getElem? he
   have hr':=bf.rng _ hmem
   have htop':top<=place L w*L+1:=htop _ he
   obtain⟨row,hrow,hrm,hrl⟩:=wf.row hr'.1 hr'.2
   have hgd:ways.getD r.toNat []=row:=by rw[List.getD_eq_getElem?_getD,hrow];rfl
   obtain⟨mm,wv,q1,q2,q3⟩:=id hh
   obtain⟨xs,t,z1,z2,z3⟩:=q3.atZ hr'.1 hrow
   refine⟨Pv (marks.length+1-(i+1)),fun σ' H' h=>⟨_,by omega,h⟩,?_⟩
   refine⟨_,SqL.of hr2,_,atI_int (v:=r) (by omega) (by rw[Int.toNat_natCast,List.getElem?_map,he];rfl),?_⟩
   walk_at "rd"
   refine⟨_,s2.seqT q1,_,rfl,?_⟩
   walk_at "rd"
   refine⟨_,s2.seqT z1,_,z2,?_⟩
   walk_at "rd"
   refine⟨_,s2.seqT z3,?_⟩
   obtain⟨Pn,hPn⟩:∃Pn:Nat->St->Hp->Prop,∀x σ3 H3,Pn x σ3 H3↔(∃(ents':List (Int×List Int)) (o5 o6:Option V),Same H H3/\EntsS K H3 p ents'/\H3 p2=some (.lst ((ents'.map (·.1)).map V.int))/\Bfs L marks.length ways ents' i (place L w*L+(x:Int)+1)/\Seen L ways ents' r w x/\ents'[i]?=some (r,w)/\addRow w ents' x (row.drop x)=addRow w ents 0 row/\σ3=[some (.ref h),some (.ref p),some (.ref p2),some (.int i),some (.int r),o5,o6]):=⟨_,fun _ _ _=>Iff.rfl⟩
   refine forN Pn ((hPn _ _ _).mpr ⟨ents,o5,o6,s2,en2,hr2,bf.up (by push_cast;omega),(fun y h0 h1=>absurd h1 (by push_cast;omega)),he,rfl,rfl⟩) (fun x σ3 H3 _ h3=>?_) (fun x v σ3 H3 t' hx h3 ht'=>?_) (fun σ3 H3 h3=>?_)
   ·obtain⟨ents',_,_,s3,_⟩:=(hPn _ _ _).mp h3
    exact s3.seqT z3
   ·obtain⟨ents',o5,o6,s3,en3,hr3,bf3,se3,he3,had,rfl⟩:=(hPn _ _ _).mp h3
    obtain⟨g,hg,rfl⟩:=get_mapI hx
    have hxl:=(List.getElem?_eq_some_iff.mp hg).1
    have hgin:=(wf.rows row hrm).2 g (List.mem_of_getElem? hg)
    have hgs:g=stepW ways r (x:Int):=(stepW_of hrow (by rw[Int.toNat_natCast];exact hg)).symm
    have hmem3:=List.mem_of_getElem? he3
    have hdrop:row.drop x=g::row.drop (x+1):=by
     rw[List.drop_eq_getElem_cons hxl]
     congr 1
     exact (List.getElem?_eq_some_iff.mp hg).2
    obtain⟨bf4,se4⟩:=bf3.letter (by omega) se3 hmem3 (by omega) hgs hgin
    have he4:=letter_keep (g:=g) (v:=w++[(x:Int)]) he3
    rw[hdrop,addRow_cons]at had
    have sT:=s3.newT ht' (o:=.tup [V.int x,V.int g])
    have enT:=en3.mono (Same.new ht' (o:=.tup [V.int x,V.int g]))
    have hrT:=Same.new ht' (o:=.tup [V.int x,V.int g]) _ _ hr3
    walk_at "rd"
    refine⟨_,SqT.of upd_same,rfl,?_⟩
    walk_at "rd"
    generalize upd H3 t' (.tup [V.int x,V.int g])=HT' at sT enT hrT ⊢
    by_cases hm:g∈ents'.map (·.1)
    ·rw[if_pos hm]at bf4 se4 he4 had
     obtain⟨e',he',e1⟩:=List.mem_map.mp hm
     obtain⟨g',w'⟩:=e'
     have e1:g'=g:=e1
     subst e1
     obtain⟨tt,dg,_⟩:=enT.yes bf3.nod he'
     refine⟨_,dg,?_⟩
     rw[if_neg (by simp)]
     exact (hPn _ _ _).mpr ⟨ents',_,_,sT,enT,hrT,bf4,se4,he4,had,rfl⟩
    ·rw[if_neg hm]at bf4 se4 he4 had
     refine⟨_,enT.no hm,?_⟩
     rw[if_pos (by simp)]
     obtain⟨tw,dw,hw'⟩:=enT.yes bf3.nod hmem3
     refine⟨_,dw,by omega,fun q5 hq5=>?_⟩
     have hwl:w.length<=100:=by
      have h1:w.length<=i:=bf3.sh i _ he3
      omega
     refine rCatT2.ofS (Same.new hq5 _ _ hw') upd_same (by simp;omega) fun q6 H6 s6 hq6=>?_
     have sU:=(sT.newT hq5).trans s6
     have enU:=(enT.mono (Same.new hq5)).mono s6
     have hrU:=s6 _ _ (Same.new hq5 _ _ hrT)
     have hq6':H6 q6=some (.tup ((w++[(x:Int)]).map V.int)):=by simpa using hq6
     obtain⟨H7,dp,⟨kvs,kvs',hd,rfl⟩,enV⟩:=enU.put hm (by have:=bf3.len;omega) hq6'
     walk_at "rd"
     refine⟨_,dp,?_⟩
     have hrV:upd H6 p (.dK kvs') p2=some (.lst ((ents'.map (·.1)).map V.int)):=by rw[upd_ne hne2];exact hrU
     refine⟨.inl ⟨rfl,_,SqL.of hrV⟩,_,hrV,by have:=bf3.len;simp;omega,(hPn _ _ _).mpr ⟨ents'++[(g,w++[(x:Int)])],_,_,(sU.over hp).over hp2n,enV.off hrV,by rw[upd_same];simp,bf4,se4,he4,had,rfl⟩⟩
   ·obtain⟨ents',o5,o6,s3,en3,hr3,bf3,se3,he3,had,rfl⟩:=(hPn _ _ _).mp h3
    rw[List.length_map]at bf3 se3 had
    rw[List.drop_length,addRow_nil]at had
    walk_at "rd"
    obtain⟨bf4,htop4⟩:=bf3.next (by omega) hrl se3 he3
    refine (hPv _ _ _).mpr ⟨ents',i+1,_,_,_,_,rfl,s3,en3,hr3,bf4,htop4,?_,by push_cast;rfl⟩
    rw[show marks.length+1-i=(marks.length+1-(i+1))+1 by omega,bfs_step he]at hbfs
    rw[had,<-hgd]
    exact hbfs
  ·have hi:i=ents.length:=by have:=bf.il;omega
   subst hi
   rw[bfs_stop (by simp)]at hbfs
   rw[<-hbfs]at k
   exact k p top H2 s2 hp en2 bf
def WaysS (H:Hp)(d:Addr)(ents:List (Int×List Int))(n:Nat):Prop:=∃xs:List V,H d=some (.lst xs)/\xs.length=n/\∀r:Nat,r<n->(∃(w:List Int) (t:Addr),((r:Int),w)∈ents/\xs[r]?=some (.ref t)/\H t=some (.tup (w.map V.int)))\/((r:Int)∉ents.map (·.1)/\xs[r]?=some .non)
def sp_waysin (K:PySem.W.Frag):Sp:=fun vs H Q _=>∃(h:Addr) (L:Int) (marks:List Int) (ways:List (List Int)),vs=[.ref h]/\House K H h L marks ways/\Wf L marks ways/\∀d top H',Same H H'->H d=none->WaysS H' d (wordsIn ways) marks.length->Bfs L marks.length ways (wordsIn ways) (wordsIn ways).length top->Q (.ref d) H'
theorem ok_ways_in {f:Addr}{fd:FuncData}(F:Fun K "ways_in" "ways_in" s_ways_in f fd)(T:Txt mg)
  (Z:Exs K mg C_AskError C_BadWord)
  {f_words_in:Addr} {fd_words_in:FuncData} (g_words_in:FnOk P w K mg base CX0 1 f_words_in fd_words_in ["house"] (sp_wordsin K)) (F_words_in:Fun K "words_in" "words_in" s_words_in f_words_in fd_words_in) (b_words_in:Binds K fd_words_in ["house"] []) (m_words_in:mg "words_in"=some (.ref f_words_in))
  : FnOk P w K mg base CX0 2 f fd ["house"] (sp_waysin K):=by
 refine F.ok sc_ways_in (fun vs H Q E h=>?_) (fun cdv A outer s H vs Q E hr h=>?_)
 ·obtain⟨h,L,marks,ways,rfl,_⟩:=h;rfl
 ·obtain⟨h,L,marks,ways,rfl,hh,wf,k⟩:=h
  have hl:=line1000
  have hn40:=wf.n40
  refine⟨_,(pss_cons (ps_set (i:=1) sc_ways_in.nd rfl (Or.inr rfl) (pe_call g_words_in (hr.mono (by decide)) rfl m_words_in F_words_in.kp b_words_in .nil pass0 (pa_cons (pvD 0) pa_nil)))
   (pss_one (ps_ret (pe_comp rfl (blk_mk rfl) (cp:=c_ways_in_0) (te:=tDGet1 (tVarD 1) (tVarD 0)) ⟨⟨rfl,rfl⟩,True.intro⟩ (pi_range1 rfl T.range (pa_cons (pe_callB (lenD call_len_seq) (by rfl) T.len PySem.boot_len (pa_cons (pe_ixA (ixTD ix_tup) (pvD 0) pe_int) pa_nil)) pa_nil)) (fun _ _ _ _=>(pg_name (i:=0) nd_c_ways_in_0 rfl (Or.inl rfl))) (fun _ _ _ _=>pf_nil) (fun _ _ _ _=>(by exact (pe_dget1 (hu_of hr) (pvD 1) (pvD 0) ⟨rfl,rfl,rfl,rfl⟩))))))),?_⟩
  walk_at "rd"
  refine⟨h,L,marks,ways,rfl,hh,wf,fun d top H1 s1 hd en bf=>?_⟩
  obtain⟨mm,wv,q1,q2,q3⟩:=hh.mono s1
  walk_at "rd"
  refine⟨_,q1,_,rfl,?_⟩
  walk_at "rd"
  refine⟨_,.inr q2,?_⟩
  rw[List.length_map]
  refine⟨by omega,by omega,?_⟩
  rw[Int.toNat_natCast]
  obtain⟨Pc,hPc⟩:∃Pc:Nat->List V->St->Hp->Prop,∀j ys σ4 H4,Pc j ys σ4 H4↔(H4=H1/\ys.length=j/\(∀r:Nat,r<j->(∃(w:List Int) (t:Addr),((r:Int),w)∈wordsIn ways/\ys[r]?=some (.ref t)/\H1 t=some (.tup (w.map V.int)))\/((r:Int)∉(wordsIn ways).map (·.1)/\ys[r]?=some .non))/\∃o,σ4=[o,some (.ref d)]):=⟨_,fun _ _ _ _=>Iff.rfl⟩
  refine compR Pc ((hPc _ _ _ _).mpr ⟨rfl,rfl,(fun r hr=>absurd hr (Nat.not_lt_zero _)),none,rfl⟩) (by omega) (fun j ys σ4 H4 _ h4=>?_) (fun j ys σ4 H4 hj h4=>?_) (fun ys σ4 H4 h4 D hD=>?_)
  ·obtain⟨_,hlen,_⟩:=(hPc _ _ _ _).mp h4
   omega
  ·obtain⟨rfl,hlen,hall,o,rfl⟩:=(hPc _ _ _ _).mp h4
   obtain⟨kvs,hk1,_⟩:=id en
   have ext:∀v:V,((∃(w:List Int) (t:Addr),((j:Int),w)∈wordsIn ways/\v=.ref t/\H4 t=some (.tup (w.map V.int)))\/((j:Int)∉(wordsIn ways).map (·.1)/\v=.non))->∀o,Pc (j+1) (ys++[v]) [o,some (.ref d)] H4:=fun v hv o=>by
    refine (hPc _ _ _ _).mpr ⟨rfl,by simp[hlen],fun r hr=>?_,o,rfl⟩
    by_cases hrj:r<j
    ·rw[List.getElem?_append_left (by omega)]
     exact hall r hrj
    ·have e:r=j:=by omega
     subst e
     rw[List.getElem?_append_right (by omega),hlen,Nat.sub_self]
     rcases hv with ⟨w,t,a,b,c⟩|⟨a,b⟩
     ·exact .inl ⟨w,t,a,by rw[b];rfl,c⟩
     ·exact .inr ⟨a,by rw[b];rfl⟩
   walk_at "rd"
   refine⟨.inl ⟨kvs,.inl hk1⟩,?_⟩
   have ej:(0:Int)+(j:Nat)=(j:Int):=by omega
   rw[ej]
   by_cases hm:(j:Int)∈(wordsIn ways).map (·.1)
   ·obtain⟨e',he',e1⟩:=List.mem_map.mp hm
    obtain⟨g',w'⟩:=e'
    have e1:g'=(j:Int):=e1
    subst e1
    obtain⟨tt,dg,hw⟩:=en.yes bf.nod he'
    exact⟨_,dg,ext _ (.inl ⟨w',tt,he',rfl,hw⟩) _⟩
   ·exact⟨_,en.no hm,ext _ (.inr ⟨hm,rfl⟩) _⟩
  ·obtain⟨rfl,hlen,hall,o,rfl⟩:=(hPc _ _ _ _).mp h4
   refine k D top _ (s1.newT hD) (s1.free hD) ⟨ys,upd_same,hlen,fun r hr=>?_⟩ bf
   rcases hall r hr with ⟨w,t,a,b,c⟩|h
   ·exact .inl ⟨w,t,a,b,Same.new hD _ _ c⟩
   ·exact .inr h
structure RF (L n:Nat)(ways:List (List Int))(R:List Int):Prop where
 hd:R[0]?=some 0
 nod:R.Nodup
 rng:∀r∈R,0<=r/\r<(n:Int)
 len:R.length<=n
 cls:∀r∈R,∀x:Nat,x<L->stepW ways r (x:Int)∈R
theorem RF.of {L n:Nat}{ways:List (List Int)}{top:Int}(bf:Bfs L n ways (wordsIn ways) (wordsIn ways).length top):RF L n ways ((wordsIn ways).map (·.1)):=by
 refine⟨by rw[List.getElem?_map,bf.hd];rfl,bf.nod,fun r hr=>?_,by rw[List.length_map];exact bf.len,fun r hr x hx=>?_⟩
 ·obtain⟨e,he,rfl⟩:=List.mem_map.mp hr
  exact bf.rng e he
 ·obtain⟨e,he,rfl⟩:=List.mem_map.mp hr
  obtain⟨j,hj⟩:=List.mem_iff_getElem?.mp he
  obtain⟨e',h1,h2,_⟩:=bf.don j (List.getElem?_eq_some_iff.mp hj).1 e hj (x:Int) (by omega) (by omega)
  rw[<-h2]
  exact List.mem_map_of_mem h1
def sp_reach18 (K:PySem.W.Frag):Sp:=fun vs H Q _=>∃(h:Addr) (L:Nat) (marks:List Int) (ways:List (List Int)),vs=[.ref h]/\House K H h L marks ways/\Wf L marks ways/\∀p H',Same H H'->H p=none->H' p=some (.lst (((wordsIn ways).map (·.1)).map V.int))->RF L marks.length ways ((wordsIn ways).map (·.1))->Q (.ref p) H'
theorem ok_reached {f:Addr}{fd:FuncData}(F:Fun K "reached" "reached" s_reached f fd)(T:Txt mg)
  (Z:Exs K mg C_AskError C_BadWord)
  {f_words_in:Addr} {fd_words_in:FuncData} (g_words_in:FnOk P w K mg base CX0 1 f_words_in fd_words_in ["house"] (sp_wordsin K)) (F_words_in:Fun K "words_in" "words_in" s_words_in f_words_in fd_words_in) (b_words_in:Binds K fd_words_in ["house"] []) (m_words_in:mg "words_in"=some (.ref f_words_in))
  : FnOk P w K mg base CX0 2 f fd ["house"] (sp_reach18 K):=by
 refine F.ok sc_reached (fun vs H Q E h=>?_) (fun cdv A outer s H vs Q E hr h=>?_)
 ·obtain⟨h,L,marks,ways,rfl,_⟩:=h;rfl
 ·obtain⟨h,L,marks,ways,rfl,hh,wf,k⟩:=h
  refine⟨_,(pss_one (ps_ret (pe_callTy (call_list_dict rfl) rfl T.list PyProof.Rows.boot_list (pa_cons (pe_call g_words_in (hr.mono (by decide)) rfl m_words_in F_words_in.kp b_words_in .nil pass0 (pa_cons (pvD 0) pa_nil)) pa_nil)))),?_⟩
  walk_at "rd"
  refine⟨h,L,marks,ways,rfl,hh,wf,fun d top H1 s1 hd en bf=>?_⟩
  obtain⟨kvs,h1,h2,h3⟩:=en
  refine⟨d,rfl,kvs,h1,fun l hl=>k l _ (s1.newT hl) (s1.free hl) ?_ (RF.of bf)⟩
  rw[upd_same]
  congr 2
  refine List.ext_getElem? fun i=>?_
  rw[List.getElem?_map,List.getElem?_map,List.getElem?_map]
  cases he:(wordsIn ways)[i]? with
  |none=>
   have:kvs[i]?=none:=by rw[List.getElem?_eq_none_iff]at he ⊢;omega
   rw[this];rfl
  |some e=>
   obtain⟨t,a,_⟩:=h3 i e he
   rw[a];rfl
def numD {α κ:Type}[DecidableEq α](k:α->κ)(ks:List α):List (κ×V):=ks.map fun x=>(k x,V.int ((ks.idxOf x:Nat):Int))
theorem numD_len {α κ:Type}[DecidableEq α]{k:α->κ}{ks:List α}:(numD k ks).length=ks.length:=by unfold numD;rw[List.length_map]
theorem numD_some {α κ:Type}[DecidableEq α][DecidableEq κ]{k:α->κ}(hk:∀x y,k x=k y->x=y){ks:List α}(nd:ks.Nodup){x:α}(hx:x∈ks):valV (numD k ks) (k x)=some (V.int ((ks.idxOf x:Nat):Int)):=by
 have hi:=List.idxOf_lt_length_of_mem hx
 refine valV_at (i:=ks.idxOf x) ?_ ?_
 ·unfold numD
  rw[List.map_map]
  exact List.Pairwise.map _ (fun a b hab z=>hab (hk a b z)) nd
 ·unfold numD
  rw[List.getElem?_map,List.getElem?_eq_getElem hi,List.getElem_idxOf];rfl
theorem numD_none {α κ:Type}[DecidableEq α][DecidableEq κ]{k:α->κ}(hk:∀x y,k x=k y->x=y){ks:List α}{x:α}(hx:x∉ks):valV (numD k ks) (k x)=none:=by
 have h1:=valV_any (k x) (numD k ks)
 have h2:((numD k ks).any fun kv=>decide (kv.1=k x))=false:=by
  rw[List.any_eq_false]
  intro p hp
  unfold numD at hp
  obtain⟨y,hy,rfl⟩:=List.mem_map.mp hp
  simp only[decide_eq_true_eq]
  intro z
  exact hx (hk _ _ z ▸ hy)
 rw[h2]at h1
 cases q:valV (numD k ks) (k x) with
 |none=>rfl
 |some v=>rw[q]at h1;cases h1
theorem numD_put {α κ:Type}[DecidableEq α][DecidableEq κ]{k:α->κ}(hk:∀x y,k x=k y->x=y){ks:List α}{x:α}(hx:x∉ks):putK (numD k ks) (k x) (V.int ((ks.length:Nat):Int))=numD k (ks++[x]):=by
 rw[putK_new _ (numD_none hk hx)]
 unfold numD
 rw[List.map_append,List.map_singleton,idx_new hx]
 congr 1
 exact List.map_congr_left fun y hy=>by rw[idx_snoc hy]
theorem take_firsts {α:Type}[DecidableEq α]{row:List α}{i:Nat}{x:α}(h:row[i]?=some x):firsts (row.take (i+1))=ins1 (firsts (row.take i)) x:=by
 rw[List.take_add_one,h];exact firsts_snoc _ _
theorem ncl_take {α:Type}[DecidableEq α](row:List α)(i:Nat):(firsts (row.take i)).length<=row.length:=by
 have h1:=ncl_le (row.take i)
 unfold ncl at h1
 rw[List.length_take]at h1
 omega
def sp_num (K:PySem.W.Frag):Sp:=fun vs H Q _=>∃(a:Addr),vs=[.ref a]/\((∃ns:List Int,SqT K H a (ns.map V.int)/\ns.length<=100/\∀l H',Same H H'->H l=none->H' l=some (.lst ((num ns).map V.int))->Q (.ref l) H')\/(∃(xs:List V) (ws:List (List Int)),SqL K H a xs/\WordsT K H xs ws/\ws.length<=100/\∀l H',Same H H'->H l=none->H' l=some (.lst ((num ws).map V.int))->Q (.ref l) H'))
theorem ok_numbered {f:Addr}{fd:FuncData}(F:Fun K "numbered" "numbered" s_numbered f fd)(T:Txt mg)
  (Z:Exs K mg C_AskError C_BadWord)
  : FnOk P w K mg base CX0 1 f fd ["row"] (sp_num K):=by
 refine F.ok sc_numbered (fun vs H Q E h=>?_) (fun cdv A outer s H vs Q E hr h=>?_)
 ·obtain⟨a,rfl,_⟩:=h;rfl
 ·obtain⟨a,rfl,hab⟩:=h
  have hl:=line1000
  refine⟨_,(pss_cons (ps_set (i:=1) sc_numbered.nd rfl (Or.inr rfl) pe_dnewB)
   (pss_cons (ps_for PassesOwn.never rfl (pi_seq (pvD 0)) (pg_name (i:=2) sc_numbered.nd rfl (Or.inl rfl))
   (pss_one (ps_if (pt_cmp (pc_dnotin (hu_of hr) (pvD 2) (pvD 1)))
   (pss_one (ps_dput (hu_of hr) (pvD 1) (pvD 2) (pe_callB call_lenB (by rfl) T.len PySem.boot_len (pa_cons (pvD 1) pa_nil)) rfl))
   pss_nil)))
   (pss_one (ps_ret (pe_comp rfl (blk_mk rfl) (cp:=c_numbered_0) ⟨⟨rfl,rfl⟩,True.intro⟩ (pi_seq (pvD 0)) (fun _ _ _ _=>(pg_name (i:=0) nd_c_numbered_0 rfl (Or.inl rfl))) (fun _ _ _ _=>pf_nil) (fun _ _ _ _=>(pe_dget (hu_of hr) (pvD 1) (pvD 0) (fun _ _=>rfl)))))))),?_⟩
  rcases hab with ⟨ns,ha,hz,k⟩|⟨xs,ws,ha,hW,hz,k⟩
  ·walk_at "rd"
   refine .inl fun d hd=>?_
   have sd:=Same.new hd (o:=.dK [])
   have hki:∀x y:Int,(Sum.inl x:Key)=Sum.inl y->x=y:=fun x y z=>Sum.inl.inj z
   obtain⟨Pv,hPv⟩:∃Pv:Nat->St->Hp->Prop,∀i σ' H',Pv i σ' H'↔(∃o:Option V,Same H H'/\H' d=some (.dK (numD (fun x:Int=>(Sum.inl x:Key)) (firsts (ns.take i))))/\σ'=[some (.ref a),some (.ref d),o]):=⟨_,fun _ _ _=>Iff.rfl⟩
   refine .inr ⟨⟨_,sd.seqT ha⟩,forT (xs:=ns.map V.int) Pv ((hPv _ _ _).mpr ⟨none,sd,upd_same,rfl⟩) (fun i σ' H' _ h'=>by obtain⟨_,s',_⟩:=(hPv _ _ _).mp h';exact s'.seqT ha) (fun i x σ' H' hx h'=>?_) (fun σ' H' h'=>?_)⟩
   ·obtain⟨o,s',hd',rfl⟩:=(hPv _ _ _).mp h'
    obtain⟨n,hn,rfl⟩:=get_mapI hx
    have hfl:=ncl_take ns i
    have nd:=nodup_firsts (ns.take i)
    have et:=take_firsts hn
    walk_at "rd"
    refine⟨_,DGet.k (k:=Sum.inl n) hd',?_⟩
    by_cases hm:n∈firsts (ns.take i)
    ·rw[numD_some hki nd hm]
     simp only[Option.isSome_some,Bool.not_true,Bool.false_eq_true,if_false]
     exact (hPv _ _ _).mpr ⟨_,s',by rw[et,ins1,if_pos hm];exact hd',rfl⟩
    ·rw[numD_none hki hm]
     simp only[Option.isSome_none,Bool.not_false,if_true]
     have hput:=numD_put (k:=fun x:Int=>(Sum.inl x:Key)) hki hm
     refine .inl ⟨_,hd',_,DPut.k (k:=Sum.inl n) hd' (by rw[numD_len];omega),(hPv _ _ _).mpr ⟨_,s'.over hd,?_,rfl⟩⟩
     rw[upd_same,et,ins1,if_neg hm,numD_len]
     exact congrArg (fun z=>some (HO.dK z)) hput
   ·obtain⟨o,s',hd',rfl⟩:=(hPv _ _ _).mp h'
    rw[List.length_map,List.take_length]at hd'
    walk_at "rd"
    obtain⟨f,hf⟩:∃f:V->V,∀n:Int,f (V.int n)=.int (((firsts ns).idxOf n:Nat):Int):=⟨fun x=>match x with | .int n=>.int (((firsts ns).idxOf n:Nat):Int)|_=>.non,fun _=>rfl⟩
    refine .inr ⟨⟨_,s'.seqT ha⟩,compMapT (σ':=[some (.ref d)]) f rfl (s'.seqT ha) (by rw[List.length_map];omega) (fun x hx R hR=>?_) (fun D hD=>?_)⟩
    ·obtain⟨n,hn,rfl⟩:=mem_mapI hx
     rw[hf]at hR
     have e:=numD_some (k:=fun x:Int=>(Sum.inl x:Key)) hki (nodup_firsts ns) (mem_firsts.mpr hn)
     have hg:=DGet.k (k:=Sum.inl n) hd'
     rw[e]at hg
     walk_at "rd"
     exact⟨_,hg,hR⟩
    ·have em:(ns.map V.int).map f=(num ns).map V.int:=by
      unfold num
      rw[List.map_map,List.map_map]
      exact List.map_congr_left fun n _=>hf n
     exact k D _ (s'.newT hD) (s'.none hD) (by rw[upd_same,em])
  ·walk_at "rd"
   refine .inr fun d hd=>?_
   have sd:=Same.new hd (o:=.dT [])
   obtain⟨Pv,hPv⟩:∃Pv:Nat->St->Hp->Prop,∀i σ' H',Pv i σ' H'↔(∃o:Option V,Same H H'/\H' d=some (.dT (numD wkey (firsts (ws.take i))))/\σ'=[some (.ref a),some (.ref d),o]):=⟨_,fun _ _ _=>Iff.rfl⟩
   refine .inl ⟨⟨_,sd.seq ha⟩,forL (xs:=xs) Pv ((hPv _ _ _).mpr ⟨none,sd,upd_same,rfl⟩) (fun i σ' H' _ h'=>by obtain⟨_,s',_⟩:=(hPv _ _ _).mp h';exact s'.seq ha) (fun i x σ' H' hx h'=>?_) (fun σ' H' h'=>?_)⟩
   ·obtain⟨o,s',hd',rfl⟩:=(hPv _ _ _).mp h'
    obtain⟨t,v,hvi,rfl,ht⟩:=hW.at hx
    have hfl:=ncl_take ws i
    have nd:=nodup_firsts (ws.take i)
    have et:=take_firsts hvi
    have ht':H' t=some (.tup ((wkey v).map kV)):=by rw[wkey_kV];exact s' _ _ ht
    walk_at "rd"
    refine⟨_,DGet.t hd' ht',?_⟩
    by_cases hm:v∈firsts (ws.take i)
    ·rw[numD_some (fun x y z=>wkey_inj z) nd hm]
     simp only[Option.isSome_some,Bool.not_true,Bool.false_eq_true,if_false]
     exact (hPv _ _ _).mpr ⟨_,s',by rw[et,ins1,if_pos hm];exact hd',rfl⟩
    ·rw[numD_none (fun x y z=>wkey_inj z) hm]
     simp only[Option.isSome_none,Bool.not_false,if_true]
     refine .inr ⟨_,hd',_,DPut.t (k:=wkey v) hd' ht' (by rw[numD_len];omega),(hPv _ _ _).mpr ⟨_,s'.over hd,?_,rfl⟩⟩
     rw[upd_same,et,ins1,if_neg hm,numD_len,numD_put (fun x y z=>wkey_inj z) hm]
   ·obtain⟨o,s',hd',rfl⟩:=(hPv _ _ _).mp h'
    rw[hW.1,List.take_length]at hd'
    walk_at "rd"
    refine .inl ⟨⟨_,s'.seq ha⟩,compL (xs:=xs) (fun i zs σ2 H2=>H2=H'/\zs=((num ws).take i).map V.int/\∃o,σ2=[o,some (.ref d)]) ⟨rfl,rfl,none,rfl⟩ (by rw[hW.1];omega) (fun i zs σ2 H2 hi h2=>⟨by rw[h2.1];exact s'.seq ha,by rw[h2.2.1,List.length_map,List.length_take];omega⟩) (fun i x zs σ2 H2 hx h2=>?_) (fun zs σ2 H2 h2 D hD=>?_)⟩
    ·obtain⟨rfl,rfl,o2,rfl⟩:=h2
     obtain⟨t,v,hvi,rfl,ht⟩:=hW.at hx
     have ht':H2 t=some (.tup ((wkey v).map kV)):=by rw[wkey_kV];exact s' _ _ ht
     have e:=numD_some (fun x y z=>wkey_inj z) (nodup_firsts ws) (mem_firsts.mpr (List.mem_of_getElem? hvi))
     have hg:=DGet.t hd' ht'
     rw[e]at hg
     walk_at "rd"
     refine⟨_,hg,?_⟩
     first
      | (refine⟨rfl,?_,_,rfl⟩;rw[List.take_add_one,num_at hvi,List.map_append];rfl)
      | (refine⟨?_,_,rfl⟩;rw[List.take_add_one,num_at hvi,List.map_append];rfl)
    ·obtain⟨rfl,rfl,o2,rfl⟩:=h2
     rw[hW.1,List.take_of_length_le (by rw[num_length];exact Nat.le_refl _)]
     exact k D _ (s'.newT hD) (s'.none hD) upd_same
def BehL (H:Hp)(mm pw pb:Addr)(marks:List Int)(n:Nat)(b:List Int->Nat->Int)(bs:List V)(words:List (List Int)):Prop:=bs.length=words.length/\∀(i:Nat) (w:List Int),words[i]?=some w->∃t,bs[i]?=some (.ref t)/\((H t=some (.lst ((rowB n b w).map V.int))/\t≠pw/\t≠pb)\/(t=mm/\rowB n b w=marks))
theorem BehL.keep {H H':Hp}{mm pw pb:Addr}{marks:List Int}{n:Nat}{b:List Int->Nat->Int}{bs:List V}{words:List (List Int)}(h:BehL H mm pw pb marks n b bs words)(s:∀t o,t≠pw->t≠pb->H t=some o->H' t=some o):BehL H' mm pw pb marks n b bs words:=⟨h.1,fun i w hi=>by
 obtain⟨t,e1,e2⟩:=h.2 i w hi
 exact⟨t,e1,e2.imp (fun e=>⟨s _ _ e.2.1 e.2.2 e.1,e.2⟩) id⟩⟩
theorem BehL.snoc {H:Hp}{mm pw pb:Addr}{marks:List Int}{n:Nat}{b:List Int->Nat->Int}{bs:List V}{words:List (List Int)}{t:Addr}{w:List Int}(h:BehL H mm pw pb marks n b bs words)(ht:H t=some (.lst ((rowB n b w).map V.int)))(h1:t≠pw)(h2:t≠pb):BehL H mm pw pb marks n b (bs++[.ref t]) (words++[w]):=by
 refine⟨by simp[h.1],fun i r hi=>?_⟩
 by_cases hl:i<words.length
 ·rw[List.getElem?_append_left hl]at hi
  rw[List.getElem?_append_left (by rw[h.1];exact hl)]
  exact h.2 i r hi
 ·have:=(List.getElem?_eq_some_iff.mp hi).1
  rw[List.length_append,List.length_singleton]at this
  have e:i=words.length:=by omega
  subst e
  rw[List.getElem?_append_right (Nat.le_refl _),Nat.sub_self]at hi
  simp at hi
  subst hi
  exact⟨t,by rw[<-h.1];simp,.inl ⟨ht,h1,h2⟩⟩
theorem WC.short {L:Int}{n:Nat}{b:List Int->Nat->Int}{words:List (List Int)}{c:List Int}(h:WC L n b words c):∀(k:Nat) (w:List Int),words[k]?=some w->w.length<=k:=by
 intro k
 induction k using Nat.strongRecOn with
 |_ k ih=>
  intro w hw
  cases k with
  |zero=>
   rw[h.w0]at hw
   cases hw
   exact Nat.zero_le _
  |succ k=>
   obtain⟨j,hj⟩:=List.mem_iff_getElem?.mp (h.tl (k+1) w hw (Nat.succ_pos _))
   rw[List.getElem?_take]at hj
   split at hj
   ·rename_i hlt
    have:=ih j hlt _ hj
    rw[List.length_tail]at this
    omega
   ·cases hj
def zipW (c m:List Int):List (List Int):=(c.zip m).map fun p=>[p.1,p.2]
theorem zipW_num (c m:List Int):num (zipW c m)=num (c.zip m):=num_map _ fun p _ q _ e=>by
 have h1:=List.cons.inj e
 exact Prod.ext h1.1 (List.cons.inj h1.2).1
def sp_wc (K:PySem.W.Frag):Sp:=fun vs H Q _=>∃(h:Addr) (L:Nat) (marks:List Int) (ways:List (List Int)),vs=[.ref h]/\House K H h L marks ways/\Wf L marks ways/\∀t pw pc xs H',Same H H'->H' t=some (.tup [.ref pw,.ref pc])->H pw=none->H' pw=some (.lst xs)->WordsT K H' xs (wcOf marks.length L (bW marks ways)).1->H' pc=some (.lst ((wcOf marks.length L (bW marks ways)).2.map V.int))->Fin17 marks.length L (bW marks ways) (wcOf marks.length L (bW marks ways))->Q (.ref t) H'
theorem ok_words_and_classes {f:Addr}{fd:FuncData}(F:Fun K "words_and_classes" "words_and_classes" s_words_and_classes f fd)(T:Txt mg)
  (Z:Exs K mg C_AskError C_BadWord)
  {f_numbered:Addr} {fd_numbered:FuncData} (g_numbered:FnOk P w K mg base CX0 1 f_numbered fd_numbered ["row"] (sp_num K)) (F_numbered:Fun K "numbered" "numbered" s_numbered f_numbered fd_numbered) (b_numbered:Binds K fd_numbered ["row"] []) (m_numbered:mg "numbered"=some (.ref f_numbered))
  : FnOk P w K mg base CX0 2 f fd ["house"] (sp_wc K):=by
 refine F.ok sc_words_and_classes (fun vs H Q E h=>?_) (fun cdv A outer s H vs Q E hr h=>?_)
 ·obtain⟨h,L,marks,ways,rfl,_⟩:=h;rfl
 ·obtain⟨h,L,marks,ways,rfl,hh,wf,k⟩:=h
  have hl:=line1000
  have hL1:=wf.l1
  have hL6:=wf.l6
  have hn1:=wf.n1
  have hn40:=wf.n40
  refine⟨_,(pss_cons (ps_setL (i:=1) sc_words_and_classes.nd (pe_lst (pa_cons (pe_tup pa_nil) pa_nil)))
   (pss_cons (ps_set (i:=2) sc_words_and_classes.nd rfl (Or.inr rfl) (pe_lst (pa_cons (pe_ixA (ixTD ix_tup) (pvD 0) pe_int) pa_nil)))
   (pss_cons (ps_setL (i:=3) sc_words_and_classes.nd (pe_call g_numbered (hr.mono (by decide)) rfl m_numbered F_numbered.kp b_numbered .nil pass0 (pa_cons (pe_ixA (ixTD ix_tup) (pvD 0) pe_int) pa_nil)))
   (pss_cons (ps_set (i:=4) sc_words_and_classes.nd rfl (Or.inr rfl) pe_int)
   (pss_cons (ps_while PassesOwn.never (ptT (pt_cmpR (opD0 op_lt) (pvD 4) (pe_callB (lenD call_len_seq) (by rfl) T.len PySem.boot_len (pa_cons (pvD 1) pa_nil)) (nomark _)))
   (pss_cons (ps_for PassesOwn.never rfl (pi_range1 rfl T.range (pa_cons (pe_ixA (ixTD ix_tup) (pvD 0) pe_int) pa_nil)) (pg_name (i:=5) sc_words_and_classes.nd rfl (Or.inr rfl))
   (pss_cons (ps_setC (i:=6) sc_words_and_classes.nd rfl rfl rfl (blk_mk rfl) (cp:=c_words_and_classes_0) ⟨⟨rfl,rfl⟩,⟨⟨rfl,rfl⟩,⟨⟨rfl,rfl⟩,True.intro⟩⟩⟩ (pi_tup (pe_ixA (ixTD ix_tup) (pvD 0) pe_int)) (fun _ _ _ _=>(pg_name (i:=0) nd_c_words_and_classes_0 rfl (Or.inl rfl))) (fun _ _ _ _=>pf_nil) (fun _ _ _ _=>(pe_ix (ix_seqK (K:=K) rfl) (pe_ixA (ixLD (ix_listK (K:=K) rfl)) (pvD 1) (pvD 2)) (pe_ixA (ixTD (ix_tupK (K:=K) rfl)) (pvD 0) (pvD 3)) (fun _ _=>rfl))))
   (pss_cons (ps_setL (i:=7) sc_words_and_classes.nd (pe_call g_numbered (hr.mono (by decide)) rfl m_numbered F_numbered.kp b_numbered .nil pass0 (pa_cons (pe_listZip rfl rfl T.list rfl T.zip (pa_cons (pvD 3) (pa_cons (pvD 6) pa_nil))) pa_nil)))
   (pss_one (ps_if (ptT (pt_cmpR (opD0 op_gt) (pe_callB (call_maxL rfl) rfl T.max PyProof.Rows.boot_max (pa_cons (pvD 7) pa_nil)) (pe_callB (call_maxL rfl) rfl T.max PyProof.Rows.boot_max (pa_cons (pvD 3) pa_nil)) (nomark _)))
   (pss_cons (ps_expr (pe_bm PySem.F.plainAttrs_list PySem.F.slot_list_append PySem.F.type_list_append mt_append (pvD 1) (pa_cons (pe_op op_catT2 (pe_tup (pa_cons (pvD 5) pa_nil)) (pe_ixA (ixLD ix_list) (pvD 1) (pvD 4))) pa_nil)))
   (pss_cons (ps_expr (pe_bm PySem.F.plainAttrs_list PySem.F.slot_list_append PySem.F.type_list_append mt_append (pvD 2) (pa_cons (pvD 6) pa_nil)))
   (pss_one (ps_setL (i:=3) sc_words_and_classes.nd (pvD 7)))))
   pss_nil)))))
   (pss_one (ps_aug (i:=4) sc_words_and_classes.nd rfl (Or.inr rfl) pe_int ip_add))))
   (pss_one (ps_ret (pe_tup (pa_cons (pvD 1) (pa_cons (pvD 3) pa_nil)))))))))),?_⟩
  obtain⟨mm,wv,q1,q2,ts,q3,q4,q5⟩:=id hh
  walk_at "rd"
  refine⟨Nat.zero_le _,fun t0 ht0=>⟨by omega,fun pw hpw=>?_⟩⟩
  have s1:=(Same.new ht0 (o:=.tup [])).newT hpw (o:=.lst [V.ref t0])
  have hpwH:H pw=none:=(Same.new ht0 (o:=.tup [])).none hpw
  have hw1:upd (upd H t0 (.tup [])) pw (.lst [V.ref t0]) pw=some (.lst [V.ref t0]):=upd_same
  have hW1:WordsT K (upd (upd H t0 (.tup [])) pw (.lst [V.ref t0])) [V.ref t0] [[]]:=⟨rfl,fun i w hi=>by
   match i,hi with
   |0,hi=>cases hi;exact⟨t0,rfl,Same.new hpw _ _ upd_same⟩⟩
  generalize upd (upd H t0 (.tup [])) pw (.lst [V.ref t0])=H1 at s1 hw1 hW1 ⊢
  refine⟨_,s1.seqT q1,_,rfl,by omega,fun pb hpb=>?_⟩
  have hpbH:H pb=none:=s1.none hpb
  have hpbw:pb≠pw:=fun z=>by rw[z,hw1]at hpb;cases hpb
  have s2:=s1.newT hpb (o:=.lst [V.ref mm])
  have hb2:upd H1 pb (.lst [V.ref mm]) pb=some (.lst [V.ref mm]):=upd_same
  have hw2:=Same.new hpb (o:=.lst [V.ref mm]) _ _ hw1
  have hW2:=hW1.mono (TK.new hpb (o:=.lst [V.ref mm]))
  generalize upd H1 pb (.lst [V.ref mm])=H2 at s2 hb2 hw2 hW2 ⊢
  refine⟨_,s2.seqT q1,_,rfl,mm,rfl,.inl ⟨marks,s2.seqT q2,by omega,fun pc H3 s3 hpcN hpc3=>?_⟩⟩
  have s03:=s2.trans s3
  obtain⟨Pv,hPv⟩:∃Pv:Nat->St->Hp->Prop,∀m σ' H',Pv m σ' H'↔(∃(st:StC) (k:Nat) (xs bs:List V) (pc:Addr) (o5 o6 o7:Option V),m=41-k/\Same H H'/\H' pw=some (.lst xs)/\WordsT K H' xs st.1/\H' pb=some (.lst bs)/\BehL H' mm pw pb marks marks.length (bW marks ways) bs st.1/\H' pc=some (.lst (st.2.map V.int))/\pc≠pw/\pc≠pb/\WS marks.length L (bW marks ways) k 0 st/\outerC marks.length (bW marks ways) L (41-k) k st=wcOf marks.length L (bW marks ways)/\σ'=[some (.ref h),some (.ref pw),some (.ref pb),some (.ref pc),some (.int k),o5,o6,o7]):=⟨_,fun _ _ _=>Iff.rfl⟩
  have hpcw:pc≠pw:=fun z=>by rw[z,hw2]at hpcN;cases hpcN
  have hpcb:pc≠pb:=fun z=>by rw[z,hb2]at hpcN;cases hpcN
  refine whileW Pv ⟨_,(hPv _ _ _).mpr ⟨([[]],num (rowB marks.length (bW marks ways) [])),0,[V.ref t0],[V.ref mm],pc,none,none,none,rfl,s03,s3 _ _ hw2,hW2.mono (TK.of s3),s3 _ _ hb2,⟨rfl,fun i w hi=>?_⟩,by rw[bW_nil];exact hpc3,hpcw,hpcb,WS.start hn1,rfl,rfl⟩⟩ ?_
  ·match i,hi with
   |0,hi=>cases hi;exact⟨mm,rfl,.inr ⟨rfl,bW_nil⟩⟩
  intro m σ4 H4 h4
  obtain⟨st,k0,xs,bs,pc4,o5,o6,o7,rfl,s4,hw4,hW4,hb4,hB4,hc4,hcw4,hcb4,ws4,ho4,rfl⟩:=(hPv _ _ _).mp h4
  have hfew:=ws4.few
  walk_at "rd"
  refine⟨_,.inl (SqL.of hw4),?_⟩
  rw[hW4.1]
  refine ite2 (fun hlt=>?_) (fun hge=>?_)
  ·have hk:k0<st.1.length:=by omega
   obtain⟨w,hwk⟩:∃w,st.1[k0]?=some w:=⟨st.1[k0],by simp[hk]⟩
   refine⟨Pv (41-(k0+1)),fun σ' H' h=>⟨_,by omega,h⟩,?_⟩
   walk_at "rd"
   refine⟨_,s4.seqT q1,_,rfl,L,rfl,by omega,by omega,?_⟩
   rw[Int.toNat_natCast]
   obtain⟨Pz,hPz⟩:∃Pv:Nat->St->Hp->Prop,∀i σ' H',Pv i σ' H'↔(∃(st':StC) (xs bs:List V) (pc:Addr) (o5 o6 o7:Option V),st'=innerC marks.length (bW marks ways) w i st/\Same H H'/\H' pw=some (.lst xs)/\WordsT K H' xs st'.1/\H' pb=some (.lst bs)/\BehL H' mm pw pb marks marks.length (bW marks ways) bs st'.1/\H' pc=some (.lst (st'.2.map V.int))/\pc≠pw/\pc≠pb/\WS marks.length L (bW marks ways) k0 i st'/\st'.1[k0]?=some w/\σ'=[some (.ref h),some (.ref pw),some (.ref pb),some (.ref pc),some (.int k0),o5,o6,o7]):=⟨_,fun _ _ _=>Iff.rfl⟩
   refine forR Pz ((hPz _ _ _).mpr ⟨st,xs,bs,pc4,o5,o6,o7,rfl,s4,hw4,hW4,hb4,hB4,hc4,hcw4,hcb4,ws4,hwk,rfl⟩) (fun i σ5 H5 hi h5=>?_) (fun σ5 H5 h5=>?_)
   ·obtain⟨st5,xs5,bs5,pc5,p5,p6,p7,hst5,s5,hw5,hW5,hb5,hB5,hc5,hcw5,hcb5,ws5,hwk5,rfl⟩:=(hPz _ _ _).mp h5
    rw[Int.zero_add]
    have hfew5:=ws5.few
    have hisw:=ws5.wc.ok w (List.mem_of_getElem? hwk5)
    obtain⟨tb,htb,htbv⟩:=hB5.2 k0 w hwk5
    walk_at "rd"
    refine⟨_,s5.seqT q1,_,rfl,wv,rfl,⟨_,s5.seqT q3⟩,compT (xs:=ts.map V.ref) (fun j zs σ' H'=>H'=H5/\zs=((rowB marks.length (bW marks ways) ((i:Int)::w)).take j).map V.int/\∃o,σ'=[o,some (.ref pb),some (.int k0),some (.int i)]) ⟨rfl,rfl,none,rfl⟩ (by rw[List.length_map,q4,wf.len];omega) (fun j zs σ' H' hj h'=>⟨by rw[h'.1];exact s5.seqT q3,by rw[h'.2.1,List.length_map,List.length_take];omega⟩) (fun j x zs σ' H' hx h'=>?_) (fun zs σ' H' h' D hD=>?_)⟩
    ·obtain⟨rfl,rfl,o,rfl⟩:=h'
     rw[List.getElem?_map]at hx
     cases htj:ts[j]? with
     |none=>rw[htj]at hx;cases hx
     |some tj=>
      rw[htj]at hx
      cases hx
      have hj:j<marks.length:=by rw[<-wf.len,<-q4];exact (List.getElem?_eq_some_iff.mp htj).1
      obtain⟨row,g,r1,r2,r3,r4,r5⟩:=wf.step (show (0:Int)<=(j:Nat) by omega) (by omega) (show (0:Int)<=(i:Nat) by omega) (by omega)
      rw[Int.toNat_natCast]at r1 r2
      have hrow:=q5 j tj row htj r1
      have hval:(rowB marks.length (bW marks ways) w)[g.toNat]?=some (bW marks ways ((i:Int)::w) j):=by
       rw[rowB_at (by omega),bW_cons w (i:Int) j (by rw[r3];exact r4),r3]
      have hrj:(rowB marks.length (bW marks ways) ((i:Int)::w))[j]?=some (bW marks ways ((i:Int)::w) j):=rowB_at hj
      walk_at "rd"
      refine⟨_,SqL.of hb5,_,atI_nat htb,_,s5.seqT hrow,_,atI_int (by omega) (by rw[Int.toNat_natCast];exact r2),?_⟩
      have hfin:((rowB marks.length (bW marks ways) ((i:Int)::w)).take j).map V.int++[V.int (bW marks ways ((i:Int)::w) j)]=((rowB marks.length (bW marks ways) ((i:Int)::w)).take (j+1)).map V.int:=by rw[List.take_add_one,hrj,List.map_append];rfl
      rcases htbv with ⟨hl1,_,_⟩|⟨htm,hmk⟩
      ·exact .inl ⟨tb,rfl,_,g,rfl,SqL.of hl1,_,atI_int r4 hval,hfin,_,rfl⟩
      ·exact .inr ⟨tb,rfl,_,g,rfl,by rw[htm];exact s5.seqT q2,_,atI_int r4 (by have hv:=hval;rw[hmk]at hv;exact hv),hfin,_,rfl⟩
    ·obtain⟨rfl,rfl,o,rfl⟩:=h'
     rw[List.length_map,q4,wf.len,List.take_of_length_le (by rw[rowB_len];exact Nat.le_refl _)]
     have hne:st5.2.zip (rowB marks.length (bW marks ways) ((i:Int)::w)) ≠ []:=fun z=>by
      have:=congrArg List.length z
      rw[List.length_zip,ws5.wc.len,rowB_len,Nat.min_self,List.length_nil]at this
      omega
     have hzl:(zipW st5.2 (rowB marks.length (bW marks ways) ((i:Int)::w))).length=marks.length:=by
      unfold zipW
      rw[List.length_map,List.length_zip,ws5.wc.len,rowB_len];omega
     refine⟨D,rfl,_,SqL.of (Same.new hD _ _ hc5),_,SqL.of upd_same,by rw[List.length_map,List.length_map,ws5.wc.len,rowB_len],fun l rs H6 s6 hl6 hrl hrs=>⟨l,rfl,.inr ⟨rs,zipW st5.2 (rowB marks.length (bW marks ways) ((i:Int)::w)),SqL.of upd_same,⟨?_,fun j v hj=>?_⟩,by omega,fun pf H7 s7 hpfN hpf=>?_⟩⟩⟩
     ·rw[hrl,hzl,List.length_map,ws5.wc.len]
     ·unfold zipW at hj
      rw[List.getElem?_map]at hj
      cases hq:(st5.2.zip (rowB marks.length (bW marks ways) ((i:Int)::w)))[j]? with
      |none=>rw[hq]at hj;cases hj
      |some p=>
       rw[hq]at hj
       cases hj
       obtain⟨u1,u2⟩:=List.getElem?_zip_eq_some.mp (show (st5.2.zip (rowB marks.length (bW marks ways) ((i:Int)::w)))[j]?=some (p.1,p.2) from hq)
       obtain⟨t,t1,t2⟩:=hrs j (V.int p.1) (V.int p.2) (by rw[List.getElem?_map,u1];rfl) (by rw[List.getElem?_map,u2];rfl)
       exact⟨t,t1,Same.new hl6 _ _ t2⟩
     have sD:Same H' (upd H' D (.lst ((rowB marks.length (bW marks ways) ((i:Int)::w)).map V.int))):=Same.new hD
     have hDD:upd H' D (.lst ((rowB marks.length (bW marks ways) ((i:Int)::w)).map V.int)) D=some (.lst ((rowB marks.length (bW marks ways) ((i:Int)::w)).map V.int)):=upd_same
     have s67:=(Same.new hl6 (o:=.lst rs)).trans s7
     have s57:=sD.trans (s6.trans s67)
     have hD7:=(s6.trans s67) _ _ hDD
     have hw7:=s57 _ _ hw5
     have hb7:=s57 _ _ hb5
     have hc7:=s57 _ _ hc5
     have hDw:D≠pw:=fun z=>by rw[z,hw5]at hD;cases hD
     have hDb:D≠pb:=fun z=>by rw[z,hb5]at hD;cases hD
     have hpfH:H' pf=none:=sD.none (s6.none ((Same.new hl6 (o:=.lst rs)).none hpfN))
     have hpfw:pf≠pw:=fun z=>by rw[z,hw5]at hpfH;cases hpfH
     have hpfb:pf≠pb:=fun z=>by rw[z,hb5]at hpfH;cases hpfH
     have hstep:=ws5.step hn1 hwk5 hi
     have hsucc:innerC marks.length (bW marks ways) w (i+1) st=stepC marks.length (bW marks ways) w st5 i:=by rw[innerC_succ,<-hst5]
     rw[zipW_num]at hpf
     refine⟨pf,rfl,_,SqL.of hpf,(ncl (st5.2.zip (rowB marks.length (bW marks ways) ((i:Int)::w))):Int)-1,num_top hne,(fun x hx=>by have:=num_lt hx;omega),_,SqL.of hc7,(ncl st5.2:Int)-1,ws5.wc.top,(fun x hx=>by have:=ws5.wc.rng x hx;omega),?_⟩
     refine ite2 (fun hgt=>?_) (fun hle=>?_)
     ·have hgt':ncl st5.2<ncl (st5.2.zip (rowB marks.length (bW marks ways) ((i:Int)::w))):=by omega
      have est:stepC marks.length (bW marks ways) w st5 i=(st5.1++[(i:Int)::w],num (st5.2.zip (rowB marks.length (bW marks ways) ((i:Int)::w)))):=by unfold stepC;rw[if_pos hgt']
      obtain⟨tw,htw1,htw2⟩:=hW5.2 k0 w hwk5
      have hwlen:=WC.short ws5.wc k0 w hwk5
      refine⟨.inl ⟨rfl,_,SqL.of hw7⟩,by omega,fun p1 hp1=>⟨_,SqL.of (Same.new hp1 _ _ hw7),_,atI_nat htw1,rCatT2.ofS upd_same (Same.new hp1 _ _ (s57 _ _ htw2)) (by simp;omega) fun q H8 s8 hq=>?_⟩⟩
      have s78:=(Same.new hp1 (o:=.tup [V.int i])).trans s8
      have hw8:=s78 _ _ hw7
      have hb8:=s78 _ _ hb7
      have hxl:=hW5.1
      have hbl:=hB5.1
      refine⟨_,hw8,by omega,?_⟩
      have hb9:upd H8 pw (.lst (xs5++[V.ref q])) pb=some (.lst bs5):=by rw[upd_ne hpbw];exact hb8
      have s58:=s57.trans s78
      rw[est]at hstep hsucc
      refine⟨.inl ⟨rfl,_,SqL.of hb9⟩,_,hb9,by omega,(hPz _ _ _).mpr ⟨_,xs5++[V.ref q],bs5++[V.ref D],pf,_,_,_,hsucc.symm,((s5.trans s58).over hpwH).over hpbH,by rw[upd_ne (Ne.symm hpbw),upd_same],(((hW5.mono (TK.of s58)).snoc (w:=(i:Int)::w) hq).mono (TK.lst hw8)).mono (TK.lst hb9),upd_same,?_,by rw[upd_ne hpfb,upd_ne hpfw];exact s78 _ _ hpf,hpfw,hpfb,hstep.1,hstep.2,rfl⟩⟩
      exact BehL.snoc (hB5.keep (fun t o t1 t2 e=>by rw[upd_ne t2,upd_ne t1];exact s58 _ _ e)) (by rw[upd_ne hDb,upd_ne hDw];exact s78 _ _ hD7) hDw hDb
     ·have hle':¬ ncl st5.2<ncl (st5.2.zip (rowB marks.length (bW marks ways) ((i:Int)::w))):=by omega
      have est:stepC marks.length (bW marks ways) w st5 i=st5:=by unfold stepC;rw[if_neg hle']
      rw[est]at hstep hsucc
      exact (hPz _ _ _).mpr ⟨st5,xs5,bs5,pc5,_,_,_,hsucc.symm,s5.trans s57,hw7,hW5.mono (TK.of s57),hb7,hB5.keep (fun t o _ _ e=>s57 _ _ e),hc7,hcw5,hcb5,hstep.1,hstep.2,rfl⟩
   ·obtain⟨st5,xs5,bs5,pc5,p5,p6,p7,hst5,s5,hw5,hW5,hb5,hB5,hc5,hcw5,hcb5,ws5,hwk5,rfl⟩:=(hPz _ _ _).mp h5
    walk_at "rd"
    have e41:41-k0=(41-(k0+1))+1:=by omega
    refine (hPv _ _ _).mpr ⟨st5,k0+1,xs5,bs5,pc5,_,_,_,rfl,s5,hw5,hW5,hb5,hB5,hc5,hcw5,hcb5,ws5.next,?_,rfl⟩
    rw[hst5,<-ho4,e41,outerC_go hwk]
  ·have e:st=wcOf marks.length L (bW marks ways):=by rw[<-ho4,outerC_end (by omega)]
   have hfin:=ws4.fin (by omega)
   rw[e]at hW4 hc4 hfin
   exact⟨by omega,fun p hp=>k p pw pc4 xs _ (s4.newT hp) upd_same hpwH (Same.new hp _ _ hw4) (hW4.mono (TK.new hp)) (Same.new hp _ _ hc4) hfin⟩
def sp_tel (K:PySem.W.Frag):Sp:=fun vs H Q _=>∃(h:Addr) (L:Nat) (marks:List Int) (ways:List (List Int)),vs=[.ref h]/\House K H h L marks ways/\Wf L marks ways/\∀pw xs H',Same H H'->H pw=none->H' pw=some (.lst xs)->WordsT K H' xs (wcOf marks.length L (bW marks ways)).1->Fin17 marks.length L (bW marks ways) (wcOf marks.length L (bW marks ways))->Q (.ref pw) H'
theorem ok_tellers {f:Addr}{fd:FuncData}(F:Fun K "tellers" "tellers" s_tellers f fd)(T:Txt mg)
  (Z:Exs K mg C_AskError C_BadWord)
  {f_words_and_classes:Addr} {fd_words_and_classes:FuncData} (g_words_and_classes:FnOk P w K mg base CX0 2 f_words_and_classes fd_words_and_classes ["house"] (sp_wc K)) (F_words_and_classes:Fun K "words_and_classes" "words_and_classes" s_words_and_classes f_words_and_classes fd_words_and_classes) (b_words_and_classes:Binds K fd_words_and_classes ["house"] []) (m_words_and_classes:mg "words_and_classes"=some (.ref f_words_and_classes))
  : FnOk P w K mg base CX0 3 f fd ["house"] (sp_tel K):=by
 refine F.ok sc_tellers (fun vs H Q E h=>?_) (fun cdv A outer s H vs Q E hr h=>?_)
 ·obtain⟨h,L,marks,ways,rfl,_⟩:=h;rfl
 ·obtain⟨h,L,marks,ways,rfl,hh,wf,k⟩:=h
  refine⟨_,(pss_one (ps_ret (pe_ixA (ixTD ix_tup) (pe_call g_words_and_classes (hr.mono (by decide)) rfl m_words_and_classes F_words_and_classes.kp b_words_and_classes .nil pass0 (pa_cons (pvD 0) pa_nil)) pe_int))),?_⟩
  walk_at "rd"
  exact⟨h,L,marks,ways,rfl,hh,wf,fun t pw pc xs H' s' ht hpwN hpw hW hpc hfin=>⟨t,rfl,_,SqT.of ht,_,rfl,k pw xs H' s' hpwN hpw hW hfin⟩⟩
def sp_cls (K:PySem.W.Frag):Sp:=fun vs H Q _=>∃(h:Addr) (L:Nat) (marks:List Int) (ways:List (List Int)),vs=[.ref h]/\House K H h L marks ways/\Wf L marks ways/\∀pc H',Same H H'->H' pc=some (.lst ((wcOf marks.length L (bW marks ways)).2.map V.int))->Fin17 marks.length L (bW marks ways) (wcOf marks.length L (bW marks ways))->Q (.ref pc) H'
theorem ok_classes_of {f:Addr}{fd:FuncData}(F:Fun K "classes_of" "classes_of" s_classes_of f fd)(T:Txt mg)
  (Z:Exs K mg C_AskError C_BadWord)
  {f_words_and_classes:Addr} {fd_words_and_classes:FuncData} (g_words_and_classes:FnOk P w K mg base CX0 2 f_words_and_classes fd_words_and_classes ["house"] (sp_wc K)) (F_words_and_classes:Fun K "words_and_classes" "words_and_classes" s_words_and_classes f_words_and_classes fd_words_and_classes) (b_words_and_classes:Binds K fd_words_and_classes ["house"] []) (m_words_and_classes:mg "words_and_classes"=some (.ref f_words_and_classes))
  : FnOk P w K mg base CX0 3 f fd ["house"] (sp_cls K):=by
 refine F.ok sc_classes_of (fun vs H Q E h=>?_) (fun cdv A outer s H vs Q E hr h=>?_)
 ·obtain⟨h,L,marks,ways,rfl,_⟩:=h;rfl
 ·obtain⟨h,L,marks,ways,rfl,hh,wf,k⟩:=h
  refine⟨_,(pss_one (ps_ret (pe_ixA (ixTD ix_tup) (pe_call g_words_and_classes (hr.mono (by decide)) rfl m_words_and_classes F_words_and_classes.kp b_words_and_classes .nil pass0 (pa_cons (pvD 0) pa_nil)) pe_int))),?_⟩
  walk_at "rd"
  exact⟨h,L,marks,ways,rfl,hh,wf,fun t pw pc xs H' s' ht hpwN hpw hW hpc hfin=>⟨t,rfl,_,SqT.of ht,_,rfl,k pc H' s' hpc hfin⟩⟩
theorem firstsA_pre {α:Type}[DecidableEq α]:∀(row acc:List α),∃t,firstsA acc row=acc++t
 |[],acc=>⟨[],by simp[firstsA]⟩
 |x::row,acc=>by
  obtain⟨t,ht⟩:=firstsA_pre row (ins1 acc x)
  show ∃t,firstsA (ins1 acc x) row=acc++t
  rw[ht]
  unfold ins1
  split
  ·exact⟨t,rfl⟩
  ·exact⟨x::t,by simp⟩
theorem firsts_app {α:Type}[DecidableEq α](a b:List α):∃t,firsts (a++b)=firsts a++t:=by
 unfold firsts firstsA
 rw[List.foldl_append]
 exact firstsA_pre b _
theorem idx_pre {α:Type}[DecidableEq α]{row:List α}{i:Nat}{x:α}(h:x∈firsts (row.take i)):(firsts row).idxOf x=(firsts (row.take i)).idxOf x:=by
 obtain⟨t,ht⟩:=firsts_app (row.take i) (row.drop i)
 rw[List.take_append_drop]at ht
 rw[ht,List.idxOf_append,if_pos h]
def homeL (c R:List Int)(n i:Nat):List V:=(List.range n).map fun r:Nat=>if (r:Int)∈R.take i then V.int (hm c R r) else V.non
theorem homeL_len {c R:List Int}{n i:Nat}:(homeL c R n i).length=n:=by unfold homeL;simp
theorem homeL_set {c R:List Int}{n i:Nat}{r:Int}(hr:R[i]?=some r)(h0:0<=r)(h1:r<(n:Int)):(homeL c R n i).set r.toNat (V.int (hm c R r))=homeL c R n (i+1):=by
 have et:R.take (i+1)=R.take i++[r]:=by rw[List.take_add_one,hr];rfl
 refine List.ext_getElem? fun j=>?_
 by_cases hj:j<n
 ·have e2:(homeL c R n (i+1))[j]?=some (if (j:Int)∈R.take (i+1) then V.int (hm c R j) else V.non):=by
   unfold homeL
   rw[List.getElem?_map,List.getElem?_range hj];rfl
  have e1:(homeL c R n i)[j]?=some (if (j:Int)∈R.take i then V.int (hm c R j) else V.non):=by
   unfold homeL
   rw[List.getElem?_map,List.getElem?_range hj];rfl
  rw[e2]
  by_cases e:r.toNat=j
  ·have hrj:r=(j:Int):=by omega
   rw[<-e,List.getElem?_set_self (by rw[homeL_len];omega),e,<-hrj,if_pos (by rw[et];simp)]
  ·rw[List.getElem?_set_ne e,e1]
   have hne:¬ (j:Int)=r:=fun z=>e (by omega)
   by_cases hm':(j:Int)∈R.take i
   ·rw[if_pos hm',if_pos (by rw[et];exact List.mem_append_left _ hm')]
   ·rw[if_neg hm',if_neg (by rw[et];intro z;rcases List.mem_append.mp z with z|z;exact hm' z;exact hne (List.mem_singleton.mp z))]
 ·rw[List.getElem?_eq_none (by rw[List.length_set,homeL_len];omega),List.getElem?_eq_none (by rw[homeL_len];omega)]
def sp_homes (K:PySem.W.Frag):Sp:=fun vs H Q _=>∃(h:Addr) (L:Nat) (marks:List Int) (ways:List (List Int)),vs=[.ref h]/\House K H h L marks ways/\Wf L marks ways/\∀p H',Same H H'->H p=none->H' p=some (.lst (homeL (wcOf marks.length L (bW marks ways)).2 ((wordsIn ways).map (·.1)) marks.length ((wordsIn ways).map (·.1)).length))->Fin17 marks.length L (bW marks ways) (wcOf marks.length L (bW marks ways))->RF L marks.length ways ((wordsIn ways).map (·.1))->Q (.ref p) H'
theorem ok_homes {f:Addr}{fd:FuncData}(F:Fun K "homes" "homes" s_homes f fd)(T:Txt mg)
  (Z:Exs K mg C_AskError C_BadWord)
  {f_reached:Addr} {fd_reached:FuncData} (g_reached:FnOk P w K mg base CX0 2 f_reached fd_reached ["house"] (sp_reach18 K)) (F_reached:Fun K "reached" "reached" s_reached f_reached fd_reached) (b_reached:Binds K fd_reached ["house"] []) (m_reached:mg "reached"=some (.ref f_reached))
  {f_classes_of:Addr} {fd_classes_of:FuncData} (g_classes_of:FnOk P w K mg base CX0 3 f_classes_of fd_classes_of ["house"] (sp_cls K)) (F_classes_of:Fun K "classes_of" "classes_of" s_classes_of f_classes_of fd_classes_of) (b_classes_of:Binds K fd_classes_of ["house"] []) (m_classes_of:mg "classes_of"=some (.ref f_classes_of))
  : FnOk P w K mg base CX0 4 f fd ["house"] (sp_homes K):=by
 refine F.ok sc_homes (fun vs H Q E h=>?_) (fun cdv A outer s H vs Q E hr h=>?_)
 ·obtain⟨h,L,marks,ways,rfl,_⟩:=h;rfl
 ·obtain⟨h,L,marks,ways,rfl,hh,wf,k⟩:=h
  have hl:=line1000
  have hn40:=wf.n40
  obtain⟨mm,wv,q1,q2,q3⟩:=id hh
  refine⟨_,(pss_cons (ps_setL (i:=1) sc_homes.nd (pe_call g_classes_of (hr.mono (by decide)) rfl m_classes_of F_classes_of.kp b_classes_of .nil pass0 (pa_cons (pvD 0) pa_nil)))
   (pss_cons (ps_setL (i:=2) sc_homes.nd pe_dnewK)
   (pss_cons (ps_setL (i:=3) sc_homes.nd (pe_op op_rep (pe_lst (pa_cons pe_non pa_nil)) (pe_callB (lenD call_len_seq) (by rfl) T.len PySem.boot_len (pa_cons (pe_ixA (ixTD ix_tup) (pvD 0) pe_int) pa_nil))))
   (pss_cons (ps_for PassesOwn.never rfl (pi_list (pe_call g_reached (hr.mono (by decide)) rfl m_reached F_reached.kp b_reached .nil pass0 (pa_cons (pvD 0) pa_nil))) (pg_name (i:=4) sc_homes.nd rfl (Or.inl rfl))
   (pss_one (ps_asg (pe_setdefK (pvD 2) (pe_ixA (ixLD ix_list) (pvD 1) (pvD 4)) (pe_callB call_lenB (by rfl) T.len PySem.boot_len (pa_cons (pvD 2) pa_nil)) ⟨by rfl,by rfl,by rfl,by rfl⟩) (pg_sub (pvD 3) (pvD 4) set_list))))
   (pss_one (ps_ret (pvD 3))))))),?_⟩
  walk_at "rd"
  refine⟨h,L,marks,ways,rfl,hh,wf,fun pc H1 s1 hpc hfin=>?_⟩
  intro pd hpd
  have sd:=s1.newT hpd (o:=.dK [])
  refine⟨by omega,fun p1 hp1=>⟨_,(sd.newT hp1).seqT q1,_,rfl,mm,rfl,_,.inr ((sd.newT hp1).seqT q2),_,upd_same,by omega,by rw[List.length_map];omega,by rw[List.length_map,List.length_singleton,Int.toNat_natCast];omega,fun pt hpt=>?_⟩⟩
  rw[List.length_map,Int.toNat_natCast]
  have sT:=(sd.newT hp1 (o:=.lst [V.non])).newT hpt (o:=.lst (List.replicate marks.length [V.non]).flatten)
  have hptN:H pt=none:=(sd.newT hp1 (o:=.lst [V.non])).none hpt
  have hpdN:H pd=none:=s1.none hpd
  have hpdT:upd (upd (upd H1 pd (.dK [])) p1 (.lst [V.non])) pt (.lst (List.replicate marks.length [V.non]).flatten) pd=some (.dK []):=(Same.new hpt) _ _ ((Same.new hp1) _ _ upd_same)
  have hptT:upd (upd (upd H1 pd (.dK [])) p1 (.lst [V.non])) pt (.lst (List.replicate marks.length [V.non]).flatten) pt=some (.lst (List.replicate marks.length [V.non]).flatten):=upd_same
  have hpcT:upd (upd (upd H1 pd (.dK [])) p1 (.lst [V.non])) pt (.lst (List.replicate marks.length [V.non]).flatten) pc=some (.lst ((wcOf marks.length L (bW marks ways)).2.map V.int)):=(Same.new hpt) _ _ ((Same.new hp1) _ _ ((Same.new hpd) _ _ hpc))
  generalize upd (upd (upd H1 pd (.dK [])) p1 (.lst [V.non])) pt (.lst (List.replicate marks.length [V.non]).flatten)=HT at sT hpdT hptT hpcT ⊢
  clear sd hp1 hpt hpd s1 hpc
  refine⟨h,L,marks,ways,rfl,hh.mono sT,wf,fun pR H2 s2 hpRN hpR rf=>⟨pR,rfl,⟨_,SqL.of hpR⟩,?_⟩⟩
  generalize hR:(wordsIn ways).map (·.1)=R at hpR rf k
  generalize hst:wcOf marks.length L (bW marks ways)=st at hpcT hfin k
  have s02:=sT.trans s2
  have hpd2:=s2 _ _ hpdT
  have hpt2:=s2 _ _ hptT
  have hpc2:=s2 _ _ hpcT
  have hdt:pd≠pt:=fun z=>by rw[z,hpt2]at hpd2;cases hpd2
  have hRt:pR≠pt:=fun z=>by rw[z,hptT]at hpRN;cases hpRN
  have hRd:pR≠pd:=fun z=>by rw[z,hpdT]at hpRN;cases hpRN
  have hcd:pc≠pd:=fun z=>by rw[z,hpd2]at hpc2;cases hpc2
  have hct:pc≠pt:=fun z=>by
   rw[z,hpt2]at hpc2
   have hcl:=hfin.wc.len
   have e:=Option.some.inj hpc2
   injection e with e
   have hn1:=wf.n1
   have e0:=congrArg (fun l:List V=>l[0]?) e
   obtain⟨n,hn⟩:∃n,marks.length=n+1:=⟨marks.length-1,by omega⟩
   cases hc:st.2 with
   |nil=>rw[hc]at hcl;simp at hcl;omega
   |cons a r=>rw[hc,hn]at e0;simp[List.replicate_succ]at e0
  have hki:∀x y:Int,(Sum.inl x:Key)=Sum.inl y->x=y:=fun x y z=>Sum.inl.inj z
  obtain⟨Pv,hPv⟩:∃Pv:Nat->St->Hp->Prop,∀i σ' H',Pv i σ' H'↔(∃o:Option V,Same H H'/\H' pR=some (.lst (R.map V.int))/\H' pc=some (.lst (st.2.map V.int))/\H' pd=some (.dK (numD (fun x:Int=>(Sum.inl x:Key)) (firsts ((R.map (cf st.2)).take i))))/\H' pt=some (.lst (homeL st.2 R marks.length i))/\σ'=[some (.ref h),some (.ref pc),some (.ref pd),some (.ref pt),o]):=⟨_,fun _ _ _=>Iff.rfl⟩
  refine forL (xs:=R.map V.int) Pv ((hPv _ _ _).mpr ⟨none,s02,hpR,hpc2,hpd2,?_,rfl⟩) (fun i σ' H' _ h'=>by obtain⟨_,_,h2,_⟩:=(hPv _ _ _).mp h';exact SqL.of h2) (fun i x σ' H' hx h'=>?_) (fun σ' H' h'=>?_)
  ·rw[hpt2]
   congr 2
   unfold homeL
   refine List.ext_getElem? fun j=>?_
   by_cases hj:j<marks.length
   ·rw[List.getElem?_map,List.getElem?_range hj];simp[hj]
   ·rw[List.getElem?_eq_none (by simp;omega),List.getElem?_eq_none (by simp;omega)]
  ·obtain⟨o,s',hpR',hpc',hpd',hpt',rfl⟩:=(hPv _ _ _).mp h'
   obtain⟨r,hr,rfl⟩:=get_mapI hx
   have hrm:=List.mem_of_getElem? hr
   have hrr:=rf.rng r hrm
   have hcr:(R.map (cf st.2))[i]?=some (cf st.2 r):=by rw[List.getElem?_map,hr];rfl
   have hcl:=hfin.wc.len
   have hfl:=ncl_take (R.map (cf st.2)) i
   rw[List.length_map]at hfl
   have hRl:=rf.len
   have nd:=nodup_firsts ((R.map (cf st.2)).take i)
   have et:=take_firsts hcr
   have hcat:(st.2)[r.toNat]?=some (cf st.2 r):=by unfold cf;rw[List.getD_eq_getElem?_getD];simp[show r.toNat<st.2.length by omega]
   walk_at "rd"
   have hix:ixN (homeL st.2 R marks.length i).length r=some r.toNat:=by rw[homeL_len];exact ixN_of hrr.1 (by omega)
   have hset:=homeL_set (c:=st.2) (n:=marks.length) hr hrr.1 hrr.2
   refine⟨.inl ⟨_,.inl hpd'⟩,_,SqL.of hpc',_,atI_int hrr.1 hcat,.inl ⟨_,hpd',_,rfl,_,hpd',by rw[numD_len];omega,fun v hv=>?_,fun hn=>?_⟩⟩
   ·by_cases hm':cf st.2 r∈firsts ((R.map (cf st.2)).take i)
    ·have e:=numD_some (k:=fun x:Int=>(Sum.inl x:Key)) hki nd hm'
     have e2:=hv.symm.trans e
     cases e2
     have eh:hm st.2 R r=(((firsts ((R.map (cf st.2)).take i)).idxOf (cf st.2 r):Nat):Int):=by unfold hm;rw[idx_pre hm']
     refine⟨_,hpt',_,hix,(hPv _ _ _).mpr ⟨_,s'.over hptN,by rw[upd_ne hRt];exact hpR',by rw[upd_ne hct];exact hpc',by rw[upd_ne hdt,et,ins1,if_pos hm'];exact hpd',by rw[upd_same,<-hset,eh],rfl⟩⟩
    ·have e:=numD_none (k:=fun x:Int=>(Sum.inl x:Key)) hki hm'
     have e2:=hv.symm.trans e
     cases e2
   ·have hm':cf st.2 r∉firsts ((R.map (cf st.2)).take i):=fun z=>by
     have e:=numD_some (k:=fun x:Int=>(Sum.inl x:Key)) hki nd z
     have e2:=hn.symm.trans e
     cases e2
    have hput:=numD_put (k:=fun x:Int=>(Sum.inl x:Key)) hki hm'
    have eh:hm st.2 R r=((numD (fun x:Int=>(Sum.inl x:Key)) (firsts ((R.map (cf st.2)).take i))).length:Int):=by
     unfold hm
     rw[numD_len,idx_pre (i:=i+1) (by rw[et,ins1,if_neg hm'];simp),et,ins1,if_neg hm',idx_new hm']
    have hpt2':upd H' pd (.dK (putK (numD (fun x:Int=>(Sum.inl x:Key)) (firsts ((R.map (cf st.2)).take i))) (Sum.inl (cf st.2 r)) (V.int ((numD (fun x:Int=>(Sum.inl x:Key)) (firsts ((R.map (cf st.2)).take i))).length:Int)))) pt=some (.lst (homeL st.2 R marks.length i)):=by rw[upd_ne (Ne.symm hdt)];exact hpt'
    refine⟨_,hpt2',_,hix,(hPv _ _ _).mpr ⟨_,(s'.over hpdN).over hptN,by rw[upd_ne hRt,upd_ne hRd];exact hpR',by rw[upd_ne hct,upd_ne hcd];exact hpc',?_,by rw[upd_same,<-hset,eh],rfl⟩⟩
    rw[upd_ne hdt,upd_same,et,ins1,if_neg hm',numD_len]
    exact congrArg (fun z=>some (HO.dK z)) hput
  ·obtain⟨o,s',hpR',hpc',hpd',hpt',rfl⟩:=(hPv _ _ _).mp h'
   rw[List.length_map]at hpt'
   walk_at "rd"
   exact k pt _ s' hptN hpt' hfin rf
theorem hm_new {c R:List Int}{i:Nat}{r:Int}(h:R[i]?=some r):(hm c R r=((FR c (R.take i)).length:Int))↔cf c r∉(FR c (R.take i)).map (cf c):=by
 have hcr:(R.map (cf c))[i]?=some (cf c r):=by rw[List.getElem?_map,h];rfl
 have hlen:(FR c (R.take i)).length=(firsts ((R.map (cf c)).take i)).length:=by
  have:=congrArg List.length (FR_map c (R.take i))
  rw[List.length_map,List.map_take]at this
  exact this
 rw[FR_map,List.map_take,hlen]
 have et:=take_firsts hcr
 unfold hm
 constructor
 ·intro e hm'
  rw[idx_pre hm']at e
  have:=List.idxOf_lt_length_of_mem hm'
  omega
 ·intro hm'
  rw[idx_pre (i:=i+1) (by rw[et,ins1,if_neg hm'];simp),et,ins1,if_neg hm',idx_new hm']
theorem homeL_at {c R:List Int}{n:Nat}{r:Int}(hr:r∈R)(h0:0<=r)(h1:r<(n:Int)):(homeL c R n R.length)[r.toNat]?=some (V.int (hm c R r)):=by
 unfold homeL
 rw[List.getElem?_map,List.getElem?_range (by omega),List.take_length]
 have e:((r.toNat:Nat):Int)=r:=by omega
 show some (if ((r.toNat:Nat):Int)∈R then V.int (hm c R ((r.toNat:Nat):Int)) else V.non)=_
 rw[e,if_pos hr]
theorem WordsT.toRows {K:PySem.W.Frag}{H:Hp}{w:Addr}{zs:List V}{ws:List (List Int)}(h:WordsT K H zs ws)(hw:SqT K H w zs):Rows K H w ws:=by
 refine⟨zs.map (fun v=>match v with | .ref t=>t|_=>0),?_,by rw[List.length_map];exact h.1,fun i t r hi hr=>?_⟩
 ·have e:(zs.map (fun v=>match v with | .ref t=>t|_=>0)).map V.ref=zs:=by
   rw[List.map_map]
   refine List.ext_getElem? fun i=>?_
   rw[List.getElem?_map]
   by_cases hi:i<ws.length
   ·obtain⟨t,a,_⟩:=h.2 i ws[i] (by simp[hi])
    rw[a];rfl
   ·rw[List.getElem?_eq_none (by rw[h.1];omega)];rfl
  rw[e];exact hw
 ·obtain⟨t',a,b⟩:=h.2 i r hr
  rw[List.getElem?_map,a]at hi
  cases hi
  exact SqT.of b
def sp_least (K:PySem.W.Frag):Sp:=fun vs H Q _=>∃(h:Addr) (L:Nat) (marks:List Int) (ways:List (List Int)),vs=[.ref h]/\House K H h L marks ways/\Wf L marks ways/\∀t H',Same H H'->House K H' t L (sM L marks ways) (sW L marks ways)->Q (.ref t) H'
theorem ok_least {f:Addr}{fd:FuncData}(F:Fun K "least" "least" s_least f fd)(T:Txt mg)
  (Z:Exs K mg C_AskError C_BadWord)
  {f_reached:Addr} {fd_reached:FuncData} (g_reached:FnOk P w K mg base CX0 2 f_reached fd_reached ["house"] (sp_reach18 K)) (F_reached:Fun K "reached" "reached" s_reached f_reached fd_reached) (b_reached:Binds K fd_reached ["house"] []) (m_reached:mg "reached"=some (.ref f_reached))
  {f_homes:Addr} {fd_homes:FuncData} (g_homes:FnOk P w K mg base CX0 4 f_homes fd_homes ["house"] (sp_homes K)) (F_homes:Fun K "homes" "homes" s_homes f_homes fd_homes) (b_homes:Binds K fd_homes ["house"] []) (m_homes:mg "homes"=some (.ref f_homes))
  : FnOk P w K mg base CX0 5 f fd ["house"] (sp_least K):=by
 refine F.ok sc_least (fun vs H Q E h=>?_) (fun cdv A outer s H vs Q E hr h=>?_)
 ·obtain⟨h,L,marks,ways,rfl,_⟩:=h;rfl
 ·obtain⟨h,L,marks,ways,rfl,hh,wf,k⟩:=h
  have hl:=line1000
  have hn40:=wf.n40
  have hL6:=wf.l6
  obtain⟨mm,wv,q1,q2,q3⟩:=id hh
  refine⟨_,(pss_cons (ps_set (i:=1) sc_least.nd rfl (Or.inr rfl) (pe_call g_homes (hr.mono (by decide)) rfl m_homes F_homes.kp b_homes .nil pass0 (pa_cons (pvD 0) pa_nil)))
   (pss_cons (ps_setL (i:=2) sc_least.nd (pe_lst pa_nil))
   (pss_cons (ps_setL (i:=3) sc_least.nd (pe_lst pa_nil))
   (pss_cons (ps_for PassesOwn.never rfl (pi_list (pe_call g_reached (hr.mono (by decide)) rfl m_reached F_reached.kp b_reached .nil pass0 (pa_cons (pvD 0) pa_nil))) (pg_name (i:=4) sc_least.nd rfl (Or.inl rfl))
   (pss_one (ps_if (ptT (pt_cmpR (opE op_eq) (pe_ixA (ixLD ix_list) (pvD 1) (pvD 4)) (pe_callB (lenD call_len_seq) (by rfl) T.len PySem.boot_len (pa_cons (pvD 2) pa_nil)) (nomark _)))
   (pss_cons (ps_expr (pe_bm PySem.F.plainAttrs_list PySem.F.slot_list_append PySem.F.type_list_append mt_append (pvD 2) (pa_cons (pe_ixA (ixTD ix_tup) (pe_ixA (ixTD ix_tup) (pvD 0) pe_int) (pvD 4)) pa_nil)))
   (pss_one (ps_expr (pe_bm PySem.F.plainAttrs_list PySem.F.slot_list_append PySem.F.type_list_append mt_append (pvD 3) (pa_cons (pe_callTy call_tuple_L rfl T.tuple PyProof.Rows.boot_tuple (pa_cons (pe_comp rfl (blk_mk rfl) (cp:=c_least_3) ⟨⟨rfl,rfl⟩,True.intro⟩ (pi_tup (pe_ixA (ixTD ix_tup) (pe_ixA (ixTD ix_tup) (pvD 0) pe_int) (pvD 4))) (fun _ _ _ _=>(pg_name (i:=0) nd_c_least_3 rfl (Or.inl rfl))) (fun _ _ _ _=>pf_nil) (fun _ _ _ _=>(pe_ixA (ixLD (ix_listK (K:=K) rfl)) (pvD 1) (pvD 0)))) pa_nil)) pa_nil)))))
   pss_nil)))
   (pss_one (ps_ret (pe_tup (pa_cons (pe_ixA (ixTD ix_tup) (pvD 0) pe_int) (pa_cons (pe_callTy call_tuple_L rfl T.tuple PyProof.Rows.boot_tuple (pa_cons (pvD 2) pa_nil)) (pa_cons (pe_callTy call_tuple_L rfl T.tuple PyProof.Rows.boot_tuple (pa_cons (pvD 3) pa_nil)) pa_nil)))))))))),?_⟩
  walk_at "rd"
  refine⟨h,L,marks,ways,rfl,hh,wf,fun ph H1 s1 hphN hph hfin rf=>?_⟩
  generalize hR:(wordsIn ways).map (·.1)=R at hph rf
  generalize hst:wcOf marks.length L (bW marks ways)=st at hph hfin
  refine⟨Nat.zero_le _,fun pm hpm=>⟨Nat.zero_le _,fun pv hpv=>?_⟩⟩
  have hpmN:H pm=none:=s1.none hpm
  have s2:=(s1.newT hpm (o:=.lst [])).newT hpv (o:=.lst [])
  have hpvN:H pv=none:=(s1.newT hpm (o:=.lst [])).none hpv
  have hpm2:upd (upd H1 pm (.lst [])) pv (.lst []) pm=some (.lst []):=(Same.new hpv) _ _ upd_same
  have hpv2:upd (upd H1 pm (.lst [])) pv (.lst []) pv=some (.lst []):=upd_same
  have hph2:upd (upd H1 pm (.lst [])) pv (.lst []) ph=some (.lst (homeL st.2 R marks.length R.length)):=(Same.new hpv) _ _ ((Same.new hpm) _ _ hph)
  have hphm:ph≠pm:=fun z=>by rw[z,hpm]at hph;cases hph
  have hmv:pm≠pv:=fun z=>by rw[<-z,upd_same]at hpv;cases hpv
  have hphv:ph≠pv:=fun z=>by rw[<-z,(Same.new hpm) _ _ hph]at hpv;cases hpv
  generalize upd (upd H1 pm (.lst [])) pv (.lst [])=H2 at s2 hpm2 hpv2 hph2 ⊢
  refine⟨h,L,marks,ways,rfl,hh.mono s2,wf,fun pR H3 s3 hpRN hpR rf2=>?_⟩
  rw[hR]at hpR
  have s03:=s2.trans s3
  have hRm:pR≠pm:=fun z=>by rw[z,hpm2]at hpRN;cases hpRN
  have hRv:pR≠pv:=fun z=>by rw[z,hpv2]at hpRN;cases hpRN
  have hpm3:=s3 _ _ hpm2
  have hpv3:=s3 _ _ hpv2
  have hph3:=s3 _ _ hph2
  refine⟨pR,rfl,⟨_,SqL.of hpR⟩,?_⟩
  obtain⟨Pv,hPv⟩:∃Pv:Nat->St->Hp->Prop,∀i σ' H',Pv i σ' H'↔(∃(zs:List V) (o:Option V),Same H H'/\H' pR=some (.lst (R.map V.int))/\H' ph=some (.lst (homeL st.2 R marks.length R.length))/\H' pm=some (.lst (((FR st.2 (R.take i)).map (mkR marks)).map V.int))/\H' pv=some (.lst zs)/\WordsT K H' zs ((FR st.2 (R.take i)).map (hrow st.2 R ways))/\σ'=[some (.ref h),some (.ref ph),some (.ref pm),some (.ref pv),o]):=⟨_,fun _ _ _=>Iff.rfl⟩
  refine forL (xs:=R.map V.int) Pv ((hPv _ _ _).mpr ⟨[],none,s03,hpR,hph3,hpm3,hpv3,WordsT.nil,rfl⟩) (fun i σ' H' _ h'=>by obtain⟨_,_,_,h2,_⟩:=(hPv _ _ _).mp h';exact SqL.of h2) (fun i x σ' H' hx h'=>?_) (fun σ' H' h'=>?_)
  ·obtain⟨zs,o,s',hpR',hph',hpm',hpv',hZ',rfl⟩:=(hPv _ _ _).mp h'
   obtain⟨r,hr,rfl⟩:=get_mapI hx
   have hrm:=List.mem_of_getElem? hr
   have hrr:=rf.rng r hrm
   have hfl:=FR_len st.2 (R.take i)
   have hRl:=rf.len
   rw[List.length_take]at hfl
   have hat:=homeL_at (c:=st.2) (n:=marks.length) hrm hrr.1 hrr.2
   have hnew:=hm_new (c:=st.2) hr
   have eFR:=FR_take (c:=st.2) hr
   obtain⟨row,hrow1,hrow2,hrow3⟩:=wf.row hrr.1 hrr.2
   have hrows:=wf.rows row hrow2
   have hcls:∀g∈row,g∈R:=fun g hg=>by
    obtain⟨x,hx⟩:=List.mem_iff_getElem?.mp hg
    have hxl:=(List.getElem?_eq_some_iff.mp hx).1
    have:=rf.cls r hrm x (by omega)
    rwa [stepW_of hrow1 (by rw[Int.toNat_natCast];exact hx)]at this
   have hmk:marks[r.toNat]?=some (mkR marks r):=by unfold mkR;rw[List.getD_eq_getElem?_getD];simp[show r.toNat<marks.length by omega]
   have hhr:hrow st.2 R ways r=row.map (hm st.2 R):=by unfold hrow;rw[List.getD_eq_getElem?_getD,hrow1];rfl
   obtain⟨xs1,t1,z1,z2,z3⟩:=q3.atZ hrr.1 hrow1
   walk_at "rd"
   refine⟨_,SqL.of hph',_,atI_of hrr.1 hat,_,.inl (SqL.of hpm'),?_⟩
   rw[List.length_map,List.length_map]
   refine⟨rfl,ite2 (fun he=>?_) (fun he=>?_)⟩
   ·have hnot:=hnew.mp (V.int.inj he)
    have eFR':FR st.2 (R.take (i+1))=FR st.2 (R.take i)++[r]:=by rw[eFR,frstep,if_neg hnot]
    refine⟨.inl ⟨rfl,_,SqL.of hpm'⟩,_,s'.seqT q1,_,rfl,mm,rfl,_,s'.seqT q2,_,atI_int hrr.1 hmk,_,hpm',by rw[List.length_map,List.length_map];omega,?_⟩
    have sM:=s'.over hpmN (o:=.lst (((FR st.2 (R.take i)).map (mkR marks)).map V.int++[V.int (mkR marks r)]))
    have hpvM:upd H' pm (.lst (((FR st.2 (R.take i)).map (mkR marks)).map V.int++[V.int (mkR marks r)])) pv=some (.lst zs):=by rw[upd_ne (Ne.symm hmv)];exact hpv'
    have hphM:upd H' pm (.lst (((FR st.2 (R.take i)).map (mkR marks)).map V.int++[V.int (mkR marks r)])) ph=some (.lst (homeL st.2 R marks.length R.length)):=by rw[upd_ne hphm];exact hph'
    have hpRM:upd H' pm (.lst (((FR st.2 (R.take i)).map (mkR marks)).map V.int++[V.int (mkR marks r)])) pR=some (.lst (R.map V.int)):=by rw[upd_ne hRm];exact hpR'
    have hpmM:upd H' pm (.lst (((FR st.2 (R.take i)).map (mkR marks)).map V.int++[V.int (mkR marks r)])) pm=some (.lst (((FR st.2 (R.take i)).map (mkR marks)).map V.int++[V.int (mkR marks r)])):=upd_same
    have hZM:=hZ'.mono (TK.lst hpm' (o:=.lst (((FR st.2 (R.take i)).map (mkR marks)).map V.int++[V.int (mkR marks r)])))
    generalize upd H' pm (.lst (((FR st.2 (R.take i)).map (mkR marks)).map V.int++[V.int (mkR marks r)]))=HM at sM hpvM hphM hpRM hpmM hZM ⊢
    obtain⟨f,hf⟩:∃f:V->V,∀n:Int,f (V.int n)=.int (hm st.2 R n):=⟨fun x=>match x with | .int n=>.int (hm st.2 R n)|_=>.non,fun _=>rfl⟩
    refine⟨.inl ⟨rfl,_,SqL.of hpvM⟩,_,sM.seqT q1,_,rfl,wv,rfl,_,sM.seqT z1,_,z2,t1,rfl,⟨_,sM.seqT z3⟩,compMapT (σ':=[some (.ref ph)]) f rfl (sM.seqT z3) (by rw[List.length_map];omega) (fun x hx R' hR'=>?_) (fun D hD=>?_)⟩
    ·obtain⟨g,hg,rfl⟩:=mem_mapI hx
     rw[hf]at hR'
     have hgb:=hrows.2 g hg
     walk_at "rd"
     exact⟨_,SqL.of hphM,_,atI_of hgb.1 (homeL_at (hcls g hg) hgb.1 hgb.2),hR'⟩
    ·have em:(row.map V.int).map f=(hrow st.2 R ways r).map V.int:=by
      rw[hhr,List.map_map,List.map_map]
      exact List.map_congr_left fun n _=>hf n
     rw[em]
     refine⟨D,rfl,_,.inl ⟨SqL.of upd_same,fun tl htl=>?_⟩⟩
     have sX:=(Same.new hD (o:=.lst ((hrow st.2 R ways r).map V.int))).newT htl (o:=.tup ((hrow st.2 R ways r).map V.int))
     have hpvX:=sX _ _ hpvM
     have hzl:zs.length<=1000:=by rw[hZ'.1,List.length_map];omega
     refine⟨_,hpvX,by omega,(hPv _ _ _).mpr ⟨zs++[V.ref tl],_,(sM.trans sX).over hpvN,by rw[upd_ne hRv];exact sX _ _ hpRM,by rw[upd_ne hphv];exact sX _ _ hphM,?_,upd_same,?_,rfl⟩⟩
     ·rw[upd_ne hmv,sX _ _ hpmM,eFR',List.map_append,List.map_append];rfl
     ·rw[eFR',List.map_append]
      exact ((hZM.mono (TK.of sX)).snoc (w:=hrow st.2 R ways r) upd_same).mono (TK.lst hpvX)
   ·have hin:cf st.2 r∈(FR st.2 (R.take i)).map (cf st.2):=Decidable.byContradiction fun z=>he (by rw[hnew.mpr z])
    have eFR':FR st.2 (R.take (i+1))=FR st.2 (R.take i):=by rw[eFR,frstep,if_pos hin]
    exact (hPv _ _ _).mpr ⟨zs,_,s',hpR',hph',by rw[eFR'];exact hpm',hpv',by rw[eFR'];exact hZ',rfl⟩
  ·obtain⟨zs,o,s',hpR',hph',hpm',hpv',hZ',rfl⟩:=(hPv _ _ _).mp h'
   rw[List.length_map,List.take_length]at hpm' hZ'
   walk_at "rd"
   refine⟨_,s'.seqT q1,_,rfl,_,.inl ⟨SqL.of hpm',fun tm htm=>⟨_,.inl ⟨SqL.of ((Same.new htm) _ _ hpv'),fun tw htw=>⟨by omega,fun t ht=>?_⟩⟩⟩⟩⟩
   have sE:=((Same.new htm (o:=.tup (((FR st.2 R).map (mkR marks)).map V.int))).newT htw (o:=.tup zs)).newT ht (o:=.tup [V.int L,V.ref tm,V.ref tw])
   subst hR hst
   exact k t _ (s'.trans sE) ⟨tm,tw,SqT.of upd_same,SqT.of ((Same.new ht) _ _ ((Same.new htw) _ _ upd_same)),WordsT.toRows (hZ'.mono (TK.of sE)) (SqT.of ((Same.new ht) _ _ upd_same))⟩
def SameT (T:Addr)(H H':Hp):Prop:=∀b o,b≠T->H b=some o->H' b=some o
theorem wordsT_wd {K:PySem.W.Frag}{H:Hp}:∀{us:List (List Int)} {xs:List V},WordsT K H xs us->∃os:List S64.Wd,xs=S64.wv os/\os.map (·.2)=us/\∀w∈os,H w.1=some (.tup (w.2.map V.int))
 |[],xs,h=>⟨[],List.length_eq_zero_iff.mp h.1,rfl,fun w hw=>by cases hw⟩
 |u::us,xs,h=>by
  obtain⟨t,h1,h2⟩:=h.2 0 u rfl
  match xs,h with
  |[],h=>exact absurd h.1 (by simp)
  |x::xs,h=>
   have e:x=V.ref t:=by simpa using h1
   obtain⟨os,e1,e2,e3⟩:=wordsT_wd (K:=K) (H:=H) (us:=us) (xs:=xs) ⟨by simpa using h.1,fun i w hw=>h.2 (i+1) w (by simpa using hw)⟩
   refine⟨(t,u)::os,by rw[e,e1];rfl,by simp[e2],fun w hw=>?_⟩
   rcases List.mem_cons.mp hw with rfl|hw
   ·exact h2
   ·exact e3 w hw
def WsT (H:Hp)(os:List S64.Wd):Prop:=∀w∈os,H w.1=some (.tup (w.2.map V.int))
def sp_ord (K:PySem.W.Frag):Sp:=fun vs H Q _=>∃(a:Addr) (xs:List V) (ws:List (List Int)),vs=[.ref a]/\SqL K H a xs/\WordsT K H xs ws/\ws.length<sizeLine/\H (tabP K "in_order")=some (.tbl #[]) /\
 ∀D H' os,SameT (tabP K "in_order") H H'->H D=none->H' D=some (.lst (S64.wv os))->WsT H' os->(os.map (·.2)).Perm (ws.foldl ins [])->S64.Srt os->Q (.ref D) H'
theorem ok_in_order {f:Addr}{fd:FuncData}(F:FunL K mg base "in_order" "in_order" s_in_order f fd)(T:Txt mg)
  (Z:Exs K mg C_AskError C_BadWord)
  : FnOk P w K mg base CX0 4 f fd ["words"] (sp_ord K):=by
 refine F.ok sc_in_order (fun vs H Q E h=>?_) (fun cdv hcd A outer s H vs Q E hr h=>?_)
 ·obtain⟨a,xs,ws,rfl,_⟩:=h;rfl
 ·obtain⟨a,xs,ws,rfl,hs,hW,hz,hT,k⟩:=h
  have hl:=line1000
  refine⟨_,(pss_cons (ps_set (i:=1) sc_in_order.nd rfl (Or.inl rfl) pe_dnewT)
   (pss_cons (ps_for PassesOwn.never rfl (pi_list (pvD 0)) (pg_name (i:=2) sc_in_order.nd rfl (Or.inl rfl))
   (pss_one (ps_dput (hu_of hr) (pvD 1) (pvD 2) pe_bl rfl)))
   (pss_one (ps_ret (pe_sortedK (k:=0) (c:=tabC K "in_order") (P:=tabP K "in_order") hr rfl T.sorted T.len hcd F.C F.B (pa_cons (pe_callTy (call_list_dictT rfl) rfl T.list PyProof.Rows.boot_list (pa_cons (pvD 1) pa_nil)) pa_nil)))))),?_⟩
  walk_at "rd"
  intro p hp
  have sp:=Same.new (o:=.dT []) hp
  refine⟨⟨_,sp.seq hs⟩,?_⟩
  obtain⟨Py,hPy⟩:∃Pv:Nat->St->Hp->Prop,∀j σ' H',Pv j σ' H'↔(∃(kvs:List (List Key×V)) (o':Option V),Same H H'/\H' p=some (.dT kvs)/\KeysW ((ws.take j).foldl ins []) kvs/\σ'=[some (.ref a),some (.ref p),o']):=⟨_,fun _ _ _=>Iff.rfl⟩
  refine forL (xs:=xs) Py ((hPy _ _ _).mpr ⟨[],_,sp,upd_same,by rw[List.take_zero];exact KeysW.nil,rfl⟩) (fun j σ' H' _ h'=>by obtain⟨_,_,s',_⟩:=(hPy _ _ _).mp h';exact s'.seq hs) (fun j y σ3 H3 hy h3=>?_) (fun σ3 H3 h3=>?_)
  ·obtain⟨kvs,o',s3,hd,hk,rfl⟩:=(hPy _ _ _).mp h3
   obtain⟨u,v,hvi,rfl,hu⟩:=hW.at hy
   have hj:j<ws.length:=(List.getElem?_eq_some_iff.mp hvi).1
   have hlen:kvs.length<sizeLine:=by
    have h1:=insAll_len (ws.take j) []
    rw[hk.len]
    rw[List.length_take,List.length_nil]at h1
    omega
   walk_at "rd"
   have hq':H3 u=some (.tup ((wkey v).map kV)):=by rw[wkey_kV];exact s3 _ _ hu
   refine⟨_,DPut.t (k:=wkey v) hd hq' (by omega),(hPy _ _ _).mpr ⟨_,_,s3.over hp,upd_same,?_,rfl⟩⟩
   rw[List.take_add_one,hvi,Option.toList_some,List.foldl_append]
   exact hk.put _ _
  ·obtain⟨kvs,o',s3,hd,hk,rfl⟩:=(hPy _ _ _).mp h3
   rw[hW.1,List.take_length]at hk
   walk_at "rd"
   refine⟨kvs,.inl hd,fun l rs hln hrl hrs=>?_⟩
   have hWr:WordsT K (upd H3 l (.lst rs)) rs (ws.foldl ins []):=(hk.words (K:=K) hrl hrs).mono (TK.new hln)
   obtain⟨os0,e1,e2,e3⟩:=wordsT_wd hWr
   have s4:Same H (upd H3 l (.lst rs)):=s3.newT hln
   have hT4:=s4 _ _ hT
   have hlen:os0.length<sizeLine:=by
    have h1:=congrArg List.length e2
    have h2:=insAll_len ws []
    rw[List.length_map]at h1
    rw[List.length_nil]at h2
    omega
   have hl4:SqL K (upd H3 l (.lst rs)) l (S64.wv os0):=by rw[<-e1];exact SqL.of upd_same
   generalize upd H3 l (.lst rs)=H4 at hWr e3 s4 hT4 hl4 ⊢
   refine⟨os0,hl4,fun w hw=>SqT.of (e3 w hw),hlen,hT4,fun ps' H5 D os s5 hDn hD hp5 hsrt=>?_⟩
   have s45:∀b o,b≠tabP K "in_order" -> H4 b=some o->H5 b=some o:=fun b o hb e=>s5 b o (by rw[upd_ne hb];exact e)
   refine k D H5 os (fun b o hb e=>s45 b o hb (s4 b o e)) (Same.none s4 hDn) hD (fun w hw=>?_) ?_ hsrt
   ·have h1:=e3 w (hp5.mem_iff.mp hw)
    refine s45 _ _ (fun z=>?_) h1
    rw[z,hT4]at h1;cases h1
   ·have:=hp5.map (·.2)
    rw[e2]at this
    exact this
def EndsOk (K:PySem.W.Frag)(H:Hp)(e:Addr)(n:Nat)(E:Nat->List (List Int)):Prop:=∃es:List V,H e=some (.lst es)/\∀r,r<n->∃q ys,es[r]?=some (.ref q)/\H q=some (.lst ys)/\WordsT K H ys (E r)
def wayW (ways:List (List Int))(r:Nat):List Int:=(((wordsIn ways).find? fun e=>e.1==(r:Int)).getD (0,[])).2
theorem wayW_of {ways:List (List Int)}(nod:((wordsIn ways).map (·.1)).Nodup){r:Nat}{w:List Int}(h:((r:Int),w)∈wordsIn ways):wayW ways r=w:=by
 unfold wayW
 cases hf:(wordsIn ways).find? fun e=>e.1==(r:Int) with
 |none=>exact absurd (List.find?_eq_none.mp hf _ h) (by simp)
 |some e=>
  have h1:=List.find?_some hf
  have h2:=List.mem_of_find?_eq_some hf
  have e1:e.1=(r:Int):=by simpa using h1
  obtain⟨i,hi,ei⟩:=List.getElem_of_mem h2
  obtain⟨j,hj,ej⟩:=List.getElem_of_mem h
  have ij:i=j:=(List.getElem_inj (h₀:=by simpa using hi) (h₁:=by simpa using hj) nod).mp (by simp[ei,ej,e1])
  subst ij
  rw[ei]at ej
  rw[Option.getD_some,ej]
def oneW (ways:List (List Int))(E:Nat->List (List Int))(r:Nat)(m:List Int):List (List Int):=(E (walkW ways (wayW ways r++m)).toNat).map ((wayW ways r++m) ++ ·)
def allW (ways:List (List Int))(n:Nat)(mids:List (List Int))(E:Nat->List (List Int)):List (List Int):=(List.range n).flatMap fun r=>mids.flatMap (oneW ways E r)
abbrev midsW (L:Int)(m:Nat):List (List Int):=(List.range (many L (m+2)).toNat).map (nth L)
theorem flat_len {α β:Type}{f:α->List β}{c:Nat}:∀(l:List α),(∀x∈l,(f x).length<=c)->(l.flatMap f).length<=l.length*c
 |[],_=>by simp
 |x::l,h=>by
  have h1:=h x List.mem_cons_self
  have h2:=flat_len l (fun y hy=>h y (List.mem_cons_of_mem _ hy))
  rw[List.flatMap_cons,List.length_append,List.length_cons,Nat.succ_mul]
  omega
theorem wordsT_app {K:PySem.W.Frag}{H:Hp}{xs ys:List V}{us vs:List (List Int)}(h:WordsT K H xs us)(g:WordsT K H ys vs):WordsT K H (xs++ys) (us++vs):=by
 refine⟨by rw[List.length_append,List.length_append,h.1,g.1],fun i w hw=>?_⟩
 by_cases hi:i<us.length
 ·rw[List.getElem?_append_left hi]at hw
  obtain⟨t,a,b⟩:=h.2 i w hw
  exact⟨t,by rw[List.getElem?_append_left (by rw[h.1];exact hi)];exact a,b⟩
 ·rw[List.getElem?_append_right (by omega)]at hw
  obtain⟨t,a,b⟩:=g.2 _ w hw
  exact⟨t,by rw[List.getElem?_append_right (by rw[h.1];omega),h.1];exact a,b⟩
def sp_with (K:PySem.W.Frag):Sp:=fun vs H Q _=>∃(h e:Addr) (L:Int) (m:Nat) (marks:List Int) (ways:List (List Int)) (E:Nat->List (List Int)),vs=[.ref h,.int m,.ref e]/\House K H h L marks ways/\Wf L marks ways/\m<=3/\many L (m+2)<=341/\EndsOk K H e marks.length E/\(∀r,r<marks.length->(E r).length<=40/\∀w∈E r,w.length<=40)/\(∀r:Nat,r<marks.length->(r:Int)∈(wordsIn ways).map (·.1))/\H (tabP K "in_order")=some (.tbl #[]) /\
 ∀D H' os,SameT (tabP K "in_order") H H'->H D=none->H' D=some (.lst (S64.wv os))->WsT H' os->(os.map (·.2)).Perm ((allW ways marks.length (midsW L m) E).foldl ins [])->S64.Srt os->Q (.ref D) H'
theorem ok_words_with {f:Addr}{fd:FuncData}(F:Fun K "words_with" "words_with" s_words_with f fd)(T:Txt mg)
  (Z:Exs K mg C_AskError C_BadWord)
  {f_words_to:Addr} {fd_words_to:FuncData} (g_words_to:FnOk P w K mg base CX0 4 f_words_to fd_words_to ["letters","most"] (sp_wto K)) (F_words_to:Fun K "words_to" "words_to" s_words_to f_words_to fd_words_to) (b_words_to:Binds K fd_words_to ["letters","most"] []) (m_words_to:mg "words_to"=some (.ref f_words_to))
  {f_room_behind:Addr} {fd_room_behind:FuncData} (g_room_behind:FnOk P w K mg base (CXe P w) 4 f_room_behind fd_room_behind ["house","word"] (sp_room K C_BadWord)) (F_room_behind:Fun K "room_behind" "room_behind" s_room_behind f_room_behind fd_room_behind) (b_room_behind:Binds K fd_room_behind ["house","word"] []) (m_room_behind:mg "room_behind"=some (.ref f_room_behind))
  {f_ways_in:Addr} {fd_ways_in:FuncData} (g_ways_in:FnOk P w K mg base CX0 2 f_ways_in fd_ways_in ["house"] (sp_waysin K)) (F_ways_in:Fun K "ways_in" "ways_in" s_ways_in f_ways_in fd_ways_in) (b_ways_in:Binds K fd_ways_in ["house"] []) (m_ways_in:mg "ways_in"=some (.ref f_ways_in))
  {f_in_order:Addr} {fd_in_order:FuncData} (g_in_order:FnOk P w K mg base CX0 4 f_in_order fd_in_order ["words"] (sp_ord K)) (F_in_order:Fun K "in_order" "in_order" s_in_order f_in_order fd_in_order) (b_in_order:Binds K fd_in_order ["words"] []) (m_in_order:mg "in_order"=some (.ref f_in_order))
  : FnOk P w K mg base CX0 5 f fd ["base","more","ends"] (sp_with K):=by
 refine F.ok sc_words_with (fun vs H Q E h=>?_) (fun cdv A outer s H vs Q E hr h=>?_)
 ·obtain⟨h,e,L,m,marks,ways,E,rfl,_⟩:=h;rfl
 ·obtain⟨h,e,L,m,marks,ways,E,rfl,hh,wf,hm,hmany,hE,hEl,hall,hT,k⟩:=h
  have hl:=line1000
  have hL1:=wf.l1
  have hL6:=wf.l6
  have hn40:=wf.n40
  refine⟨_,(pss_cons (ps_setL (i:=3) sc_words_with.nd (pe_lst pa_nil))
   (pss_cons (ps_for PassesOwn.never rfl (pi_list (pe_call g_ways_in (hr.mono (by decide)) rfl m_ways_in F_ways_in.kp b_ways_in .nil pass0 (pa_cons (pvD 0) pa_nil))) (pg_name (i:=4) sc_words_with.nd rfl (Or.inl rfl))
   (pss_one (ps_for PassesOwn.never rfl (pi_list (pe_call g_words_to (hr.mono (by decide)) rfl m_words_to F_words_to.kp b_words_to .nil pass0 (pa_cons (pe_ixA (ixTD ix_tup) (pvD 0) pe_int) (pa_cons (pe_op (opD0 op_add) (pvD 1) pe_int) pa_nil)))) (pg_name (i:=5) sc_words_with.nd rfl (Or.inl rfl))
   (pss_cons (ps_set (i:=6) sc_words_with.nd rfl (Or.inr rfl) (pe_op op_catT2 (pvD 4) (pvD 5)))
   (pss_one (ps_expr (pe_bm PySem.F.plainAttrs_list PySem.F.slot_list_extend PySem.F.type_list_extend mt_extend (pvD 3) (pa_cons (pe_comp rfl (blk_mk rfl) (cp:=c_words_with_0) ⟨⟨rfl,rfl⟩,True.intro⟩ (pi_list (pe_ixA (ixLD ix_list) (pvD 2) (pe_call g_room_behind (hr.mono (by decide)) rfl m_room_behind F_room_behind.kp b_room_behind .nil (passNev (P:=P) (w:=w)) (pa_cons (pvD 0) (pa_cons (pvD 6) pa_nil))))) (fun _ _ _ _=>(pg_name (i:=0) nd_c_words_with_0 rfl (Or.inl rfl))) (fun _ _ _ _=>pf_nil) (fun _ _ _ _=>(pe_op (op_catT2K (K:=K) rfl) (pvD 1) (pvD 0)))) pa_nil))))))))
   (pss_one (ps_ret (pe_call g_in_order (hr.mono (by decide)) rfl m_in_order F_in_order.kp b_in_order .nil pass0 (pa_cons (pvD 3) pa_nil)))))),?_⟩
  walk_at "rd"
  refine⟨by omega,fun p hp=>?_⟩
  have s0:=Same.new (o:=.lst []) hp
  refine⟨h,L,marks,ways,rfl,hh.mono s0,wf,fun d top H1 s1 hdn hWS bf=>?_⟩
  obtain⟨xs,hd,hxl,hxs⟩:=hWS
  have s01:=s0.trans s1
  have hp1:=s1 _ _ (upd_same (H:=H) (a:=p) (o:=.lst []))
  have hpd:d≠p:=(none_of_upd hdn).2
  refine⟨d,rfl,⟨_,SqL.of hd⟩,?_⟩
  have hmL:(midsW L m).length<=341:=by
   rw[List.length_map,List.length_range];omega
  have hone:∀(r:Nat) (v:List Int),r<marks.length->isW L (wayW ways r++v)=true->(oneW ways E r v).length<=40:=fun r v hr hv=>by
   have h1:=wf.walk hv (wayW ways r++v).length
   rw[List.take_length]at h1
   unfold oneW
   rw[List.length_map]
   exact (hEl _ (by omega)).1
  have hway:∀r,r<marks.length->∃t,xs[r]?=some (.ref t)/\H1 t=some (.tup ((wayW ways r).map V.int))/\isW L (wayW ways r)=true/\(wayW ways r).length<=40:=fun r hr=>by
   rcases hxs r hr with ⟨w,t,a,b,c⟩|⟨a,_⟩
   ·rw[wayW_of bf.nod a]
    obtain⟨j,hj⟩:=List.mem_iff_getElem?.mp a
    have h1:=bf.sh j _ hj
    have h2:=(List.getElem?_eq_some_iff.mp hj).1
    have h3:=bf.len
    exact⟨t,b,c,(bf.wd _ a).1,by dsimp only at h1;omega⟩
   ·exact absurd (hall r hr) a
  have hmv:∀v∈midsW L m,isW L v=true:=fun v hv=>by
   obtain⟨k',_,rfl⟩:=List.mem_map.mp hv
   exact nth_valid (show 0<L by omega) k'
  have happ:∀r,r<marks.length->∀v,isW L v=true->isW L (wayW ways r++v)=true:=fun r hr v hv=>by
   obtain⟨_,_,_,hwv,_⟩:=hway r hr
   rw[isW_iff]at hwv hv ⊢
   intro x hx
   rcases List.mem_append.mp hx with hx|hx
   ·exact hwv x hx
   ·exact hv x hx
  have hb1:∀r,r<marks.length->∀j,(((midsW L m).take j).flatMap (oneW ways E r)).length<=13640:=fun r hr j=>by
   have h1:=flat_len (f:=oneW ways E r) (c:=40) ((midsW L m).take j) (fun v hv=>hone r v hr (happ r hr v (hmv v (List.mem_of_mem_take hv))))
   have h2:((midsW L m).take j).length<=341:=Nat.le_trans (by rw[List.length_take];omega) hmL
   omega
  have hb2:∀i,i<=marks.length->((List.range i).flatMap fun r=>(midsW L m).flatMap (oneW ways E r)).length<=545600:=fun i hi=>by
   have h1:=flat_len (f:=fun r=>(midsW L m).flatMap (oneW ways E r)) (c:=13640) (List.range i) (fun r hr=>by
    have:=hb1 r (by have:=List.mem_range.mp hr;omega) (midsW L m).length
    rw[List.take_length]at this
    exact this)
   rw[List.length_range]at h1
   have h2:i*13640<=40*13640:=Nat.mul_le_mul_right _ (by omega)
   omega
  obtain⟨Pv,hPv⟩:∃Pv:Nat->St->Hp->Prop,∀i σ' H',Pv i σ' H'↔(∃(ys:List V) (o4 o5 o6:Option V),Same H H'/\TK H1 H'/\H' d=some (.lst xs)/\H' p=some (.lst ys)/\WordsT K H' ys ((List.range i).flatMap fun r=>(midsW L m).flatMap (oneW ways E r))/\σ'=[some (.ref h),some (.int m),some (.ref e),some (.ref p),o4,o5,o6]):=⟨_,fun _ _ _=>Iff.rfl⟩
  refine forL (xs:=xs) Pv ((hPv _ _ _).mpr ⟨[],none,none,none,s01,TK.refl _,hd,hp1,WordsT.nil,rfl⟩) (fun i σ' H' _ h'=>by obtain⟨_,_,_,_,_,_,q,_⟩:=(hPv _ _ _).mp h';exact SqL.of q) (fun i x σ2 H2 hx h2=>?_) (fun σ2 H2 h2=>?_)
  ·obtain⟨ys,o4,o5,o6,s2,tk2,hd2,hp2,hW2,rfl⟩:=(hPv _ _ _).mp h2
   have hi:i<marks.length:=by rw[<-hxl];exact (List.getElem?_eq_some_iff.mp hx).1
   obtain⟨t,hxt,ht,hwv,hwl⟩:=hway i hi
   rw[hx]at hxt
   cases hxt
   walk_at "rd"
   obtain⟨mm,wv,q1,q2,q3⟩:=id hh
   refine⟨_,s2.seqT q1,_,rfl,L,m+1,by rw[Int.natCast_add];rfl,hL1,hL6,by omega,by show many L (m+2)<=4000;omega,fun pm zs H3 s3 hpmn hpm hWm=>⟨pm,rfl,⟨_,SqL.of hpm⟩,?_⟩⟩
   have hWm':WordsT K H3 zs (midsW L m):=hWm
   have hppm:pm≠p:=fun z=>by rw[z,hp2]at hpmn;cases hpmn
   have hpH:H p=none:=hp
   obtain⟨Pw,hPw⟩:∃Pv:Nat->St->Hp->Prop,∀j σ' H',Pv j σ' H'↔(∃(ys':List V) (o5 o6:Option V),Same H H'/\TK H3 H'/\H' d=some (.lst xs)/\H' pm=some (.lst zs)/\H' p=some (.lst ys')/\WordsT K H' ys' (((List.range i).flatMap fun r=>(midsW L m).flatMap (oneW ways E r))++((midsW L m).take j).flatMap (oneW ways E i))/\σ'=[some (.ref h),some (.int m),some (.ref e),some (.ref p),some (.ref t),o5,o6]):=⟨_,fun _ _ _=>Iff.rfl⟩
   refine forL (xs:=zs) Pw ((hPw _ _ _).mpr ⟨ys,o5,o6,s2.trans s3,TK.refl _,s3 _ _ hd2,hpm,s3 _ _ hp2,by rw[List.take_zero,List.flatMap_nil,List.append_nil];exact hW2.mono (TK.of s3),rfl⟩) (fun j σ' H' _ h'=>by obtain⟨_,_,_,_,_,_,q,_⟩:=(hPw _ _ _).mp h';exact SqL.of q) (fun j y σ4 H4 hy h4=>?_) (fun σ4 H4 h4=>?_)
   ·obtain⟨ys',o5,o6,s4,tk4,hd4,hpm4,hp4,hW4,rfl⟩:=(hPw _ _ _).mp h4
    obtain⟨u,v,hvj,rfl,hu⟩:=hWm'.at hy
    have hvm:isW L v=true/\v.length<=4:=by
     obtain⟨k',hk',rfl⟩:=List.mem_map.mp (List.mem_of_getElem? hvj)
     have hv:=nth_valid (show 0<L by omega) k'
     refine⟨hv,?_⟩
     have h1:=(length_iff (show 0<L by omega) hv (m+1)).mpr (by
      rw[place_nth]
      have:=List.mem_range.mp hk'
      show (k':Int)<many L (m+2)
      omega)
     omega
    have ht4:=tk4 _ _ (TK.of s3 _ _ (tk2 _ _ ht))
    have hu4:=tk4 _ _ hu
    walk_at "rd"
    refine rCatT2.ofS ht4 hu4 (by simp;omega) fun q H5 s5 hq=>?_
    have hfw:isW L (wayW ways i++v)=true:=by
     rw[isW_iff]at hwv ⊢
     intro x hx
     rcases List.mem_append.mp hx with hx|hx
     ·exact hwv x hx
     ·exact isW_iff.mp hvm.1 x hx
    have hq':H5 q=some (.tup ((wayW ways i++v).map V.int)):=by rw[hq,List.map_append]
    walk_at "rd"
    have hp5:=s5 _ _ hp4
    refine⟨.inl ⟨rfl,_,SqL.of hp5⟩,h,q,L,marks,ways,wayW ways i++v,rfl,hh.mono (s4.trans s5),wf,SqT.of hq',by rw[List.length_append];omega,fun _ H6 s6=>?_,fun hf=>by rw[hfw]at hf;cases hf⟩
    have hwr:=wf.walk hfw (wayW ways i++v).length
    rw[List.take_length]at hwr
    obtain⟨es,he1,he2⟩:=id hE
    obtain⟨pe,ye,hpe,hye,hWe⟩:=he2 (walkW ways (wayW ways i++v)).toNat (by omega)
    have hEr:=hEl (walkW ways (wayW ways i++v)).toNat (by omega)
    have s46:=(s4.trans s5).trans s6
    have hye6:=s46 _ _ hye
    have hWe6:=hWe.mono (TK.of s46)
    have hyl:=hWe.1
    refine⟨es,_,rfl,SqL.of (s46 _ _ he1),_,atI_of (by omega) hpe,pe,rfl,⟨_,SqL.of hye6⟩,?_⟩
    refine compL (xs:=ye) (fun j' zs' σ' H'=>Same H6 H'/\WordsT K H' zs' (((E (walkW ways (wayW ways i++v)).toNat).take j').map ((wayW ways i++v) ++ ·))/\∃o,σ'=[o,some (.ref q)]) ⟨Same.refl _,WordsT.nil,none,rfl⟩ (by omega) (fun j' zs' σ' H' hj' h'=>⟨SqL.of (h'.1 _ _ hye6),by have:=h'.2.1.1;rw[List.length_map,List.length_take]at this;omega⟩) (fun j' x' zs' σ' H' hx' h'=>?_) (fun zs' σ' H' h' D hD=>?_)
    ·obtain⟨s7,hz7,o,rfl⟩:=h'
     obtain⟨u',v',hv',rfl,hu'⟩:=hWe6.at hx'
     have hvl:=hEr.2 v' (List.mem_of_getElem? hv')
     walk_at "rd"
     refine rCatT2.ofS (s7 _ _ (s6 _ _ hq')) (s7 _ _ hu') (by simp;omega) fun q2 H8 s8 hq2=>⟨s7.trans s8,?_,_,rfl⟩
     rw[List.take_add_one,hv',Option.toList_some,List.map_append]
     exact (hz7.mono (TK.of s8)).snoc (by rw[hq2];simp)
    ·obtain⟨s7,hz7,o,_⟩:=h'
     rw[hyl,List.take_length]at hz7
     have hp7:upd H' D (.lst zs') p=some (.lst ys'):=by
      have:=s7 _ _ (s6 _ _ hp5)
      rw[upd_ne (ne_of_none this hD)];exact this
     have s7D:Same H6 (upd H' D (.lst zs')):=s7.newT hD
     have hD7:upd H' D (.lst zs') D=some (.lst zs'):=upd_same
     have hz8:WordsT K (upd H' D (.lst zs')) zs' _:=hz7.mono (TK.new hD)
     generalize upd H' D (.lst zs')=H9 at hp7 s7D hD7 hz8 ⊢
     have s59:=(s5.trans s6).trans s7D
     have s49:=s4.trans s59
     have hl1:=hW4.1
     have hl2:=hz8.1
     rw[List.length_append]at hl1
     rw[List.length_map]at hl2
     have hb3:=hb1 i hi j
     have hb4:=hb2 i (by omega)
     have kT:TK H9 (upd H9 p (.lst (ys'++zs'))):=TK.lst hp7
     refine⟨D,rfl,ys',hp7,zs',hD7,by omega,(hPw _ _ _).mpr ⟨ys'++zs',_,_,s49.over hpH,(tk4.trans (TK.of s59)).trans kT,by rw[upd_ne hpd];exact s59 _ _ hd4,by rw[upd_ne hppm];exact s59 _ _ hpm4,upd_same,?_,rfl⟩⟩
     rw[List.take_add_one,hvj,Option.toList_some,List.flatMap_append,<-List.append_assoc]
     refine wordsT_app ((hW4.mono (TK.of s59)).mono kT) ?_
     have e1:[v].flatMap (oneW ways E i)=(E (walkW ways (wayW ways i++v)).toNat).map ((wayW ways i++v) ++ ·):=by simp[oneW]
     rw[e1]
     exact hz8.mono kT
   ·obtain⟨ys',o5,o6,s4,tk4,hd4,hpm4,hp4,hW4,rfl⟩:=(hPw _ _ _).mp h4
    refine (hPv _ _ _).mpr ⟨ys',_,_,_,s4,(tk2.trans (TK.of s3)).trans tk4,hd4,hp4,?_,rfl⟩
    have:(midsW L m).take zs.length=midsW L m:=List.take_of_length_le (by rw[hWm'.1];exact Nat.le_refl _)
    rw[this]at hW4
    rw[List.range_succ,List.flatMap_append]
    simpa using hW4
  ·obtain⟨ys,o4,o5,o6,s2,tk2,hd2,hp2,hW2,rfl⟩:=(hPv _ _ _).mp h2
   rw[hxl]at hW2
   walk_at "rd"
   refine⟨p,ys,_,rfl,SqL.of hp2,hW2,?_,s2 _ _ hT,fun D H3 os s3 hDn hD hos hpm hs=>?_⟩
   ·have:=hb2 marks.length (Nat.le_refl _)
    omega
   ·exact k D H3 os (fun b o hb e=>s3 b o hb (s2 b o e)) (Same.none s2 hDn) hD hos hpm hs
theorem wc_len {L:Int}{n:Nat}{b:List Int->Nat->Int}{words:List (List Int)}{c:List Int}(h:WC L n b words c):∀(k:Nat) (w:List Int),words[k]?=some w->w.length<=k:=by
 intro k
 induction k using Nat.strongRecOn with
 |ind k ih=>
  intro w hw
  by_cases hk:k=0
  ·subst hk
   rw[h.w0]at hw
   cases hw
   simp
  ·have ht:=h.tl k w hw (by omega)
   obtain⟨j,hj⟩:=List.mem_iff_getElem?.mp ht
   have hjk:j<k:=by
    have:=(List.getElem?_eq_some_iff.mp hj).1
    rw[List.length_take]at this
    omega
   rw[List.getElem?_take_of_lt hjk]at hj
   have:=ih j hjk _ hj
   rw[List.length_tail]at this
   omega
def suiteW (L:Nat)(marks:List Int)(ways:List (List Int))(m:Nat):List (List Int):=allW (sW L marks ways) (sM L marks ways).length (midsW (L:Int) m) fun _=>(wcOf (sM L marks ways).length L (bW (sM L marks ways) (sW L marks ways))).1
def sp_suite (K:PySem.W.Frag):Sp:=fun vs H Q _=>∃(h:Addr) (L m:Nat) (marks:List Int) (ways:List (List Int)),vs=[.ref h,.int m]/\House K H h L marks ways/\Wf L marks ways/\m<=3/\many L (m+2)<=341/\H (tabP K "in_order")=some (.tbl #[]) /\
 ∀D H' os,SameT (tabP K "in_order") H H'->H D=none->H' D=some (.lst (S64.wv os))->WsT H' os->(os.map (·.2)).Perm ((suiteW L marks ways m).foldl ins [])->S64.Srt os->Q (.ref D) H'
theorem ok_suite {f:Addr}{fd:FuncData}(F:Fun K "suite" "suite" s_suite f fd)(T:Txt mg)
  (Z:Exs K mg C_AskError C_BadWord)
  {f_tellers:Addr} {fd_tellers:FuncData} (g_tellers:FnOk P w K mg base CX0 3 f_tellers fd_tellers ["house"] (sp_tel K)) (F_tellers:Fun K "tellers" "tellers" s_tellers f_tellers fd_tellers) (b_tellers:Binds K fd_tellers ["house"] []) (m_tellers:mg "tellers"=some (.ref f_tellers))
  {f_least:Addr} {fd_least:FuncData} (g_least:FnOk P w K mg base CX0 5 f_least fd_least ["house"] (sp_least K)) (F_least:Fun K "least" "least" s_least f_least fd_least) (b_least:Binds K fd_least ["house"] []) (m_least:mg "least"=some (.ref f_least))
  {f_words_with:Addr} {fd_words_with:FuncData} (g_words_with:FnOk P w K mg base CX0 5 f_words_with fd_words_with ["base","more","ends"] (sp_with K)) (F_words_with:Fun K "words_with" "words_with" s_words_with f_words_with fd_words_with) (b_words_with:Binds K fd_words_with ["base","more","ends"] []) (m_words_with:mg "words_with"=some (.ref f_words_with))
  : FnOk P w K mg base CX0 6 f fd ["house","more"] (sp_suite K):=by
 refine F.ok sc_suite (fun vs H Q E h=>?_) (fun cdv A outer s H vs Q E hr h=>?_)
 ·obtain⟨h,L,m,marks,ways,rfl,_⟩:=h;rfl
 ·obtain⟨h,L,m,marks,ways,rfl,hh,wf,hm,hmany,hT,k⟩:=h
  have hl:=line1000
  refine⟨_,(pss_cons (ps_setL (i:=2) sc_suite.nd (pe_call g_least (hr.mono (by decide)) rfl m_least F_least.kp b_least .nil pass0 (pa_cons (pvD 0) pa_nil)))
   (pss_cons (ps_set (i:=3) sc_suite.nd rfl (Or.inr rfl) (pe_call g_tellers (hr.mono (by decide)) rfl m_tellers F_tellers.kp b_tellers .nil pass0 (pa_cons (pvD 2) pa_nil)))
   (pss_one (ps_ret (pe_call g_words_with (hr.mono (by decide)) rfl m_words_with F_words_with.kp b_words_with .nil pass0 (pa_cons (pvD 2) (pa_cons (pvD 1) (pa_cons (pe_comp rfl (blk_mk rfl) (cp:=c_suite_0) ⟨⟨rfl,rfl⟩,True.intro⟩ (pi_tup (pe_ixA (ixTD ix_tup) (pvD 2) pe_int)) (fun _ _ _ _=>(pg_name (i:=0) nd_c_suite_0 rfl (Or.inl rfl))) (fun _ _ _ _=>pf_nil) (fun _ _ _ _=>(pvD 1))) pa_nil)))))))),?_⟩
  walk_at "rd"
  have wfs:=sWf wf
  have can:=sCan wf
  have hsn:=wfs.n40
  refine⟨h,L,marks,ways,rfl,hh,wf,fun ps H3 s3 hs3=>?_⟩
  unfold suiteW at k
  generalize sM L marks ways=ms at wfs can hs3 hsn k
  generalize sW L marks ways=vs at wfs can hs3 k
  obtain⟨sm,sv,r1,r2,r3⟩:=id hs3
  refine⟨ps,L,ms,vs,rfl,hs3,wfs,fun pe xs H7 s7 hpeN hpe hW fin=>?_⟩
  have s37:=s3.trans s7
  generalize hst:wcOf ms.length L (bW ms vs)=st at hW fin k
  have hfw:st.1.length<=40:=by
   have h1:=fin.wc.le
   have h2:=ncl_le st.2
   rw[fin.wc.len]at h2
   omega
  have hwl:=wc_len fin.wc
  walk_at "rd"
  refine⟨_,s7.seqT r1,_,rfl,sm,rfl,⟨_,s7.seqT r2⟩,?_⟩
  refine compT (xs:=ms.map V.int) (fun i ys σ' H'=>H'=H7/\ys=List.replicate i (V.ref pe)/\∃o,σ'=[o,some (.ref pe)]) ⟨rfl,rfl,none,rfl⟩ (by rw[List.length_map];omega) (fun i ys σ' H' hi h'=>?_) (fun i x ys σ' H' hx h'=>?_) (fun ys σ' H' h' D hD=>?_)
  ·obtain⟨rfl,rfl,_⟩:=h'
   exact⟨s7.seqT r2,by rw[List.length_replicate];exact Nat.le_refl _⟩
  ·obtain⟨rfl,rfl,o,rfl⟩:=h'
   walk_at "rd"
   refine⟨?_,_,rfl⟩
   exact (List.replicate_succ' ..).symm
  ·obtain⟨rfl,rfl,o,rfl⟩:=h'
   rw[List.length_map]
   have sD:=s37.newT hD (o:=.lst (List.replicate ms.length (V.ref pe)))
   have sD7:=Same.new hD (o:=.lst (List.replicate ms.length (V.ref pe)))
   have hDD:upd H' D (.lst (List.replicate ms.length (V.ref pe))) D=some (.lst (List.replicate ms.length (V.ref pe))):=upd_same
   generalize upd H' D (.lst (List.replicate ms.length (V.ref pe)))=H8 at sD sD7 hDD ⊢
   refine⟨ps,D,L,m,ms,vs,fun _=>st.1,rfl,hs3.mono (s7.trans sD7),wfs,hm,hmany,⟨_,hDD,fun r hr=>⟨pe,xs,by rw[List.getElem?_replicate,if_pos hr],sD7 _ _ hpe,hW.mono (TK.of sD7)⟩⟩,fun r hr=>⟨hfw,fun w hw=>?_⟩,fun r hr=>?_,sD _ _ hT,fun D' H9 os sT hDn hD' hos hpm hs=>?_⟩
   ·obtain⟨j,hj⟩:=List.mem_iff_getElem?.mp hw
    have h1:=hwl j w hj
    have h2:j<st.1.length:=(List.getElem?_eq_some_iff.mp hj).1
    omega
   ·have h1:=can.order
    unfold rOf at h1
    rw[h1]
    exact List.mem_map.mpr ⟨r,List.mem_range.mpr hr,rfl⟩
   ·exact k D' H9 os (fun b o hb e=>sT b o hb (sD b o e)) (Same.none sD hDn) hD' hos hpm hs
def cell (ns:List Int)(k:Nat):Int:=ns.getD k 0
def sp_cell (K:PySem.W.Frag):Sp:=fun vs H Q _=>∃(a:Addr) (ns:List Int) (k:Nat),vs=[.ref a,.int k]/\SqL K H a (ns.map V.int)/\Q (.int (cell ns k)) H
theorem ok__law_cell_at {f:Addr}{fd:FuncData}(F:Fun K "_law_cell_at" "_law_cell_at" s__law_cell_at f fd)(T:Txt mg)
  (Z:Exs K mg C_AskError C_BadWord)
  : FnOk P w K mg base CX0 1 f fd ["script","k"] (sp_cell K):=by
 refine F.ok sc__law_cell_at (fun vs H Q E h=>?_) (fun cdv A outer s H vs Q E hr h=>?_)
 ·obtain⟨a,ns,k,rfl,_⟩:=h;rfl
 ·obtain⟨a,ns,k,rfl,hs,q⟩:=h
  refine⟨_,(pss_cons (ps_if (ptT (pt_cmpR (opD0 op_lt) (pvD 1) (pe_callB (lenD call_len_seq) (by rfl) T.len PySem.boot_len (pa_cons (pvD 0) pa_nil)) (nomark _)))
   (pss_one (ps_ret (pe_ixA (ixLD ix_list) (pvD 0) (pvD 1))))
   pss_nil)
   (pss_one (ps_ret pe_int))),?_⟩
  walk_at "rd"
  refine⟨_,.inl hs,?_⟩
  rw[List.length_map]
  refine ite2 (fun hk=>?_) (fun hk=>?_)
  ·have hk':k<ns.length:=by simpa using hk
   refine⟨_,hs,V.int (cell ns k),?_,q⟩
   refine atI_nat ?_
   rw[List.getElem?_map]
   unfold cell
   rw[List.getD_eq_getElem?_getD]
   simp[hk']
  ·have hk':¬ k<ns.length:=by simpa using hk
   have:cell ns k=0:=by
    unfold cell
    rw[List.getD_eq_getElem?_getD,List.getElem?_eq_none (by omega)];rfl
   rw[<-this]
   exact q
def sp_mixed:Sp:=fun vs H Q _=>∃num k m:Int,vs=[.int num,.int k,.int m]/\0<=k/\k<=1000000/\0<m/\∀x,0<=x->x<m->Q (.int x) H
theorem ok__law_mixed {f:Addr}{fd:FuncData}(F:Fun K "_law_mixed" "_law_mixed" s__law_mixed f fd)(T:Txt mg)
  (Z:Exs K mg C_AskError C_BadWord)
  : FnOk P w K mg base CX0 1 f fd ["number","k","many"] (sp_mixed):=by
 refine F.ok sc__law_mixed (fun vs H Q E h=>?_) (fun cdv A outer s H vs Q E hr h=>?_)
 ·obtain⟨num,k,m,rfl,_⟩:=h;rfl
 ·obtain⟨num,k,m,rfl,hk0,hk1,hm,q⟩:=h
  refine⟨_,(pss_cons (ps_setL (i:=3) sc__law_mixed.nd (pe_op (opD op_mod) (pe_op (opD0 op_add) (pe_op (opD0 op_add) (pe_op (opD0 op_add) (pe_op (opD op_mod) (pvD 0) pe_int) (pe_op (opD op_mul) (pe_op (opD op_mul) pe_int (pvD 1)) (pvD 1))) (pe_op (opD op_mul) pe_int (pvD 1))) pe_int) pe_int))
   (pss_cons (ps_setL (i:=3) sc__law_mixed.nd (pe_op (opD op_mod) (pe_op (opD op_mul) (pvD 3) pe_int) pe_int))
   (pss_one (ps_ret (pe_op (opD op_mod) (pe_op (opD op_mod) (pe_op (opD op_mul) (pvD 3) (pvD 3)) pe_int) (pvD 2)))))),?_⟩
  walk_at "rd"
  refine⟨by decide,.inl ⟨by decide,by decide⟩,.inr ⟨by omega,by omega⟩,.inl ⟨by decide,by decide⟩,by decide,.inr ⟨by decide,by decide⟩,by decide,?_⟩
  generalize (num%2147483647+69621*k*k+40692*k+1)%2147483647*48271=z
  have m0:=Int.emod_nonneg z (show (2147483647:Int)≠0 by decide)
  have m1:=Int.emod_lt_of_pos z (show (0:Int)<2147483647 by decide)
  exact⟨.inl ⟨by omega,by omega⟩,by decide,hm,q _ (Int.emod_nonneg _ (by omega)) (Int.emod_lt_of_pos _ hm)⟩
def sp_marksby (K:PySem.W.Frag):Sp:=fun vs H Q _=>∃(num:Int) (n:Nat),vs=[.int num,.int n]/\1<=n/\n<=40/\∀(t:Addr) (marks:List Int) (H':Hp),Same H H'->SqT K H' t (marks.map V.int)->marks.length=n->(∀m∈marks,0<=m/\m<=1000000000)->Q (.ref t) H'
theorem ok__law_marks_by {f:Addr}{fd:FuncData}(F:Fun K "_law_marks_by" "_law_marks_by" s__law_marks_by f fd)(T:Txt mg)
  (Z:Exs K mg C_AskError C_BadWord)
  {f__law_mixed:Addr} {fd__law_mixed:FuncData} (g__law_mixed:FnOk P w K mg base CX0 1 f__law_mixed fd__law_mixed ["number","k","many"] (sp_mixed)) (F__law_mixed:Fun K "_law_mixed" "_law_mixed" s__law_mixed f__law_mixed fd__law_mixed) (b__law_mixed:Binds K fd__law_mixed ["number","k","many"] []) (m__law_mixed:mg "_law_mixed"=some (.ref f__law_mixed))
  : FnOk P w K mg base CX0 2 f fd ["number","rooms"] (sp_marksby K):=by
 refine F.ok sc__law_marks_by (fun vs H Q E h=>?_) (fun cdv A outer s H vs Q E hr h=>?_)
 ·obtain⟨num,n,rfl,_⟩:=h;rfl
 ·obtain⟨num,n,rfl,hn1,hn40,k⟩:=h
  have hl:=line1000
  refine⟨_,(pss_cons (ps_setL (i:=2) sc__law_marks_by.nd (pe_op (opD op_mod) (pe_op (opD0 op_add) (pvD 0) pe_int) pe_int))
   (pss_cons (ps_setL (i:=3) sc__law_marks_by.nd (pe_op (opD op_mod) (pe_op (opD op_fdiv) (pvD 0) pe_int) pe_int))
   (pss_cons (ps_setL (i:=4) sc__law_marks_by.nd (pe_lst pa_nil))
   (pss_cons (ps_for PassesOwn.never rfl (pi_range1 rfl T.range (pa_cons (pvD 1) pa_nil)) (pg_name (i:=5) sc__law_marks_by.nd rfl (Or.inl rfl))
   (pss_cons (ps_setL (i:=6) sc__law_marks_by.nd (pvD 3))
   (pss_cut (ps_if (PW.pt (pw_and (ptT (pt_cmpR (opE op_eq) (pe_op (opD op_mod) (pvD 2) pe_int) pe_int (nomark _))) (pw_and1 (ptT (pt_cmpR (opE op_eq) (pe_call g__law_mixed (hr.mono (by decide)) rfl m__law_mixed F__law_mixed.kp b__law_mixed .nil pass0 (pa_cons (pvD 0) (pa_cons (pvD 5) (pa_cons pe_int pa_nil)))) pe_int (nomark _))))))
   (pss_one (ps_setL (i:=6) sc__law_marks_by.nd (pe_op (opD0 op_sub) pe_int (pvD 3))))
   pss_nil)
   (pss_cut (ps_if (ptT (pt_cmpR (opE op_eq) (pvD 2) pe_int (nomark _)))
   (pss_one (ps_setL (i:=6) sc__law_marks_by.nd (pe_call g__law_mixed (hr.mono (by decide)) rfl m__law_mixed F__law_mixed.kp b__law_mixed .nil pass0 (pa_cons (pvD 0) (pa_cons (pvD 5) (pa_cons pe_int pa_nil))))))
   pss_nil)
   (pss_cut (ps_if (PW.pt (pw_or (PW.pt (pw_and (ptT (pt_cmpR (opE op_eq) (pvD 2) pe_int (nomark _))) (pw_and1 (ptT (pt_cmpR (opE op_eq) (pvD 5) (pe_op (opD op_mod) (pe_op (opD op_fdiv) (pvD 0) pe_int) (pvD 1)) (nomark _)))))) (pw_or1 (PW.pt (pw_and (ptT (pt_cmpR (opE op_eq) (pvD 2) pe_int (nomark _))) (pw_and1 (ptT (pt_cmpR (opE op_eq) (pvD 5) (pe_op (opD0 op_sub) (pvD 1) pe_int) (nomark _)))))))))
   (pss_one (ps_setL (i:=6) sc__law_marks_by.nd (pe_op (opD op_mod) (pe_op (opD0 op_add) (pvD 3) pe_int) pe_int)))
   pss_nil)
   (pss_cut (ps_if (PW.pt (pw_or (ptT (pt_cmpR (opE op_eq) (pvD 2) pe_int (nomark _))) (pw_or1 (ptT (pt_cmpR (opE op_eq) (pvD 2) pe_int (nomark _))))))
   (pss_one (ps_setL (i:=6) sc__law_marks_by.nd (pe_call g__law_mixed (hr.mono (by decide)) rfl m__law_mixed F__law_mixed.kp b__law_mixed .nil pass0 (pa_cons (pvD 0) (pa_cons (pvD 5) (pa_cons pe_int pa_nil))))))
   pss_nil)
   (pss_one (ps_expr (pe_bm PySem.F.plainAttrs_list PySem.F.slot_list_append PySem.F.type_list_append mt_append (pvD 4) (pa_cons (pvD 6) pa_nil))))))))))
   (pss_one (ps_ret (pe_callTy call_tuple_L rfl T.tuple PyProof.Rows.boot_tuple (pa_cons (pvD 4) pa_nil)))))))),?_⟩
  walk_at "rd"
  refine⟨by decide,⟨by decide,by decide⟩,by decide,by omega,fun p hp=>⟨by omega,by omega,?_⟩⟩
  rw[Int.toNat_natCast]
  have ht0:=Int.emod_nonneg (num / 8) (show (1000000001:Int)≠0 by decide)
  have ht1:=Int.emod_lt_of_pos (num / 8) (show (0:Int)<1000000001 by decide)
  generalize (num+1)%8=way
  generalize num / 8%1000000001=top at ht0 ht1 ⊢
  obtain⟨Pv,hPv⟩:∃Pv:Nat->St->Hp->Prop,∀i σ2 H2,Pv i σ2 H2↔(∃(marks:List Int) (o1 o2:Option V),Same H H2/\H2 p=some (.lst (marks.map V.int))/\marks.length=i/\(∀m∈marks,0<=m/\m<=1000000000)/\σ2=[some (.int num),some (.int n),some (.int way),some (.int top),some (.ref p),o1,o2]):=⟨_,fun _ _ _=>Iff.rfl⟩
  refine forR Pv ((hPv _ _ _).mpr ⟨[],none,none,Same.new hp,by rw[upd_same];rfl,rfl,(fun m hm=>by cases hm),rfl⟩) (fun i σ2 H2 hi h2=>?_) (fun σ2 H2 h2=>?_)
  ·obtain⟨marks,o1,o2,s2,hp2,hlen,hr',rfl⟩:=(hPv _ _ _).mp h2
   generalize hroom:(0:Int)+(i:Nat)=room
   have hroom0:0<=room:=by omega
   have hroom1:room<=40:=by omega
   obtain⟨R,hR⟩:∃R:St->Hp->Prop,∀σ3 H3,R σ3 H3↔(H3=H2/\∃mark:Int,0<=mark/\mark<=1000000000/\σ3=[some (.int num),some (.int n),some (.int way),some (.int top),some (.ref p),some (.int room),some (.int mark)]):=⟨_,fun _ _=>Iff.rfl⟩
   walk_at "rd"
   refine⟨R,?_,fun σ3 H3 h3=>⟨R,?_,fun σ4 H4 h4=>⟨R,?_,fun σ5 H5 h5=>⟨R,?_,fun σ6 H6 h6=>?_⟩⟩⟩⟩
   ·walk_at "rd"
    refine⟨by decide,iteB ((hR _ _).mpr ⟨rfl,top,ht0,by omega,rfl⟩) (fun _ hB=>⟨num,room,2,rfl,hroom0,by omega,by decide,fun x _ _=>?_⟩)⟩
    walk_at "rd"
    exact ite2 (fun _=>(hR _ _).mpr ⟨rfl,_,by omega,by omega,rfl⟩) (fun _=>hB)
   ·obtain⟨rfl,mark,hm0,hm1,rfl⟩:=(hR _ _).mp h3
    walk_at "rd"
    refine ite2 (fun _=>⟨num,room,1000000001,rfl,hroom0,by omega,by decide,fun x hx0 hx1=>?_⟩) (fun _=>h3)
    walk_at "rd"
    exact (hR _ _).mpr ⟨rfl,x,hx0,by omega,rfl⟩
   ·obtain⟨rfl,mark,hm0,hm1,rfl⟩:=(hR _ _).mp h4
    walk_at "rd"
    have hA:R [some (.int num),some (.int n),some (.int way),some (.int top),some (.ref p),some (.int room),some (.int ((top+1)%1000000001))] H4:=(hR _ _).mpr ⟨rfl,_,Int.emod_nonneg _ (by decide),by have:=Int.emod_lt_of_pos (top+1) (show (0:Int)<1000000001 by decide);omega,rfl⟩
    have hE:if way=5 then (if room=(n:Int)-1 then (0:Int)<1000000001/\R [some (.int num),some (.int n),some (.int way),some (.int top),some (.ref p),some (.int room),some (.int ((top+1)%1000000001))] H4 else R [some (.int num),some (.int n),some (.int way),some (.int top),some (.ref p),some (.int room),some (.int mark)] H4) else R [some (.int num),some (.int n),some (.int way),some (.int top),some (.ref p),some (.int room),some (.int mark)] H4:=
     ite2 (fun _=>ite2 (fun _=>⟨by decide,hA⟩) (fun _=>h4)) (fun _=>h4)
    exact ite2 (fun _=>⟨⟨by decide,by decide⟩,by omega,ite2 (fun _=>⟨by decide,hA⟩) (fun _=>hE)⟩) (fun _=>hE)
   ·obtain⟨rfl,mark,hm0,hm1,rfl⟩:=(hR _ _).mp h5
    walk_at "rd"
    exact ite2 (fun _=>⟨num,room,3,rfl,hroom0,by omega,by decide,fun x hx0 hx1=>(hR _ _).mpr ⟨rfl,x,hx0,by omega,rfl⟩⟩) (fun _=>ite2 (fun _=>⟨num,room,3,rfl,hroom0,by omega,by decide,fun x hx0 hx1=>(hR _ _).mpr ⟨rfl,x,hx0,by omega,rfl⟩⟩) (fun _=>h5))
   ·obtain⟨rfl,mark,hm0,hm1,rfl⟩:=(hR _ _).mp h6
    walk_at "rd"
    refine⟨.inl ⟨rfl,_,SqL.of hp2⟩,_,hp2,by rw[List.length_map];omega,(hPv _ _ _).mpr ⟨marks++[mark],_,_,s2.over hp,by rw[upd_same];simp,by simp[hlen],fun m hm=>?_,rfl⟩⟩
    rcases List.mem_append.mp hm with hm|hm
    ·exact hr' m hm
    ·rw[List.mem_singleton.mp hm];exact⟨hm0,hm1⟩
  ·obtain⟨marks,o1,o2,s2,hp2,hlen,hr',rfl⟩:=(hPv _ _ _).mp h2
   walk_at "rd"
   refine⟨_,.inl ⟨SqL.of hp2,fun t ht=>?_⟩⟩
   exact k t marks _ (s2.newT ht) (SqT.of upd_same) hlen hr'
def sp_waysby (K:PySem.W.Frag):Sp:=fun vs H Q _=>∃(a:Addr) (ns:List Int) (L:Int) (n:Nat),vs=[.ref a,.int L,.int n]/\SqL K H a (ns.map V.int)/\1<=L/\L<=6/\1<=n/\n<=40/\∀(t:Addr) (ways:List (List Int)) (H':Hp),Same H H'->Rows K H' t ways->ways.length=n->(∀row∈ways,(row.length:Int)=L/\∀x∈row,0<=x/\x<(n:Int))->Q (.ref t) H'
theorem ok__law_ways_by {f:Addr}{fd:FuncData}(F:Fun K "_law_ways_by" "_law_ways_by" s__law_ways_by f fd)(T:Txt mg)
  (Z:Exs K mg C_AskError C_BadWord)
  {f__law_cell_at:Addr} {fd__law_cell_at:FuncData} (g__law_cell_at:FnOk P w K mg base CX0 1 f__law_cell_at fd__law_cell_at ["script","k"] (sp_cell K)) (F__law_cell_at:Fun K "_law_cell_at" "_law_cell_at" s__law_cell_at f__law_cell_at fd__law_cell_at) (b__law_cell_at:Binds K fd__law_cell_at ["script","k"] []) (m__law_cell_at:mg "_law_cell_at"=some (.ref f__law_cell_at))
  {f__law_mixed:Addr} {fd__law_mixed:FuncData} (g__law_mixed:FnOk P w K mg base CX0 1 f__law_mixed fd__law_mixed ["number","k","many"] (sp_mixed)) (F__law_mixed:Fun K "_law_mixed" "_law_mixed" s__law_mixed f__law_mixed fd__law_mixed) (b__law_mixed:Binds K fd__law_mixed ["number","k","many"] []) (m__law_mixed:mg "_law_mixed"=some (.ref f__law_mixed))
  : FnOk P w K mg base CX0 2 f fd ["script","letters","rooms"] (sp_waysby K):=by
 refine F.ok sc__law_ways_by (fun vs H Q E h=>?_) (fun cdv A outer s H vs Q E hr h=>?_)
 ·obtain⟨a,ns,L,n,rfl,_⟩:=h;rfl
 ·obtain⟨a,ns,L,n,rfl,hs,hL1,hL6,hn1,hn40,k⟩:=h
  have hl:=line1000
  refine⟨_,(pss_cons (ps_setL (i:=3) sc__law_ways_by.nd (pe_call g__law_cell_at (hr.mono (by decide)) rfl m__law_cell_at F__law_cell_at.kp b__law_cell_at .nil pass0 (pa_cons (pvD 0) (pa_cons pe_int pa_nil))))
   (pss_cons (ps_setL (i:=4) sc__law_ways_by.nd (pe_lst pa_nil))
   (pss_cons (ps_for PassesOwn.never rfl (pi_range1 rfl T.range (pa_cons (pvD 2) pa_nil)) (pg_name (i:=5) sc__law_ways_by.nd rfl (Or.inl rfl))
   (pss_cons (ps_setL (i:=6) sc__law_ways_by.nd (pe_lst pa_nil))
   (pss_cons (ps_for PassesOwn.never rfl (pi_range1 rfl T.range (pa_cons (pvD 1) pa_nil)) (pg_name (i:=7) sc__law_ways_by.nd rfl (Or.inl rfl))
   (pss_cons (ps_setL (i:=8) sc__law_ways_by.nd (pe_op (opD0 op_add) (pe_op (opD0 op_add) pe_int (pe_op (opD op_mul) (pvD 5) (pvD 1))) (pvD 7)))
   (pss_cons (ps_setL (i:=9) sc__law_ways_by.nd (pe_call g__law_mixed (hr.mono (by decide)) rfl m__law_mixed F__law_mixed.kp b__law_mixed .nil pass0 (pa_cons (pvD 3) (pa_cons (pvD 8) (pa_cons (pvD 2) pa_nil)))))
   (pss_cut (ps_if (ptT (pt_cmpR (opD0 op_lt) (pvD 8) (pe_callB (lenD call_len_seq) (by rfl) T.len PySem.boot_len (pa_cons (pvD 0) pa_nil)) (nomark _)))
   (pss_one (ps_setL (i:=9) sc__law_ways_by.nd (pe_op (opD op_mod) (pe_ixA (ixLD ix_list) (pvD 0) (pvD 8)) (pvD 2))))
   pss_nil)
   (pss_cut (ps_if (PW.pt (pw_and (ptT (pt_cmpR (opE op_eq) (pe_op (opD op_mod) (pvD 3) pe_int) pe_int (nomark _))) (pw_and1 (ptT (pt_cmpR (opE op_eq) (pvD 7) (pe_op (opD op_mod) (pe_op (opD op_fdiv) (pvD 3) pe_int) (pvD 1)) (nomark _))))))
   (pss_one (ps_setL (i:=9) sc__law_ways_by.nd (pe_op (opD op_mod) (pe_op (opD0 op_add) (pvD 5) pe_int) (pvD 2))))
   pss_nil)
   (pss_cut (ps_if (ptT (pt_cmpR (opE op_eq) (pe_op (opD op_mod) (pvD 3) pe_int) pe_int (nomark _)))
   (pss_one (ps_setL (i:=9) sc__law_ways_by.nd (pvD 5)))
   pss_nil)
   (pss_cut (ps_if (PW.pt (pw_and (ptT (pt_cmpR (opE op_eq) (pe_op (opD op_mod) (pvD 3) pe_int) pe_int (nomark _))) (pw_and1 (ptT (pt_cmpR (opE op_eq) (pvD 7) (pe_op (opD op_mod) (pe_op (opD op_fdiv) (pvD 3) pe_int) (pvD 1)) (nomark _))))))
   (pss_one (ps_setL (i:=9) sc__law_ways_by.nd (pe_callB (call_min2 rfl) rfl T.min PyProof.Rows.boot_min (pa_cons (pe_op (opD0 op_add) (pvD 5) pe_int) (pa_cons (pe_op (opD0 op_sub) (pvD 2) pe_int) pa_nil)))))
   pss_nil)
   (pss_one (ps_expr (pe_bm PySem.F.plainAttrs_list PySem.F.slot_list_append PySem.F.type_list_append mt_append (pvD 6) (pa_cons (pvD 9) pa_nil)))))))))))
   (pss_one (ps_expr (pe_bm PySem.F.plainAttrs_list PySem.F.slot_list_append PySem.F.type_list_append mt_append (pvD 4) (pa_cons (pe_callTy call_tuple_L rfl T.tuple PyProof.Rows.boot_tuple (pa_cons (pvD 6) pa_nil)) pa_nil)))))))
   (pss_one (ps_ret (pe_callTy call_tuple_L rfl T.tuple PyProof.Rows.boot_tuple (pa_cons (pvD 4) pa_nil))))))),?_⟩
  walk_at "rd"
  refine⟨a,ns,3,rfl,hs,?_⟩
  walk_at "rd"
  generalize cell ns 3=shape
  refine⟨by omega,fun pw hpw=>⟨by omega,by omega,?_⟩⟩
  rw[Int.toNat_natCast]
  obtain⟨Pv,hPv⟩:∃Pv:Nat->St->Hp->Prop,∀i σ2 H2,Pv i σ2 H2↔(∃(ways:List (List Int)) (o1 o2 o3 o4 o5:Option V),Same H H2/\TupsL K H2 pw ways/\ways.length=i/\(∀row∈ways,(row.length:Int)=L/\∀x∈row,0<=x/\x<(n:Int))/\σ2=[some (.ref a),some (.int L),some (.int n),some (.int shape),some (.ref pw),o1,o2,o3,o4,o5]):=⟨_,fun _ _ _=>Iff.rfl⟩
  refine forR Pv ((hPv _ _ _).mpr ⟨[],none,none,none,none,none,Same.new hpw,TupsL.nil upd_same,rfl,(fun m hm=>by cases hm),rfl⟩) (fun i σ2 H2 hi h2=>?_) (fun σ2 H2 h2=>?_)
  ·obtain⟨ways,o1,o2,o3,o4,o5,s2,hw2,hlen,hr',rfl⟩:=(hPv _ _ _).mp h2
   generalize hroom:(0:Int)+(i:Nat)=room
   have hroom0:0<=room:=by omega
   have hroom1:room<n:=by omega
   walk_at "rd"
   refine⟨by omega,fun pr hpr=>⟨by omega,by omega,?_⟩⟩
   have hprn:H pr=none:=s2.free hpr
   have sA:=s2.newT hpr (o:=.lst [])
   have hwA:=hw2.mono (Same.new hpr (o:=.lst []))
   have hrA:upd H2 pr (.lst []) pr=some (.lst (([]:List Int).map V.int)):=upd_same
   have hne:pw≠pr:=by
    obtain⟨ts,e,_⟩:=hw2
    exact ne_of_none e hpr
   generalize upd H2 pr (.lst [])=HA at sA hwA hrA ⊢
   obtain⟨Pr,hPr⟩:∃Pv:Nat->St->Hp->Prop,∀j σ3 H3,Pv j σ3 H3↔(∃(row:List Int) (o3 o4 o5:Option V),Same H H3/\TupsL K H3 pw ways/\H3 pr=some (.lst (row.map V.int))/\row.length=j/\(∀x∈row,0<=x/\x<(n:Int))/\σ3=[some (.ref a),some (.int L),some (.int n),some (.int shape),some (.ref pw),some (.int room),some (.ref pr),o3,o4,o5]):=⟨_,fun _ _ _=>Iff.rfl⟩
   refine forR Pr ((hPr _ _ _).mpr ⟨[],o3,o4,o5,sA,hwA,hrA,rfl,(fun m hm=>by cases hm),rfl⟩) (fun j σ3 H3 hj h3=>?_) (fun σ3 H3 h3=>?_)
   ·obtain⟨row,o3,o4,o5,s3,hw3,hr3,hrl,hrr,rfl⟩:=(hPr _ _ _).mp h3
    generalize hlet:(0:Int)+(j:Nat)=letter
    walk_at "rd"
    have hk0:0<=room*L:=Int.mul_nonneg hroom0 (by omega)
    have hk1:room*L<=40*6:=Int.mul_le_mul (by omega) (by omega) (by omega) (by omega)
    refine⟨.inl ⟨by omega,by omega⟩,?_⟩
    generalize hkk:6+room*L+letter=kk
    refine⟨shape,kk,n,rfl,by omega,by omega,by omega,fun g0 hg00 hg01=>?_⟩
    obtain⟨R,hR⟩:∃R:St->Hp->Prop,∀σ4 H4,R σ4 H4↔(H4=H3/\∃g:Int,0<=g/\g<(n:Int)/\σ4=[some (.ref a),some (.int L),some (.int n),some (.int shape),some (.ref pw),some (.int room),some (.ref pr),some (.int letter),some (.int kk),some (.int g)]):=⟨_,fun _ _=>Iff.rfl⟩
    refine⟨R,?_,fun σ4 H4 h4=>⟨R,?_,fun σ5 H5 h5=>⟨R,?_,fun σ6 H6 h6=>⟨R,?_,fun σ7 H7 h7=>?_⟩⟩⟩⟩
    ·walk_at "rd"
     refine⟨_,.inl (s3.seq hs),?_⟩
     rw[List.length_map]
     refine ite2 (fun hlt=>?_) (fun _=>(hR _ _).mpr ⟨rfl,g0,hg00,hg01,rfl⟩)
     have hk':kk.toNat<ns.length:=by omega
     refine⟨_,s3.seq hs,_,atI_int (by omega) (v:=ns[kk.toNat]) (by simp[hk']),?_⟩
     walk_at "rd"
     exact⟨by omega,(hR _ _).mpr ⟨rfl,_,Int.emod_nonneg _ (by omega),Int.emod_lt_of_pos _ (by omega),rfl⟩⟩
    ·obtain⟨rfl,g,hg0,hg1,rfl⟩:=(hR _ _).mp h4
     walk_at "rd"
     exact⟨by decide,ite2 (fun _=>⟨⟨by decide,by decide⟩,by omega,ite2 (fun _=>⟨by omega,(hR _ _).mpr ⟨rfl,_,Int.emod_nonneg _ (by omega),Int.emod_lt_of_pos _ (by omega),rfl⟩⟩) (fun _=>h4)⟩) (fun _=>h4)⟩
    ·obtain⟨rfl,g,hg0,hg1,rfl⟩:=(hR _ _).mp h5
     walk_at "rd"
     exact⟨by decide,ite2 (fun _=>(hR _ _).mpr ⟨rfl,room,hroom0,hroom1,rfl⟩) (fun _=>h5)⟩
    ·obtain⟨rfl,g,hg0,hg1,rfl⟩:=(hR _ _).mp h6
     walk_at "rd"
     exact⟨by decide,ite2 (fun _=>⟨⟨by decide,by decide⟩,by omega,ite2 (fun _=>(hR _ _).mpr ⟨rfl,_,by split<;>omega,by split<;>omega,rfl⟩) (fun _=>h6)⟩) (fun _=>h6)⟩
    ·obtain⟨rfl,g,hg0,hg1,rfl⟩:=(hR _ _).mp h7
     walk_at "rd"
     refine⟨.inl ⟨rfl,_,SqL.of hr3⟩,_,hr3,by rw[List.length_map];omega,(hPr _ _ _).mpr ⟨row++[g],_,_,_,s3.over hprn,hw3.off hr3 hne,by rw[upd_same];simp,by simp[hrl],fun x hx=>?_,rfl⟩⟩
     rcases List.mem_append.mp hx with hx|hx
     ·exact hrr x hx
     ·rw[List.mem_singleton.mp hx];exact⟨hg0,hg1⟩
   ·obtain⟨row,o3,o4,o5,s3,hw3,hr3,hrl,hrr,rfl⟩:=(hPr _ _ _).mp h3
    walk_at "rd"
    obtain⟨ts,e0,_⟩:=id hw3
    refine⟨.inl ⟨rfl,_,SqL.of e0⟩,_,.inl ⟨SqL.of hr3,fun t ht=>?_⟩⟩
    obtain⟨xs,e1,e2,hw4⟩:=(hw3.mono (Same.new ht (o:=.tup (row.map V.int)))).push (w:=row) (SqT.of upd_same)
    refine⟨xs,e1,by omega,(hPv _ _ _).mpr ⟨ways++[row],_,_,_,_,_,(s3.newT ht).over hpw,hw4,by simp[hlen],fun r hr=>?_,rfl⟩⟩
    rcases List.mem_append.mp hr with hr|hr
    ·exact hr' r hr
    ·rw[List.mem_singleton.mp hr];exact⟨by omega,hrr⟩
  ·obtain⟨ways,o1,o2,o3,o4,o5,s2,hw2,hlen,hr',rfl⟩:=(hPv _ _ _).mp h2
   walk_at "rd"
   obtain⟨xs,e1,hrows⟩:=hw2.rows
   refine⟨_,.inl ⟨SqL.of e1,fun t ht=>?_⟩⟩
   exact k t ways _ (s2.newT ht) (hrows t ht) hlen hr'
def sp_blown (K:PySem.W.Frag):Sp:=fun vs H Q _=>∃(h:Addr) (L:Int) (marks:List Int) (ways:List (List Int)) (num:Int) (n:Nat),vs=[.ref h,.int num,.int n]/\House K H h L marks ways/\Wf L marks ways/\n<=40/\∀h' marks' ways' H',Same H H'->House K H' h' L marks' ways'->Wf L marks' ways'->Q (.ref h') H'
theorem ok__law_blown {f:Addr}{fd:FuncData}(F:Fun K "_law_blown" "_law_blown" s__law_blown f fd)(T:Txt mg)
  (Z:Exs K mg C_AskError C_BadWord)
  {f__law_mixed:Addr} {fd__law_mixed:FuncData} (g__law_mixed:FnOk P w K mg base CX0 1 f__law_mixed fd__law_mixed ["number","k","many"] (sp_mixed)) (F__law_mixed:Fun K "_law_mixed" "_law_mixed" s__law_mixed f__law_mixed fd__law_mixed) (b__law_mixed:Binds K fd__law_mixed ["number","k","many"] []) (m__law_mixed:mg "_law_mixed"=some (.ref f__law_mixed))
  : FnOk P w K mg base CX0 2 f fd ["house","number","rooms"] (sp_blown K):=by
 refine F.ok sc__law_blown (fun vs H Q E h=>?_) (fun cdv A outer s H vs Q E hr h=>?_)
 ·obtain⟨h,L,marks,ways,num,n,rfl,_⟩:=h;rfl
 ·obtain⟨h,L,marks,ways,num,n,rfl,hh,wf,hn40,k⟩:=h
  have hl:=line1000
  have hL1:=wf.l1
  have hL6:=wf.l6
  have hs1:=wf.n1
  have hs40:=wf.n40
  refine⟨_,(pss_cons (ps_setL (i:=3) sc__law_blown.nd (pe_callB (lenD call_len_seq) (by rfl) T.len PySem.boot_len (pa_cons (pe_ixA (ixTD ix_tup) (pvD 0) pe_int) pa_nil)))
   (pss_cons (ps_set (i:=4) sc__law_blown.nd rfl (Or.inr rfl) (pe_listRng rfl rfl T.list rfl T.range (pvD 3)))
   (pss_cons (ps_while PassesOwn.never (ptT (pt_cmpR (opD0 op_lt) (pe_callB (lenD call_len_seq) (by rfl) T.len PySem.boot_len (pa_cons (pvD 4) pa_nil)) (pvD 2) (nomark _)))
   (pss_one (ps_expr (pe_bm PySem.F.plainAttrs_list PySem.F.slot_list_append PySem.F.type_list_append mt_append (pvD 4) (pa_cons (pe_call g__law_mixed (hr.mono (by decide)) rfl m__law_mixed F__law_mixed.kp b__law_mixed .nil pass0 (pa_cons (pvD 1) (pa_cons (pe_callB (lenD call_len_seq) (by rfl) T.len PySem.boot_len (pa_cons (pvD 4) pa_nil)) (pa_cons (pvD 3) pa_nil)))) pa_nil)))))
   (pss_cons (ps_setL (i:=5) sc__law_blown.nd (pe_lst pa_nil))
   (pss_cons (ps_for PassesOwn.never rfl (pi_range1 rfl T.range (pa_cons (pe_callB (lenD call_len_seq) (by rfl) T.len PySem.boot_len (pa_cons (pvD 4) pa_nil)) pa_nil)) (pg_name (i:=6) sc__law_blown.nd rfl (Or.inl rfl))
   (pss_cons (ps_setL (i:=7) sc__law_blown.nd (pe_lst pa_nil))
   (pss_cons (ps_for PassesOwn.never rfl (pi_range1 rfl T.range (pa_cons (pe_ixA (ixTD ix_tup) (pvD 0) pe_int) pa_nil)) (pg_name (i:=8) sc__law_blown.nd rfl (Or.inl rfl))
   (pss_cons (ps_set (i:=9) sc__law_blown.nd rfl (Or.inr rfl) (pe_ixA (ixTD ix_tup) (pe_ixA (ixTD ix_tup) (pe_ixA (ixTD ix_tup) (pvD 0) pe_int) (pe_ixA (ixLD ix_list) (pvD 4) (pvD 6))) (pvD 8)))
   (pss_cons (ps_setC (i:=10) sc__law_blown.nd rfl rfl rfl (blk_mk rfl) (cp:=c__law_blown_0) ⟨⟨rfl,rfl⟩,⟨⟨rfl,rfl⟩,True.intro⟩⟩ (pi_range1 rfl T.range (pa_cons (pe_callB (lenD call_len_seq) (by rfl) T.len PySem.boot_len (pa_cons (pvD 4) pa_nil)) pa_nil)) (fun _ _ _ _=>(pg_name (i:=0) nd_c__law_blown_0 rfl (Or.inl rfl))) (fun _ _ _ _=>(pf_one (ptT (pt_cmpR (opE op_eq) (pe_ixA (ixLD (ix_listK (K:=K) rfl)) (pvD 2) (pvD 0)) (pvD 1) (nomark _))))) (fun _ _ _ _=>(pvD 0)))
   (pss_one (ps_expr (pe_bm PySem.F.plainAttrs_list PySem.F.slot_list_append PySem.F.type_list_append mt_append (pvD 7) (pa_cons (pe_ixA (ixLD ix_list) (pvD 10) (pe_call g__law_mixed (hr.mono (by decide)) rfl m__law_mixed F__law_mixed.kp b__law_mixed .nil pass0 (pa_cons (pe_op (opD0 op_add) (pvD 1) pe_int) (pa_cons (pe_op (opD0 op_add) (pe_op (opD op_mul) (pvD 6) (pe_ixA (ixTD ix_tup) (pvD 0) pe_int)) (pvD 8)) (pa_cons (pe_callB (lenD call_len_seq) (by rfl) T.len PySem.boot_len (pa_cons (pvD 10) pa_nil)) pa_nil))))) pa_nil)))))))
   (pss_one (ps_expr (pe_bm PySem.F.plainAttrs_list PySem.F.slot_list_append PySem.F.type_list_append mt_append (pvD 5) (pa_cons (pe_callTy call_tuple_L rfl T.tuple PyProof.Rows.boot_tuple (pa_cons (pvD 7) pa_nil)) pa_nil)))))))
   (pss_one (ps_ret (pe_tup (pa_cons (pe_ixA (ixTD ix_tup) (pvD 0) pe_int) (pa_cons (pe_callTy call_tuple_L rfl T.tuple PyProof.Rows.boot_tuple (pa_cons (pe_comp rfl (blk_mk rfl) (cp:=c__law_blown_4) ⟨⟨rfl,rfl⟩,True.intro⟩ (pi_list (pvD 4)) (fun _ _ _ _=>(pg_name (i:=0) nd_c__law_blown_4 rfl (Or.inl rfl))) (fun _ _ _ _=>pf_nil) (fun _ _ _ _=>(pe_ixA (ixTD (ix_tupK (K:=K) rfl)) (pe_ixA (ixTD (ix_tupK (K:=K) rfl)) (pvD 1) pe_int) (pvD 0)))) pa_nil)) (pa_cons (pe_callTy call_tuple_L rfl T.tuple PyProof.Rows.boot_tuple (pa_cons (pvD 5) pa_nil)) pa_nil))))))))))),?_⟩
  walk_at "rd"
  obtain⟨tm,tw,q1,q2,q3⟩:=id hh
  refine⟨_,q1,_,rfl,?_⟩
  walk_at "rd"
  refine⟨_,.inr q2,?_⟩
  rw[List.length_map]
  refine⟨by omega,by omega,fun pf hpf=>?_⟩
  rw[Int.toNat_natCast]
  obtain⟨Pw,hPw⟩:∃Pv:Nat->St->Hp->Prop,∀m σ2 H2,Pv m σ2 H2↔(∃fold:List Int,m=41-fold.length/\Same H H2/\H2 pf=some (.lst (fold.map V.int))/\marks.length<=fold.length/\fold.length<=40/\(∀x∈fold,0<=x/\x<(marks.length:Int))/\(∀g:Nat,g<marks.length->fold[g]?=some (g:Int))/\σ2=[some (.ref h),some (.int num),some (.int n),some (.int marks.length),some (.ref pf),none,none,none,none,none,none]):=⟨_,fun _ _ _=>Iff.rfl⟩
  refine whileW Pw ⟨_,(hPw _ _ _).mpr ⟨ups marks.length,rfl,Same.new hpf,by rw[upd_same],by simp[ups],by simp[ups];omega,fun x hx=>?_,fun g hg=>?_,rfl⟩⟩ ?_
  ·obtain⟨i,hi,rfl⟩:=List.mem_map.mp hx
   have:=List.mem_range.mp hi
   omega
  ·unfold ups
   rw[List.getElem?_map,List.getElem?_range hg];rfl
  intro m σ2 H2 hpw
  obtain⟨fold,rfl,s2,hf2,hfl,hf40,hfr,hfg,rfl⟩:=(hPw _ _ _).mp hpw
  walk_at "rd"
  refine⟨_,.inl (SqL.of hf2),?_⟩
  rw[List.length_map]
  refine ite2 (fun hlt=>?_) (fun _=>?_)
  ·refine⟨Pw (41-(fold.length+1)),fun σ' H' h=>⟨_,by omega,h⟩,?_⟩
   refine⟨.inl ⟨rfl,_,SqL.of hf2⟩,_,.inl (SqL.of hf2),?_⟩
   rw[List.length_map]
   refine⟨num,_,marks.length,rfl,by omega,by omega,by omega,fun x hx0 hx1=>?_⟩
   walk_at "rd"
   refine⟨_,hf2,by rw[List.length_map];omega,(hPw _ _ _).mpr ⟨fold++[x],by simp,s2.over hpf,by rw[upd_same];simp,by simp;omega,by simp;omega,fun y hy=>?_,fun g hg=>?_,rfl⟩⟩
   ·rcases List.mem_append.mp hy with hy|hy
    ·exact hfr y hy
    ·rw[List.mem_singleton.mp hy];exact⟨hx0,hx1⟩
   ·rw[List.getElem?_append_left (by omega)];exact hfg g hg
  ·clear hpw hPw Pw
   refine⟨by omega,fun pw hpw=>⟨_,.inl (SqL.of (Same.new hpw _ _ hf2)),?_⟩⟩
   rw[List.length_map]
   refine⟨by omega,by omega,?_⟩
   rw[Int.toNat_natCast]
   have hpwn:H pw=none:=s2.free hpw
   have hnefw:pf≠pw:=ne_of_none hf2 hpw
   have sB:=s2.newT hpw (o:=.lst [])
   have hfB:=Same.new hpw (o:=.lst []) _ _ hf2
   have hwB:upd H2 pw (.lst []) pw=some (.lst []):=upd_same
   generalize upd H2 pw (.lst [])=HB at sB hfB hwB ⊢
   obtain⟨Pv,hPv⟩:∃Pv:Nat->St->Hp->Prop,∀i σ3 H3,Pv i σ3 H3↔(∃(ws:List (List Int)) (o6 o7 o8 o9 o10:Option V),Same H H3/\H3 pf=some (.lst (fold.map V.int))/\TupsL K H3 pw ws/\ws.length=i/\(∀row∈ws,(row.length:Int)=L/\∀x∈row,0<=x/\x<(fold.length:Int))/\σ3=[some (.ref h),some (.int num),some (.int n),some (.int marks.length),some (.ref pf),some (.ref pw),o6,o7,o8,o9,o10]):=⟨_,fun _ _ _=>Iff.rfl⟩
   refine forR Pv ((hPv _ _ _).mpr ⟨[],none,none,none,none,none,sB,hfB,TupsL.nil hwB,rfl,(fun r hr=>by cases hr),rfl⟩) (fun i σ3 H3 hi h3=>?_) (fun σ3 H3 h3=>?_)
   ·obtain⟨ws,o6,o7,o8,o9,o10,s3,hf3,hw3,hwl,hwr,rfl⟩:=(hPv _ _ _).mp h3
    generalize hroom:(0:Int)+(i:Nat)=room
    have hroom0:0<=room:=by omega
    have hroom1:room<fold.length:=by omega
    walk_at "rd"
    refine⟨by omega,fun pr hpr=>⟨_,(s3.newT hpr).seqT q1,_,rfl,?_⟩⟩
    walk_at "rd"
    refine⟨by omega,by omega,?_⟩
    have hprn:H pr=none:=s3.free hpr
    have hnew:pw≠pr:=by
     obtain⟨ts,e,_⟩:=id hw3
     exact ne_of_none e hpr
    have hnef:pf≠pr:=ne_of_none hf3 hpr
    have sC:=s3.newT hpr (o:=.lst [])
    have hfC:=Same.new hpr (o:=.lst []) _ _ hf3
    have hwC:=hw3.mono (Same.new hpr (o:=.lst []))
    have hrC:upd H3 pr (.lst []) pr=some (.lst (([]:List Int).map V.int)):=upd_same
    generalize upd H3 pr (.lst [])=HC at sC hfC hwC hrC ⊢
    obtain⟨Pr,hPr⟩:∃Pv:Nat->St->Hp->Prop,∀j σ4 H4,Pv j σ4 H4↔(∃(row:List Int) (o8 o9 o10:Option V),Same H H4/\H4 pf=some (.lst (fold.map V.int))/\TupsL K H4 pw ws/\H4 pr=some (.lst (row.map V.int))/\row.length=j/\(∀x∈row,0<=x/\x<(fold.length:Int))/\σ4=[some (.ref h),some (.int num),some (.int n),some (.int marks.length),some (.ref pf),some (.ref pw),some (.int room),some (.ref pr),o8,o9,o10]):=⟨_,fun _ _ _=>Iff.rfl⟩
    refine forR Pr ((hPr _ _ _).mpr ⟨[],_,_,_,sC,hfC,hwC,hrC,rfl,(fun r hr=>by cases hr),rfl⟩) (fun j σ4 H4 hj h4=>?_) (fun σ4 H4 h4=>?_)
    ·obtain⟨row,o8,o9,o10,s4,hf4,hw4,hr4,hrl,hrr,rfl⟩:=(hPr _ _ _).mp h4
     generalize hlet:(0:Int)+(j:Nat)=letter
     obtain⟨fr,hfr1⟩:∃fr,fold[room.toNat]?=some fr:=⟨fold[room.toNat]'(by omega),by simp[show room.toNat<fold.length by omega]⟩
     have hfr2:=hfr fr (List.mem_of_getElem? hfr1)
     obtain⟨row0,g,r1,r2,r3,r4,r5⟩:=wf.step (x:=letter) hfr2.1 hfr2.2 (by omega) (by omega)
     obtain⟨xs,t,z1,z2,z3⟩:=q3.atZ hfr2.1 r1
     walk_at "rd"
     refine⟨_,s4.seqT q1,_,rfl,?_⟩
     walk_at "rd"
     refine⟨_,SqL.of hf4,_,atI_int hroom0 hfr1,?_⟩
     walk_at "rd"
     refine⟨_,s4.seqT z1,_,z2,?_⟩
     walk_at "rd"
     refine⟨_,s4.seqT z3,_,atI_int (by omega) r2,?_⟩
     walk_at "rd"
     refine⟨_,.inl (SqL.of hf4),?_⟩
     rw[List.length_map]
     refine⟨by omega,by omega,?_⟩
     rw[Int.toNat_natCast]
     obtain⟨Pc,hPc⟩:∃Pc:Nat->List V->St->Hp->Prop,∀c ys σ5 H5,Pc c ys σ5 H5↔(H5=H4/\∃(twins:List Int) (o:Option V),ys=twins.map V.int/\twins.length<=c/\(∀x∈twins,0<=x/\x<(fold.length:Int))/\(g.toNat<c->twins ≠ [])/\σ5=[o,some (.int g),some (.ref pf)]):=⟨_,fun _ _ _ _=>Iff.rfl⟩
     refine compR Pc ((hPc _ _ _ _).mpr ⟨rfl,[],none,rfl,Nat.le_refl _,(fun x hx=>by cases hx),(fun z=>absurd z (Nat.not_lt_zero _)),rfl⟩) (by omega) (fun c ys σ5 H5 _ h5=>?_) (fun c ys σ5 H5 hc h5=>?_) (fun ys σ5 H5 h5 D hD=>?_)
     ·obtain⟨_,twins,o,rfl,hlen,_⟩:=(hPc _ _ _ _).mp h5
      rw[List.length_map];exact hlen
     ·obtain⟨rfl,twins,o,rfl,hlen,htr,htn,rfl⟩:=(hPc _ _ _ _).mp h5
      obtain⟨fv,hfv⟩:∃fv,fold[c]?=some fv:=⟨fold[c]'hc,by simp[hc]⟩
      have ec:(0:Int)+(c:Nat)=(c:Int):=by omega
      rw[ec]
      walk_at "rd"
      refine⟨_,SqL.of hf4,_,atI_int (by omega) (by rw[Int.toNat_natCast];exact hfv),?_⟩
      walk_at "rd"
      refine ite2 (fun he=>?_) (fun hne=>?_)
      ·refine (hPc _ _ _ _).mpr ⟨rfl,twins++[(c:Int)],_,by simp,by simp;omega,fun x hx=>?_,(fun _ z=>by simp at z),rfl⟩
       rcases List.mem_append.mp hx with hx|hx
       ·exact htr x hx
       ·rw[List.mem_singleton.mp hx];omega
      ·refine (hPc _ _ _ _).mpr ⟨rfl,twins,_,rfl,by omega,htr,fun hlt'=>?_,rfl⟩
       by_cases hgc:g.toNat=c
       ·exfalso
        have:=hfg c (by omega)
        rw[hfv]at this
        have e2:=Option.some.inj this
        apply hne
        omega
       ·exact htn (by omega)
     ·obtain⟨rfl,twins,o,rfl,hlen,htr,htn,rfl⟩:=(hPc _ _ _ _).mp h5
      have hne:twins ≠ []:=htn (by omega)
      have hpos:0<twins.length:=List.length_pos_iff.mpr hne
      have sD:=Same.new hD (o:=.lst (twins.map V.int))
      have hmul0:0<=room*L:=Int.mul_nonneg hroom0 (by omega)
      have hmul1:room*L<=40*6:=Int.mul_le_mul (by omega) (by omega) (by omega) (by omega)
      refine⟨.inl ⟨rfl,_,SqL.of (sD _ _ hr4)⟩,_,(s4.trans sD).seqT q1,_,rfl,L,rfl,.inl ⟨by omega,by omega⟩,D,rfl,_,.inl (SqL.of upd_same),?_⟩
      rw[List.length_map]
      refine⟨_,_,_,rfl,by omega,by omega,by omega,fun x hx0 hx1=>?_⟩
      have hxt:x.toNat<twins.length:=by omega
      refine⟨D,rfl,_,x,rfl,SqL.of upd_same,_,atI_int hx0 (v:=twins[x.toNat]) (by simp[hxt]),_,sD _ _ hr4,by rw[List.length_map];omega,(hPr _ _ _).mpr ⟨row++[twins[x.toNat]],_,_,_,(s4.trans sD).over hprn,?_,(hw4.mono sD).off (sD _ _ hr4) hnew,by rw[upd_same];simp,by simp[hrl],fun y hy=>?_,rfl⟩⟩
      ·rw[upd_ne hnef];exact sD _ _ hf4
      ·rcases List.mem_append.mp hy with hy|hy
       ·exact hrr y hy
       ·rw[List.mem_singleton.mp hy];exact htr _ (List.getElem_mem hxt)
    ·obtain⟨row,o8,o9,o10,s4,hf4,hw4,hr4,hrl,hrr,rfl⟩:=(hPr _ _ _).mp h4
     walk_at "rd"
     obtain⟨ts,e0,_⟩:=id hw4
     refine⟨.inl ⟨rfl,_,SqL.of e0⟩,_,.inl ⟨SqL.of hr4,fun t ht=>?_⟩⟩
     obtain⟨xs,e1,e2,hw5⟩:=(hw4.mono (Same.new ht (o:=.tup (row.map V.int)))).push (w:=row) (SqT.of upd_same)
     refine⟨xs,e1,by omega,(hPv _ _ _).mpr ⟨ws++[row],_,_,_,_,_,(s4.newT ht).over hpwn,?_,hw5,by simp[hwl],fun r hr=>?_,rfl⟩⟩
     ·rw[upd_ne hnefw];exact Same.new ht _ _ hf4
     ·rcases List.mem_append.mp hr with hr|hr
      ·exact hwr r hr
      ·rw[List.mem_singleton.mp hr];exact⟨by omega,hrr⟩
   ·obtain⟨ws,o6,o7,o8,o9,o10,s3,hf3,hw3,hwl,hwr,rfl⟩:=(hPv _ _ _).mp h3
    walk_at "rd"
    refine⟨_,s3.seqT q1,_,rfl,⟨_,SqL.of hf3⟩,compMapL (σ':=[some (.ref h)]) (fun x=>match x with | .int n=>.int (mkW marks n)|_=>.non) rfl (SqL.of hf3) (by rw[List.length_map];omega) (fun x hx R hR=>?_) (fun Dm hDm=>?_)⟩
    ·obtain⟨y,hy,rfl⟩:=mem_mapI hx
     have hin:=hfr y hy
     walk_at "rd"
     refine⟨_,s3.seqT q1,_,rfl,?_⟩
     walk_at "rd"
     exact⟨_,s3.seqT q2,_,mkW_at hin.1 hin.2,hR⟩
    have em:(fold.map V.int).map (fun x=>match x with | .int n=>.int (mkW marks n)|_=>.non)=(fold.map (mkW marks)).map V.int:=by rw[List.map_map,List.map_map];rfl
    rw[em]
    refine⟨Dm,rfl,_,.inl ⟨SqL.of upd_same,fun t1 ht1=>?_⟩⟩
    obtain⟨xs,hx1,hrows⟩:=(hw3.mono ((Same.new hDm (o:=.lst ((fold.map (mkW marks)).map V.int))).newT ht1 (o:=.tup ((fold.map (mkW marks)).map V.int)))).rows
    refine⟨xs,.inl ⟨SqL.of hx1,fun t2 ht2=>⟨by omega,fun h9 hh9=>?_⟩⟩⟩
    refine k h9 (fold.map (mkW marks)) ws _ ((((s3.newT hDm).newT ht1).newT ht2).newT hh9) ⟨t1,t2,SqT.of upd_same,((Same.new ht2).newT hh9).seqT (SqT.of upd_same),(hrows t2 ht2).mono (Same.new hh9)⟩ ⟨hL1,hL6,by rw[List.length_map];omega,by rw[List.length_map];omega,by rw[List.length_map];omega,fun row hr=>by rw[List.length_map];exact hwr row hr,fun m hm=>?_⟩
    obtain⟨y,hy,rfl⟩:=List.mem_map.mp hm
    have hin:=hfr y hy
    exact wf.mks _ (mkW_in hin.1 hin.2)
def sp_houseby (K:PySem.W.Frag):Sp:=fun vs H Q _=>∃(a:Addr) (ns:List Int),vs=[.ref a]/\SqL K H a (ns.map V.int)/\∀h L marks ways H',Same H H'->House K H' h L marks ways->Wf L marks ways->Q (.ref h) H'
theorem ok__law_house_by {f:Addr}{fd:FuncData}(F:Fun K "_law_house_by" "_law_house_by" s__law_house_by f fd)(T:Txt mg)
  (Z:Exs K mg C_AskError C_BadWord)
  {f__law_cell_at:Addr} {fd__law_cell_at:FuncData} (g__law_cell_at:FnOk P w K mg base CX0 1 f__law_cell_at fd__law_cell_at ["script","k"] (sp_cell K)) (F__law_cell_at:Fun K "_law_cell_at" "_law_cell_at" s__law_cell_at f__law_cell_at fd__law_cell_at) (b__law_cell_at:Binds K fd__law_cell_at ["script","k"] []) (m__law_cell_at:mg "_law_cell_at"=some (.ref f__law_cell_at))
  {f__law_marks_by:Addr} {fd__law_marks_by:FuncData} (g__law_marks_by:FnOk P w K mg base CX0 2 f__law_marks_by fd__law_marks_by ["number","rooms"] (sp_marksby K)) (F__law_marks_by:Fun K "_law_marks_by" "_law_marks_by" s__law_marks_by f__law_marks_by fd__law_marks_by) (b__law_marks_by:Binds K fd__law_marks_by ["number","rooms"] []) (m__law_marks_by:mg "_law_marks_by"=some (.ref f__law_marks_by))
  {f__law_ways_by:Addr} {fd__law_ways_by:FuncData} (g__law_ways_by:FnOk P w K mg base CX0 2 f__law_ways_by fd__law_ways_by ["script","letters","rooms"] (sp_waysby K)) (F__law_ways_by:Fun K "_law_ways_by" "_law_ways_by" s__law_ways_by f__law_ways_by fd__law_ways_by) (b__law_ways_by:Binds K fd__law_ways_by ["script","letters","rooms"] []) (m__law_ways_by:mg "_law_ways_by"=some (.ref f__law_ways_by))
  {f__law_blown:Addr} {fd__law_blown:FuncData} (g__law_blown:FnOk P w K mg base CX0 2 f__law_blown fd__law_blown ["house","number","rooms"] (sp_blown K)) (F__law_blown:Fun K "_law_blown" "_law_blown" s__law_blown f__law_blown fd__law_blown) (b__law_blown:Binds K fd__law_blown ["house","number","rooms"] []) (m__law_blown:mg "_law_blown"=some (.ref f__law_blown))
  : FnOk P w K mg base CX0 3 f fd ["script"] (sp_houseby K):=by
 refine F.ok sc__law_house_by (fun vs H Q E h=>?_) (fun cdv A outer s H vs Q E hr h=>?_)
 ·obtain⟨a,ns,rfl,_⟩:=h;rfl
 ·obtain⟨a,ns,rfl,hs,k⟩:=h
  have hl:=line1000
  refine⟨_,(pss_cons (ps_setL (i:=1) sc__law_house_by.nd (pe_op (opD0 op_add) pe_int (pe_op (opD op_mod) (pe_op (opD0 op_add) (pe_call g__law_cell_at (hr.mono (by decide)) rfl m__law_cell_at F__law_cell_at.kp b__law_cell_at .nil pass0 (pa_cons (pvD 0) (pa_cons pe_int pa_nil))) pe_int) pe_int)))
   (pss_cons (ps_setL (i:=2) sc__law_house_by.nd (pe_op (opD0 op_add) pe_int (pe_op (opD op_mod) (pe_op (opD0 op_add) (pe_call g__law_cell_at (hr.mono (by decide)) rfl m__law_cell_at F__law_cell_at.kp b__law_cell_at .nil pass0 (pa_cons (pvD 0) (pa_cons pe_int pa_nil))) pe_int) pe_int)))
   (pss_cut (ps_if (PW.pt (pw_and (ptT (pt_cmpR (opE op_eq) (pe_op (opD op_mod) (pe_op (opD op_fdiv) (pe_call g__law_cell_at (hr.mono (by decide)) rfl m__law_cell_at F__law_cell_at.kp b__law_cell_at .nil pass0 (pa_cons (pvD 0) (pa_cons pe_int pa_nil))) pe_int) pe_int) pe_int (nomark _))) (pw_and1 (ptT (pt_cmpR (opD0 op_lt) (pvD 1) pe_int (nomark _))))))
   (pss_one (ps_setL (i:=2) sc__law_house_by.nd (pe_op (opD0 op_add) pe_int (pe_op (opD op_mod) (pe_op (opD op_fdiv) (pe_call g__law_cell_at (hr.mono (by decide)) rfl m__law_cell_at F__law_cell_at.kp b__law_cell_at .nil pass0 (pa_cons (pvD 0) (pa_cons pe_int pa_nil))) pe_int) pe_int))))
   pss_nil)
   (pss_cons (ps_setL (i:=3) sc__law_house_by.nd (pe_call g__law_marks_by (hr.mono (by decide)) rfl m__law_marks_by F__law_marks_by.kp b__law_marks_by .nil pass0 (pa_cons (pe_call g__law_cell_at (hr.mono (by decide)) rfl m__law_cell_at F__law_cell_at.kp b__law_cell_at .nil pass0 (pa_cons (pvD 0) (pa_cons pe_int pa_nil))) (pa_cons (pvD 2) pa_nil))))
   (pss_cons (ps_setL (i:=4) sc__law_house_by.nd (pe_tup (pa_cons (pvD 1) (pa_cons (pvD 3) (pa_cons (pe_call g__law_ways_by (hr.mono (by decide)) rfl m__law_ways_by F__law_ways_by.kp b__law_ways_by .nil pass0 (pa_cons (pvD 0) (pa_cons (pvD 1) (pa_cons (pvD 2) pa_nil)))) pa_nil)))))
   (pss_cons (ps_setL (i:=5) sc__law_house_by.nd (pe_call g__law_cell_at (hr.mono (by decide)) rfl m__law_cell_at F__law_cell_at.kp b__law_cell_at .nil pass0 (pa_cons (pvD 0) (pa_cons pe_int pa_nil))))
   (pss_cut (ps_if (ptT (pt_cmpR (opE op_eq) (pe_op (opD op_mod) (pvD 5) pe_int) pe_int (nomark _)))
   (pss_one (ps_setL (i:=4) sc__law_house_by.nd (pe_call g__law_blown (hr.mono (by decide)) rfl m__law_blown F__law_blown.kp b__law_blown .nil pass0 (pa_cons (pvD 4) (pa_cons (pvD 5) (pa_cons (pe_op (opD0 op_add) (pe_op (opD0 op_add) (pvD 2) pe_int) (pe_op (opD op_mod) (pe_op (opD op_fdiv) (pvD 5) pe_int) pe_int)) pa_nil))))))
   pss_nil)
   (pss_one (ps_ret (pvD 4)))))))))),?_⟩
  walk_at "rd"
  refine⟨a,ns,0,rfl,hs,?_⟩
  walk_at "rd"
  refine⟨by decide,a,ns,1,rfl,hs,?_⟩
  walk_at "rd"
  have hL1:1<=1+(cell ns 0+1)%6:=by omega
  have hL6:1+(cell ns 0+1)%6<=6:=by omega
  generalize 1+(cell ns 0+1)%6=L at hL1 hL6 ⊢
  obtain⟨R,hR⟩:∃R:St->Hp->Prop,∀σ' H',R σ' H'↔(H'=H/\∃n:Nat,1<=n/\n<=12/\σ'=[some (.ref a),some (.int L),some (.int n),none,none,none]):=⟨_,fun _ _=>Iff.rfl⟩
  refine⟨by decide,R,?_,?_⟩
  ·walk_at "rd"
   refine⟨a,ns,1,rfl,hs,?_⟩
   walk_at "rd"
   refine⟨⟨by decide,by decide⟩,by decide,?_⟩
   have hb:R [some (V.ref a),some (V.int L),some (V.int (1+(cell ns 1+3)%5)),none,none,none] H:=(hR _ _).mpr ⟨rfl,(1+(cell ns 1+3)%5).toNat,by omega,by omega,by rw[show (((1+(cell ns 1+3)%5).toNat:Nat):Int)=1+(cell ns 1+3)%5 by omega]⟩
   refine ite2 (fun _=>ite2 (fun _=>?_) (fun _=>hb)) (fun _=>hb)
   refine⟨a,ns,1,rfl,hs,_,rfl,⟨by decide,by decide⟩,by decide,(hR _ _).mpr ⟨rfl,(1+cell ns 1 / 80%12).toNat,by omega,by omega,?_⟩⟩
   rw[show (((1+cell ns 1 / 80%12).toNat:Nat):Int)=1+cell ns 1 / 80%12 by omega]
  ·intro σ' H' h'
   obtain⟨rfl,n,hn1,hn12,rfl⟩:=(hR _ _).mp h'
   have hn40:n<=40:=by omega
   walk_at "rd"
   refine⟨a,ns,2,rfl,hs,?_⟩
   walk_at "rd"
   refine⟨_,n,rfl,hn1,hn40,fun tm marks H1 s1 htm hml hmr=>?_⟩
   walk_at "rd"
   refine⟨a,ns,L,n,rfl,s1.seq hs,hL1,hL6,hn1,hn40,fun tw ways H2 s2 hrows hwl hwr=>?_⟩
   walk_at "rd"
   refine⟨by omega,fun h hh=>?_⟩
   have wf:Wf L marks ways:=⟨hL1,hL6,by omega,by omega,by omega,fun row hr=>by rw[hml];exact hwr row hr,hmr⟩
   have hs3:=(s1.trans s2).newT hh (o:=.tup [V.int L,V.ref tm,V.ref tw])
   have hs2h:House K (upd H2 h (.tup [V.int L,V.ref tm,V.ref tw])) h L marks ways:=⟨tm,tw,SqT.of upd_same,(s2.newT hh).seqT htm,hrows.mono (Same.new hh)⟩
   generalize upd H2 h (.tup [V.int L,V.ref tm,V.ref tw])=H3 at hs3 hs2h ⊢
   refine⟨a,ns,4,rfl,hs3.seq hs,?_⟩
   walk_at "rd"
   obtain⟨R2,hR2⟩:∃R:St->Hp->Prop,∀σ4 H4,R σ4 H4↔(∃(h:Addr) (marks:List Int) (ways:List (List Int)) (o1 o2 o3:Option V),Same H' H4/\House K H4 h L marks ways/\Wf L marks ways/\σ4=[some (.ref a),some (.int L),o1,o2,some (.ref h),o3]):=⟨_,fun _ _=>Iff.rfl⟩
   refine⟨R2,?_,?_⟩
   ·walk_at "rd"
    refine⟨by decide,ite2 (fun _=>⟨⟨by decide,by decide⟩,by decide,?_⟩) (fun _=>(hR2 _ _).mpr ⟨h,marks,ways,_,_,_,hs3,hs2h,wf,rfl⟩)⟩
    have hx0:=Int.emod_nonneg (cell ns 4 / 3) (show (3:Int)≠0 by decide)
    have hx1:=Int.emod_lt_of_pos (cell ns 4 / 3) (show (0:Int)<3 by decide)
    obtain⟨m,hm,hm40⟩:∃m:Nat,(n:Int)+1+cell ns 4 / 3%3=(m:Int)/\m<=40:=⟨((n:Int)+1+cell ns 4 / 3%3).toNat,by omega,by omega⟩
    rw[hm]
    refine⟨h,L,marks,ways,_,m,rfl,hs2h,wf,hm40,fun h' marks' ways' H4 s4 hh' wf'=>?_⟩
    exact (hR2 _ _).mpr ⟨h',marks',ways',_,_,_,hs3.trans s4,hh',wf',rfl⟩
   ·intro σ4 H4 h4
    obtain⟨h,marks,ways,o1,o2,o3,s4,hh4,wf4,rfl⟩:=(hR2 _ _).mp h4
    walk_at "rd"
    exact k h L marks ways H4 s4 hh4 wf4
def sp_more (K:PySem.W.Frag):Sp:=fun vs H Q _=>∃(a h:Addr) (ns:List Int) (L:Int) (marks:List Int) (ways:List (List Int)),vs=[.ref a,.ref h]/\SqL K H a (ns.map V.int)/\House K H h L marks ways/\Wf L marks ways/\∀(m:Nat) H',m<=3->many L (m+2)<=341->Same H H'->Q (.int m) H'
theorem ok__law_more_by {f:Addr}{fd:FuncData}(F:Fun K "_law_more_by" "_law_more_by" s__law_more_by f fd)(T:Txt mg)
  (Z:Exs K mg C_AskError C_BadWord)
  {f__law_cell_at:Addr} {fd__law_cell_at:FuncData} (g__law_cell_at:FnOk P w K mg base CX0 1 f__law_cell_at fd__law_cell_at ["script","k"] (sp_cell K)) (F__law_cell_at:Fun K "_law_cell_at" "_law_cell_at" s__law_cell_at f__law_cell_at fd__law_cell_at) (b__law_cell_at:Binds K fd__law_cell_at ["script","k"] []) (m__law_cell_at:mg "_law_cell_at"=some (.ref f__law_cell_at))
  : FnOk P w K mg base CX0 2 f fd ["script","house"] (sp_more K):=by
 refine F.ok sc__law_more_by (fun vs H Q E h=>?_) (fun cdv A outer s H vs Q E hr h=>?_)
 ·obtain⟨a,h,ns,L,marks,ways,rfl,_⟩:=h;rfl
 ·obtain⟨a,h,ns,L,marks,ways,rfl,hs,hh,wf,k⟩:=h
  have hl:=line1000
  refine⟨_,(pss_cons (ps_setL (i:=2) sc__law_more_by.nd (pe_op (opD op_fdiv) (pe_call g__law_cell_at (hr.mono (by decide)) rfl m__law_cell_at F__law_cell_at.kp b__law_cell_at .nil pass0 (pa_cons (pvD 0) (pa_cons pe_int pa_nil))) pe_int))
   (pss_cons (ps_if (ptT (pt_cmpR (opD0 op_gt) (pe_callB (lenD call_len_seq) (by rfl) T.len PySem.boot_len (pa_cons (pe_ixA (ixTD ix_tup) (pvD 1) pe_int) pa_nil)) pe_int (nomark _)))
   (pss_one (ps_ret (pe_op (opD op_mod) (pvD 2) pe_int)))
   pss_nil)
   (pss_cons (ps_if (PW.pt (pw_and (ptT (pt_cmpR (opD0 op_lt) (pe_callB (lenD call_len_seq) (by rfl) T.len PySem.boot_len (pa_cons (pe_ixA (ixTD ix_tup) (pvD 1) pe_int) pa_nil)) pe_int (nomark _))) (pw_and1 (ptT (pt_cmpR (opE op_eq) (pe_op (opD op_mod) (pvD 2) pe_int) pe_int (nomark _))))))
   (pss_one (ps_ret (pe_ixA (ixLD ix_list) (pe_lst (pa_cons pe_int (pa_cons pe_int (pa_cons pe_int (pa_cons pe_int (pa_cons pe_int (pa_cons pe_int pa_nil))))))) (pe_op (opD0 op_sub) (pe_ixA (ixTD ix_tup) (pvD 1) pe_int) pe_int))))
   pss_nil)
   (pss_cons (ps_if (ptT (pt_cmpR (opE op_eq) (pe_op (opD op_mod) (pvD 2) pe_int) pe_int (nomark _)))
   (pss_one (ps_ret (pe_ixA (ixLD ix_list) (pe_lst (pa_cons pe_int (pa_cons pe_int (pa_cons pe_int (pa_cons pe_int (pa_cons pe_int (pa_cons pe_int pa_nil))))))) (pe_op (opD0 op_sub) (pe_ixA (ixTD ix_tup) (pvD 1) pe_int) pe_int))))
   pss_nil)
   (pss_one (ps_ret (pe_op (opD op_mod) (pvD 2) (pe_ixA (ixLD ix_list) (pe_lst (pa_cons pe_int (pa_cons pe_int (pa_cons pe_int (pa_cons pe_int (pa_cons pe_int (pa_cons pe_int pa_nil))))))) (pe_op (opD0 op_sub) (pe_ixA (ixTD ix_tup) (pvD 1) pe_int) pe_int))))))))),?_⟩
  walk_at "rd"
  obtain⟨mm,wv,q1,q2,q3⟩:=id hh
  have hL1:=wf.l1
  have hL6:=wf.l6
  refine⟨a,ns,0,rfl,hs,_,rfl,⟨by decide,by decide⟩,_,q1,_,rfl,mm,rfl,_,.inr q2,?_⟩
  generalize cell ns 0 / 6=c
  rw[List.length_map]
  have hL:L=1\/L=2\/L=3\/L=4\/L=5\/L=6:=by omega
  have m0:many L (0+2)<=341:=by rcases hL with rfl|rfl|rfl|rfl|rfl|rfl<;>decide
  have m1:many L (1+2)<=341:=by rcases hL with rfl|rfl|rfl|rfl|rfl|rfl<;>decide
  have m2:many L (2+2)<=341:=by rcases hL with rfl|rfl|rfl|rfl|rfl|rfl<;>decide
  have m3:L<=4->many L (3+2)<=341:=fun h=>by
   rcases hL with rfl|rfl|rfl|rfl|rfl|rfl
   all_goals first|decide|omega
  -- each answer
  have ans:∀(c:Int) H',Same H H'->0<=c->c<=3->(c=3->L<=4)->Q (.int c) H':=fun c H' hS h0 h3 hc=>by
   obtain⟨m,rfl⟩:∃m:Nat,c=(m:Int):=⟨c.toNat,by omega⟩
   refine k m H' (by omega) ?_ hS
   rcases (show m=0\/m=1\/m=2\/m=3 by omega) with rfl|rfl|rfl|rfl
   ·exact m0
   ·exact m1
   ·exact m2
   ·exact m3 (hc rfl)
  refine ite2 (fun _=>⟨by decide,ans _ _ (Same.refl _) (by omega) (by omega) (by omega)⟩) (fun _=>?_)
  refine⟨_,q1,_,rfl,mm,rfl,_,.inr q2,?_⟩
  rw[List.length_map]
  refine ite2 (fun h3=>⟨by decide,ite2 (fun _=>⟨by decide,fun p hp=>?_⟩) (fun _=>⟨by decide,ite2 (fun _=>⟨by decide,fun p hp=>?_⟩) (fun _=>⟨by decide,fun p hp=>?_⟩)⟩)⟩) (fun h3=>⟨by decide,ite2 (fun _=>⟨by decide,fun p hp=>?_⟩) (fun _=>⟨by decide,fun p hp=>?_⟩)⟩)
  all_goals
   refine⟨_,(Same.new hp).seqT q1,_,rfl,L,rfl,_,SqL.of upd_same,?_⟩
   clear hh wf q1 q2 q3 k m0 m1 m2 m3
   rcases hL with rfl|rfl|rfl|rfl|rfl|rfl
   all_goals first
    | exact⟨_,rfl,ans _ _ (Same.new hp) (by decide) (by decide) (by decide)⟩
    | exact⟨_,rfl,_,rfl,by decide,ans _ _ (Same.new hp) (by omega) (by omega) (by omega)⟩
def sp_isw (K:PySem.W.Frag):Sp:=fun vs H Q _=>∃(a:Addr) (L:Int) (ws:List Int),vs=[.ref a,.int L]/\SqT K H a (ws.map V.int)/\isW L ws=true/\Q (.bl true) H
theorem ok__law_is_word {f:Addr}{fd:FuncData}(F:Fun K "_law_is_word" "_law_is_word" s__law_is_word f fd)(T:Txt mg)
  (Z:Exs K mg C_AskError C_BadWord)
  : FnOk P w K mg base CX0 1 f fd ["found","letters"] (sp_isw K):=by
 refine F.ok sc__law_is_word (fun vs H Q E h=>?_) (fun cdv A outer s H vs Q E hr h=>?_)
 ·obtain⟨a,L,ws,rfl,_⟩:=h;rfl
 ·obtain⟨a,L,ws,rfl,ha,hv,k⟩:=h
  refine⟨_,(pss_cons (ps_if (pt_not (ptB (pt_val (pe_callB call_isinstW rfl T.isinstance PyProof.Rows.boot_isinstance (pa_cons (pvD 0) (pa_cons (pe_bltn (v:=.ty "tuple") rfl T.tuple PyProof.Rows.boot_tuple rfl) pa_nil))))))
   (pss_one (ps_ret pe_bl))
   pss_nil)
   (pss_cons (ps_for PassesOwn.never rfl (pi_tup (pvD 0)) (pg_name (i:=2) sc__law_is_word.nd rfl (Or.inl rfl))
   (pss_one (ps_if (PW.pt (pw_or (pt_not (ptB (pt_val (pe_callB call_isinstW rfl T.isinstance PyProof.Rows.boot_isinstance (pa_cons (pvD 2) (pa_cons (pe_bltn (v:=.ty "int") rfl T.int PyProof.Rows.boot_int rfl) pa_nil)))))) (pw_or (ptB (pt_val (pe_callB call_isinstW rfl T.isinstance PyProof.Rows.boot_isinstance (pa_cons (pvD 2) (pa_cons (pe_bltn (v:=.ty "bool") rfl T.bool PyProof.Rows.boot_bool rfl) pa_nil))))) (pw_or (ptT (pt_cmpR (opD0 op_lt) (pvD 2) pe_int (nomark _))) (pw_or1 (ptT (pt_cmpR (opD0 op_ge) (pvD 2) (pvD 1) (nomark _))))))))
   (pss_one (ps_ret pe_bl))
   pss_nil)))
   (pss_one (ps_ret pe_bl)))),?_⟩
  walk_at "rd"
  refine⟨_,_,.tup ha,rel_ty,_,kit_self,?_⟩
  rw[if_neg (by decide)]
  refine⟨⟨_,ha⟩,forT (xs:=ws.map V.int) (fun i σ2 H2=>H2=H/\∃o,σ2=[some (.ref a),some (.int L),o]) ⟨rfl,none,rfl⟩ (fun i σ2 H2 _ h=>by rw[h.1];exact ha) (fun i x σ2 H2 hx h=>?_) (fun σ2 H2 h=>?_)⟩
  ·obtain⟨rfl,o,rfl⟩:=h
   obtain⟨n,hn,rfl⟩:=get_mapI hx
   have hin:=isW_iff.mp hv n (List.mem_of_getElem? hn)
   walk_at "rd"
   refine⟨_,_,.int _,rel_ty,_,kit_self,?_⟩
   rw[if_neg (by decide)]
   refine⟨_,_,.int _,rel_ty,_,kit_int_bool,?_⟩
   rw[if_neg (by decide),if_neg (by omega),if_neg (by omega)]
   exact⟨_,rfl⟩
  ·obtain⟨rfl,o,rfl⟩:=h
   walk_at "rd"
   exact k
def SrtS (ws:List (List Int)):Prop:=ws.Pairwise fun u v=>u.length<v.length\/(u.length=v.length/\HT.lexLt u v=true)
def sp_lwords (K:PySem.W.Frag):Sp:=fun vs H Q _=>∃(a:Addr) (xs:List V) (ws:List (List Int)) (L:Int),vs=[.ref a,.int L]/\H a=some (.lst xs)/\WordsT K H xs ws/\(∀w∈ws,isW L w=true)/\SrtS ws/\∀H',Same H H'->Q (.bl true) H'
theorem ok__law_words {f:Addr}{fd:FuncData}(F:Fun K "_law_words" "_law_words" s__law_words f fd)(T:Txt mg)
  (Z:Exs K mg C_AskError C_BadWord)
  {f__law_is_word:Addr} {fd__law_is_word:FuncData} (g__law_is_word:FnOk P w K mg base CX0 1 f__law_is_word fd__law_is_word ["found","letters"] (sp_isw K)) (F__law_is_word:Fun K "_law_is_word" "_law_is_word" s__law_is_word f__law_is_word fd__law_is_word) (b__law_is_word:Binds K fd__law_is_word ["found","letters"] []) (m__law_is_word:mg "_law_is_word"=some (.ref f__law_is_word))
  : FnOk P w K mg base CX0 2 f fd ["found","letters"] (sp_lwords K):=by
 refine F.ok sc__law_words (fun vs H Q E h=>?_) (fun cdv A outer s H vs Q E hr h=>?_)
 ·obtain⟨a,xs,ws,L,rfl,_⟩:=h;rfl
 ·obtain⟨a,xs,ws,L,rfl,ha,hW,hv,hs,k⟩:=h
  have hl:=line1000
  refine⟨_,(pss_cons (ps_if (pt_not (ptB (pt_val (pe_callB call_isinstW rfl T.isinstance PyProof.Rows.boot_isinstance (pa_cons (pvD 0) (pa_cons (pe_bltn (v:=.ty "list") rfl T.list PyProof.Rows.boot_list rfl) pa_nil))))))
   (pss_one (ps_ret pe_bl))
   pss_nil)
   (pss_cons (ps_setL (i:=2) sc__law_words.nd pe_non)
   (pss_cons (ps_for PassesOwn.never rfl (pi_list (pvD 0)) (pg_name (i:=3) sc__law_words.nd rfl (Or.inl rfl))
   (pss_cons (ps_if (pt_not (ptB (pt_val (pe_call g__law_is_word (hr.mono (by decide)) rfl m__law_is_word F__law_is_word.kp b__law_is_word .nil pass0 (pa_cons (pvD 3) (pa_cons (pvD 1) pa_nil))))))
   (pss_one (ps_ret pe_bl))
   pss_nil)
   (pss_cons (ps_if (PW.pt (pw_and (ptT (pt_cmpR op_notN (pvD 2) pe_non (nomark _))) (pw_and1 (ptT (pt_cmpR (op_geP (hu9 hr)) (pe_tup (pa_cons (pe_callB (lenD call_len_seq) (by rfl) T.len PySem.boot_len (pa_cons (pvD 2) pa_nil)) (pa_cons (pvD 2) pa_nil))) (pe_tup (pa_cons (pe_callB (lenD call_len_seq) (by rfl) T.len PySem.boot_len (pa_cons (pvD 3) pa_nil)) (pa_cons (pvD 3) pa_nil))) (nomark _))))))
   (pss_one (ps_ret pe_bl))
   pss_nil)
   (pss_one (ps_setL (i:=2) sc__law_words.nd (pvD 3))))))
   (pss_one (ps_ret pe_bl))))),?_⟩
  walk_at "rd"
  refine⟨_,_,.lst (SqL.of ha),rel_ty,_,kit_self,?_⟩
  rw[if_neg (by decide)]
  refine⟨⟨_,SqL.of ha⟩,?_⟩
  obtain⟨Pv,hPv⟩:∃Pv:Nat->St->Hp->Prop,∀i σ' H',Pv i σ' H'↔(Same H H'/\∃(lv:V) (o:Option V),((i=0/\lv=.non) \/ ∃t w,0<i/\ws[i-1]?=some w/\lv=.ref t/\H' t=some (.tup (w.map V.int)))/\σ'=[some (.ref a),some (.int L),some lv,o]):=⟨_,fun _ _ _=>Iff.rfl⟩
  refine forL (xs:=xs) Pv ((hPv _ _ _).mpr ⟨Same.refl _,.non,none,.inl ⟨rfl,rfl⟩,rfl⟩) (fun i σ' H' _ h'=>by obtain⟨s',_⟩:=(hPv _ _ _).mp h';exact SqL.of (s' _ _ ha)) (fun i x σ' H' hx h'=>?_) (fun σ' H' h'=>?_)
  ·obtain⟨s1,lv,o,hlv,rfl⟩:=(hPv _ _ _).mp h'
   obtain⟨t,w,hwi,rfl,ht⟩:=hW.at hx
   have ht1:=s1 _ _ ht
   walk_at "rd"
   refine⟨t,L,w,rfl,SqT.of ht1,hv w (List.mem_of_getElem? hwi),true,rfl,?_⟩
   rw[if_neg (by decide)]
   rcases hlv with ⟨rfl,rfl⟩|⟨u,v,hi0,hvi,rfl,hu⟩
   ·rw[if_neg (by decide)]
    exact (hPv _ _ _).mpr ⟨s1,_,_,.inr ⟨t,w,by omega,by simpa using hwi,rfl,ht1⟩,rfl⟩
   ·rw[if_pos (by simp)]
    refine⟨u,rfl,_,.inr (SqT.of hu),by omega,fun p hp=>⟨_,.inr ((Same.new hp).seqT (SqT.of ht1)),by omega,fun q hq=>?_⟩⟩
    simp only[List.length_map]at hq ⊢
    have s2:=(Same.new hp (o:=.tup [V.int (v.length:Int),V.ref u])).newT hq (o:=.tup [V.int (w.length:Int),V.ref t])
    have hvw:=List.pairwise_iff_getElem.mp hs (i-1) i (List.getElem?_eq_some_iff.mp hvi).1 (List.getElem?_eq_some_iff.mp hwi).1 (by omega)
    rw[(List.getElem?_eq_some_iff.mp hvi).2,(List.getElem?_eq_some_iff.mp hwi).2]at hvw
    refine⟨_,_,u,(Same.new hq).seqT (SqT.of upd_same),t,SqT.of upd_same,v,s2.seqT (SqT.of hu),w,s2.seqT (SqT.of ht1),hvw.elim (fun h=>.inl (by omega)) (fun h=>.inr ⟨by omega,h.1,h.2⟩),?_⟩
    exact (hPv _ _ _).mpr ⟨s1.trans s2,_,_,.inr ⟨t,w,by omega,by simpa using hwi,rfl,s2 _ _ ht1⟩,rfl⟩
  ·obtain⟨s1,lv,o,_,rfl⟩:=(hPv _ _ _).mp h'
   walk_at "rd"
   exact k _ s1
def sp_mid (K:PySem.W.Frag):Sp:=fun vs H Q _=>∃(L:Int) (m:Nat),vs=[.int L,.int m]/\1<=L/\L<=6/\m<=8/\many L (m+1)<=4000/\∀p xs H',Same H H'->H p=none->H' p=some (.lst xs)->WordsT K H' xs ((List.range (many L (m+1)).toNat).map (nth L))->Q (.ref p) H'
theorem nth_snoc {L:Int}(hL:0<L)(i l:Nat)(hl:(l:Int)<L):nth L (i*L.toNat+l+1)=nth L i++[(l:Int)]:=by
 have hv:=nth_valid hL i
 refine place_inj hL (nth_valid hL _) ?_ ?_
 ·rw[isW_iff]at hv ⊢
  intro x hx
  rcases List.mem_append.mp hx with hx|hx
  ·exact hv x hx
  ·rw[List.mem_singleton.mp hx];omega
 ·rw[place_nth,place_snoc,place_nth]
  have:((i*L.toNat+l+1:Nat):Int)=(i:Int)*L+l+1:=by
   rw[show (L:Int)=(L.toNat:Int) by omega];simp
  exact this
theorem short_iff {L:Int}(hL:0<L)(i m N0:Nat)(h:many L m=(N0:Int)):(nth L i).length<m↔i<N0:=by
 cases m with
 |zero=>
  have:(0:Int)=N0:=h
  omega
 |succ m' =>
  have:=length_iff hL (nth_valid hL i) m'
  rw[place_nth,h]at this
  omega
theorem ok__law_middles {f:Addr}{fd:FuncData}(F:Fun K "_law_middles" "_law_middles" s__law_middles f fd)(T:Txt mg)
  (Z:Exs K mg C_AskError C_BadWord)
  : FnOk P w K mg base CX0 1 f fd ["letters","many"] (sp_mid K):=by
 refine F.ok sc__law_middles (fun vs H Q E h=>?_) (fun cdv A outer s H vs Q E hr h=>?_)
 ·obtain⟨L,m,rfl,_⟩:=h;rfl
 ·obtain⟨L,m,rfl,hL1,hL6,hm,hmany,k⟩:=h
  have hl:=line1000
  refine⟨_,(pss_cons (ps_setL (i:=2) sc__law_middles.nd (pe_lst (pa_cons (pe_tup pa_nil) pa_nil)))
   (pss_cons (ps_setL (i:=3) sc__law_middles.nd pe_int)
   (pss_cons (ps_while PassesOwn.never (ptT (pt_cmpR (opD0 op_lt) (pvD 3) (pe_callB (lenD call_len_seq) (by rfl) T.len PySem.boot_len (pa_cons (pvD 2) pa_nil)) (nomark _)))
   (pss_cons (ps_setL (i:=4) sc__law_middles.nd (pe_ixA (ixLD ix_list) (pvD 2) (pvD 3)))
   (pss_cut (ps_if (ptT (pt_cmpR (opD0 op_lt) (pe_callB (lenD call_len_seq) (by rfl) T.len PySem.boot_len (pa_cons (pvD 4) pa_nil)) (pvD 1) (nomark _)))
   (pss_one (ps_for PassesOwn.never rfl (pi_range1 rfl T.range (pa_cons (pvD 0) pa_nil)) (pg_name (i:=5) sc__law_middles.nd rfl (Or.inl rfl))
   (pss_one (ps_expr (pe_bm PySem.F.plainAttrs_list PySem.F.slot_list_append PySem.F.type_list_append mt_append (pvD 2) (pa_cons (pe_op op_catT2 (pvD 4) (pe_tup (pa_cons (pvD 5) pa_nil))) pa_nil))))))
   pss_nil)
   (pss_one (ps_setL (i:=3) sc__law_middles.nd (pe_op (opD0 op_add) (pvD 3) pe_int))))))
   (pss_one (ps_ret (pvD 2)))))),?_⟩
  walk_at "rd"
  refine⟨by omega,fun e he=>⟨by omega,fun p hp=>?_⟩⟩
  have hpe:p≠e:=fun z=>by rw[z,upd_same]at hp;cases hp
  have s0:Same H (upd (upd H e (.tup [])) p (.lst [V.ref e])):=(Same.new he).newT hp
  have hpH:H p=none:=Same.none (Same.new he) hp
  obtain⟨N,hN⟩:∃N:Nat,N=(many L (m+1)).toNat:=⟨_,rfl⟩
  have hn0:=many_nonneg (show 0<L by omega) (m+1)
  obtain⟨l,hl1⟩:∃l:Nat,L=(l:Int):=⟨L.toNat,by omega⟩
  have hlt:L.toNat=l:=by omega
  obtain⟨N0,hN0⟩:∃N0:Nat,many L m=(N0:Int):=⟨(many L m).toNat,by have:=many_nonneg (show 0<L by omega) m;omega⟩
  have hNN:N=N0*l+1:=by
   rw[hN,show many L (m+1)=many L m*L+1 from rfl,hN0,hl1]
   omega
  rw[<-hN]at k
  have hN4:N<=4000:=by omega
  obtain⟨Pv,hPv⟩:∃Pv:Nat->St->Hp->Prop,∀m' σ2 H2,Pv m' σ2 H2↔(∃(i:Nat) (xs:List V) (o4 o5:Option V),m'=N-i/\i<=min (i*l+1) N/\Same H H2/\H2 p=some (.lst xs)/\WordsT K H2 xs ((List.range (min (i*l+1) N)).map (nth L))/\σ2=[some (.int L),some (.int m),some (.ref p),some (.int i),o4,o5]):=⟨_,fun _ _ _=>Iff.rfl⟩
  refine whileW Pv ⟨_,(hPv _ _ _).mpr ⟨0,[V.ref e],none,none,rfl,Nat.zero_le _,s0,upd_same,?_,rfl⟩⟩ ?_
  ·rw[show min (0*l+1) N=1 by omega]
   exact WordsT.nil.snoc (w:=[]) (by rw[upd_ne (Ne.symm hpe)];exact upd_same)
  ·intro m' σ2 H2 hpv
   obtain⟨i,xs,o4,o5,rfl,hi,s2,hpx,hW,rfl⟩:=(hPv _ _ _).mp hpv
   have hxl:=hW.1
   rw[List.length_map,List.length_range]at hxl
   have hil:i<=i*l:=Nat.le_mul_of_pos_right i (by omega)
   walk_at "rd"
   refine⟨_,.inl (SqL.of hpx),?_⟩
   refine ite2 (fun hlt2=>?_) (fun hge=>?_)
   ·have hiM:i<min (i*l+1) N:=by omega
    have hwi:((List.range (min (i*l+1) N)).map (nth L))[i]?=some (nth L i):=by rw[List.getElem?_map,List.getElem?_range hiM];rfl
    obtain⟨t,hxt,ht⟩:=hW.2 i _ hwi
    have hv:=nth_valid (show 0<L by omega) i
    have hlen:=nth_length (show 0<L by omega) i
    refine⟨fun σ' H'=>Pv (N-(i+1)) σ' H',fun σ' H' h=>⟨_,by omega,h⟩,_,SqL.of hpx,_,atI_of (by omega) (by rw[Int.toNat_natCast];exact hxt),?_⟩
    refine⟨fun σ' H'=>∃(xs':List V) (o5':Option V),Same H H'/\H' p=some (.lst xs')/\WordsT K H' xs' ((List.range (min ((i+1)*l+1) N)).map (nth L))/\σ'=[some (.int L),some (.int m),some (.ref p),some (.int i),some (.ref t),o5'],?_,fun σ' H' hR=>?_⟩
    ·walk_at "rd"
     refine⟨_,.inr (SqT.of ht),?_⟩
     rw[List.length_map]
     refine ite2 (fun hsh=>?_) (fun hlg=>?_)
     ·have hiN:=(short_iff (show 0<L by omega) i m N0 hN0).mp (by omega)
      have hmul:(i+1)*l<=N0*l:=Nat.mul_le_mul_right l (by omega)
      have hmul2:(i+1)*l=i*l+l:=Nat.succ_mul i l
      have eM:min (i*l+1) N=i*l+1:=by omega
      have eM2:min ((i+1)*l+1) N=i*l+1+l:=by omega
      rw[eM]at hW
      rw[eM2]
      refine⟨by omega,by omega,?_⟩
      obtain⟨Pw,hPw⟩:∃Pv:Nat->St->Hp->Prop,∀j σ' H',Pv j σ' H'↔(∃(xs':List V) (o5':Option V),Same H H'/\H' p=some (.lst xs')/\WordsT K H' xs' ((List.range (i*l+1+j)).map (nth L))/\H' t=some (.tup ((nth L i).map V.int))/\σ'=[some (.int L),some (.int m),some (.ref p),some (.int i),some (.ref t),o5']):=⟨_,fun _ _ _=>Iff.rfl⟩
      refine forR Pw ((hPw _ _ _).mpr ⟨xs,o5,s2,hpx,hW,ht,rfl⟩) (fun j σ' H' hj h'=>?_) (fun σ' H' h'=>?_)
      ·obtain⟨xs',o5',s3,hp3,hW3,ht3,rfl⟩:=(hPw _ _ _).mp h'
       walk_at "rd"
       refine⟨.inl ⟨rfl,_,SqL.of hp3⟩,by omega,fun q hq=>?_⟩
       refine rCatT2.ofS (Same.new hq _ _ ht3) upd_same (by simp;omega) fun r H4 s4 hr=>?_
       have s5:=(Same.new hq (o:=.tup [V.int (0+(j:Int))])).trans s4
       have hp4:=s5 _ _ hp3
       have hx3:=hW3.1
       rw[List.length_map,List.length_range]at hx3
       have hr':H4 r=some (.tup ((nth L (i*l+1+j)).map V.int)):=by
        rw[show i*l+1+j=i*L.toNat+j+1 by rw[hlt];omega,nth_snoc (show 0<L by omega) i j (by omega),hr]
        simp
       refine⟨_,hp4,by omega,(hPw _ _ _).mpr ⟨_,_,(s3.trans s5).over hpH,upd_same,?_,TK.lst hp4 _ _ (s5 _ _ ht3),rfl⟩⟩
       rw[<-Nat.add_assoc,List.range_succ,List.map_append]
       exact ((hW3.mono (TK.of s5)).mono (TK.lst hp4)).snoc (TK.lst hp4 _ _ hr')
      ·obtain⟨xs',o5',s3,hp3,hW3,ht3,rfl⟩:=(hPw _ _ _).mp h'
       rw[hlt]at hW3
       exact⟨s3,xs',hp3,hW3,_,rfl⟩
     ·have hiN:N0<=i:=by
       have:=(short_iff (show 0<L by omega) i m N0 hN0)
       omega
      have hmul:N0*l<=i*l:=Nat.mul_le_mul_right l hiN
      have hmul2:(i+1)*l=i*l+l:=Nat.succ_mul i l
      have eM:min (i*l+1) N=N:=by omega
      have eM2:min ((i+1)*l+1) N=N:=by omega
      rw[eM]at hW
      rw[eM2]
      exact⟨s2,xs,hpx,hW,_,rfl⟩
    ·obtain⟨xs',o5',s3,hp3,hW3,rfl⟩:=hR
     walk_at "rd"
     have hil2:i+1<=(i+1)*l:=Nat.le_mul_of_pos_right _ (by omega)
     exact (hPv _ _ _).mpr ⟨i+1,xs',_,_,rfl,by omega,s3,hp3,hW3,by rw[Int.natCast_add];rfl⟩
   ·have e1:min (i*l+1) N=N:=by omega
    rw[e1]at hW
    walk_at "rd"
    exact k p xs H2 s2 hpH hpx hW
theorem SameT.tsq {K:PySem.W.Frag}{T:Addr}{H H':Hp}{ps:Array Value}(h:SameT T H H')(hT:H T=some (.tbl ps)):TSq K H H':=fun b ys q=>by
 have ne:∀o,H b=some o->(∀qs,o ≠ .tbl qs)->b≠T:=fun o e n z=>by rw[z,hT]at e;cases e;exact n _ rfl
 rcases q with (q|⟨o,q⟩)|q
 ·exact .inl (.inl (h b _ (ne _ q (fun _ z=>by cases z)) q))
 ·exact .inl (.inr ⟨o,h b _ (ne _ q (fun _ z=>by cases z)) q⟩)
 ·exact .inr q
theorem House.monoQ {K:PySem.W.Frag}{H H':Hp}{h:Addr}{L:Int}{marks:List Int}{ways:List (List Int)}(x:House K H h L marks ways)(e:TSq K H H'):House K H' h L marks ways:=by
 obtain⟨m,w,h1,h2,ts,h3,h4,h5⟩:=x
 exact⟨m,w,e _ _ h1,e _ _ h2,ts,e _ _ h3,h4,fun i t r a b=>e _ _ (h5 i t r a b)⟩
theorem ins_nodup:∀(l s:List (List Int)),s.Nodup->(l.foldl ins s).Nodup
 |[],s,h=>h
 |w::l,s,h=>by
  rw[List.foldl_cons]
  refine ins_nodup l _ ?_
  unfold ins
  split
  ·exact h
  ·rename_i hn
   exact List.nodup_append.mpr ⟨h,by simp,fun a ha b hb=>by rw[List.mem_singleton.mp hb];rintro rfl;exact hn ha⟩
theorem ins_mem:∀(l s:List (List Int)) (w:List Int),w∈l.foldl ins s->w∈s\/w∈l
 |[],s,w,h=>.inl h
 |v::l,s,w,h=>by
  rw[List.foldl_cons]at h
  rcases ins_mem l _ w h with h|h
  ·unfold ins at h
   split at h
   ·exact .inl h
   ·rcases List.mem_append.mp h with h|h
    ·exact .inl h
    ·rw[List.mem_singleton.mp h];exact .inr List.mem_cons_self
  ·exact .inr (List.mem_cons_of_mem _ h)
theorem srt_strict {os:List S64.Wd}(h:S64.Srt os)(nd:(os.map (·.2)).Nodup):SrtS (os.map (·.2)):=by
 unfold SrtS
 rw[List.pairwise_map]
 have nd':os.Pairwise fun p q=>p.2≠q.2:=List.pairwise_map.mp nd
 refine (h.and nd').imp (fun {p q} hpq=>?_)
 obtain⟨h1,h2⟩:=hpq
 cases e:S64.pblt (S64.kw p) (S64.kw q) with
 |false=>
  have:=S64.pblt_total e h1
  exact absurd (congrArg Prod.snd this) h2
 |true=>
  unfold S64.pblt S64.kw at e
  dsimp only at e
  by_cases hl:(p.2.length:Int)=q.2.length
  ·rw[if_pos hl]at e
   exact .inr ⟨by omega,e⟩
  ·rw[if_neg hl]at e
   have:=of_decide_eq_true e
   exact .inl (by omega)
theorem wordsT_of {K:PySem.W.Frag}{H:Hp}{os:List S64.Wd}(h:WsT H os):WordsT K H (S64.wv os) (os.map (·.2)):=by
 refine⟨by simp[S64.wv],fun i w hw=>?_⟩
 rw[List.getElem?_map]at hw
 cases e:os[i]? with
 |none=>rw[e]at hw;cases hw
 |some o=>
  rw[e]at hw;cases hw
  exact⟨o.1,by rw[S64.wv,List.getElem?_map,e];rfl,h o (List.mem_of_getElem? e)⟩
def spLaw (K:PySem.W.Frag):Sp:=fun vs H Q _=>∃(a:Addr) (ns:List Int),vs=[.ref a]/\SqL K H a (ns.map V.int)/\ns.length<=63/\H (tabP K "in_order")=some (.tbl #[])/\∀H',Q (.bl true) H'
theorem ok_law {f:Addr}{fd:FuncData}(F:Fun K "law" "law" s_law f fd)(T:Txt mg)
  (Z:Exs K mg C_AskError C_BadWord)
  {f_ways_in:Addr} {fd_ways_in:FuncData} (g_ways_in:FnOk P w K mg base CX0 2 f_ways_in fd_ways_in ["house"] (sp_waysin K)) (F_ways_in:Fun K "ways_in" "ways_in" s_ways_in f_ways_in fd_ways_in) (b_ways_in:Binds K fd_ways_in ["house"] []) (m_ways_in:mg "ways_in"=some (.ref f_ways_in))
  {f_tellers:Addr} {fd_tellers:FuncData} (g_tellers:FnOk P w K mg base CX0 3 f_tellers fd_tellers ["house"] (sp_tel K)) (F_tellers:Fun K "tellers" "tellers" s_tellers f_tellers fd_tellers) (b_tellers:Binds K fd_tellers ["house"] []) (m_tellers:mg "tellers"=some (.ref f_tellers))
  {f_least:Addr} {fd_least:FuncData} (g_least:FnOk P w K mg base CX0 5 f_least fd_least ["house"] (sp_least K)) (F_least:Fun K "least" "least" s_least f_least fd_least) (b_least:Binds K fd_least ["house"] []) (m_least:mg "least"=some (.ref f_least))
  {f_suite:Addr} {fd_suite:FuncData} (g_suite:FnOk P w K mg base CX0 6 f_suite fd_suite ["house","more"] (sp_suite K)) (F_suite:Fun K "suite" "suite" s_suite f_suite fd_suite) (b_suite:Binds K fd_suite ["house","more"] []) (m_suite:mg "suite"=some (.ref f_suite))
  {f__law_house_by:Addr} {fd__law_house_by:FuncData} (g__law_house_by:FnOk P w K mg base CX0 3 f__law_house_by fd__law_house_by ["script"] (sp_houseby K)) (F__law_house_by:Fun K "_law_house_by" "_law_house_by" s__law_house_by f__law_house_by fd__law_house_by) (b__law_house_by:Binds K fd__law_house_by ["script"] []) (m__law_house_by:mg "_law_house_by"=some (.ref f__law_house_by))
  {f__law_more_by:Addr} {fd__law_more_by:FuncData} (g__law_more_by:FnOk P w K mg base CX0 2 f__law_more_by fd__law_more_by ["script","house"] (sp_more K)) (F__law_more_by:Fun K "_law_more_by" "_law_more_by" s__law_more_by f__law_more_by fd__law_more_by) (b__law_more_by:Binds K fd__law_more_by ["script","house"] []) (m__law_more_by:mg "_law_more_by"=some (.ref f__law_more_by))
  {f__law_words:Addr} {fd__law_words:FuncData} (g__law_words:FnOk P w K mg base CX0 2 f__law_words fd__law_words ["found","letters"] (sp_lwords K)) (F__law_words:Fun K "_law_words" "_law_words" s__law_words f__law_words fd__law_words) (b__law_words:Binds K fd__law_words ["found","letters"] []) (m__law_words:mg "_law_words"=some (.ref f__law_words))
  {f__law_middles:Addr} {fd__law_middles:FuncData} (g__law_middles:FnOk P w K mg base CX0 1 f__law_middles fd__law_middles ["letters","many"] (sp_mid K)) (F__law_middles:Fun K "_law_middles" "_law_middles" s__law_middles f__law_middles fd__law_middles) (b__law_middles:Binds K fd__law_middles ["letters","many"] []) (m__law_middles:mg "_law_middles"=some (.ref f__law_middles))
  : FnOk P w K mg base CX0 7 f fd ["script"] (spLaw K):=by
 refine F.ok sc_law (fun vs H Q E h=>?_) (fun cdv A outer s H vs Q E hr h=>?_)
 ·obtain⟨a,ns,rfl,_⟩:=h;rfl
 ·obtain⟨a,ns,rfl,hs,hz,hT,k⟩:=h
  have hl:=line1000
  refine⟨_,(pss_cons (ps_setL (i:=1) sc_law.nd (pe_call g__law_house_by (hr.mono (by decide)) rfl m__law_house_by F__law_house_by.kp b__law_house_by .nil pass0 (pa_cons (pvD 0) pa_nil)))
   (pss_cons (ps_setL (i:=2) sc_law.nd (pe_call g__law_more_by (hr.mono (by decide)) rfl m__law_more_by F__law_more_by.kp b__law_more_by .nil pass0 (pa_cons (pvD 0) (pa_cons (pvD 1) pa_nil))))
   (pss_cons (ps_setL (i:=3) sc_law.nd (pe_call g_suite (hr.mono (by decide)) rfl m_suite F_suite.kp b_suite .nil pass0 (pa_cons (pvD 1) (pa_cons (pvD 2) pa_nil))))
   (pss_cons (ps_if (pt_not (ptB (pt_val (pe_call g__law_words (hr.mono (by decide)) rfl m__law_words F__law_words.kp b__law_words .nil pass0 (pa_cons (pvD 3) (pa_cons (pe_ixA (ixTD ix_tup) (pvD 1) pe_int) pa_nil))))))
   (pss_one (ps_ret pe_bl))
   pss_nil)
   (pss_cons (ps_setL (i:=4) sc_law.nd (pe_call g_least (hr.mono (by decide)) rfl m_least F_least.kp b_least .nil pass0 (pa_cons (pvD 1) pa_nil)))
   (pss_cons (ps_setL (i:=5) sc_law.nd (pe_call g_tellers (hr.mono (by decide)) rfl m_tellers F_tellers.kp b_tellers .nil pass0 (pa_cons (pvD 4) pa_nil)))
   (pss_cons (ps_set (i:=6) sc_law.nd rfl (Or.inl rfl) pe_dnewT)
   (pss_cons (ps_for PassesOwn.never rfl (pi_list (pe_call g_ways_in (hr.mono (by decide)) rfl m_ways_in F_ways_in.kp b_ways_in .nil pass0 (pa_cons (pvD 4) pa_nil))) (pg_name (i:=7) sc_law.nd rfl (Or.inl rfl))
   (pss_one (ps_for PassesOwn.never rfl (pi_list (pe_call g__law_middles (hr.mono (by decide)) rfl m__law_middles F__law_middles.kp b__law_middles .nil pass0 (pa_cons (pe_ixA (ixTD ix_tup) (pvD 1) pe_int) (pa_cons (pe_op (opD0 op_add) (pvD 2) pe_int) pa_nil)))) (pg_name (i:=8) sc_law.nd rfl (Or.inl rfl))
   (pss_one (ps_for PassesOwn.never rfl (pi_list (pvD 5)) (pg_name (i:=9) sc_law.nd rfl (Or.inl rfl))
   (pss_one (ps_dput (hu_of hr) (pvD 6) (pe_op op_catT2 (pe_op op_catT2 (pvD 7) (pvD 8)) (pvD 9)) pe_bl rfl)))))))
   (pss_cons (ps_for PassesOwn.never rfl (pi_list (pvD 3)) (pg_name (i:=10) sc_law.nd rfl (Or.inl rfl))
   (pss_one (ps_if (pt_cmp (pc_dnotin (hu_of hr) (pvD 10) (pvD 6)))
   (pss_one (ps_ret pe_bl))
   pss_nil)))
   (pss_one (ps_ret (pe_cmpR (opE op_eq) (pe_callB (lenD call_len_seq) (by rfl) T.len PySem.boot_len (pa_cons (pvD 3) pa_nil)) (pe_callB call_len_dictT (by rfl) T.len PySem.boot_len (pa_cons (pvD 6) pa_nil)) (nomark _))))))))))))),?_⟩
  walk_at "rd"
  refine⟨a,ns,rfl,hs,fun h L0 marks ways H1 s1 hh wf=>?_⟩
  obtain⟨L,rfl⟩:∃L:Nat,L0=(L:Int):=⟨L0.toNat,by have:=wf.l1;omega⟩
  have hL1:=wf.l1
  have hL6:=wf.l6
  have wfs:=sWf wf
  have can:=sCan wf
  have hsn:=wfs.n40
  obtain⟨mm,wv,q1,q2,q3⟩:=id hh
  refine⟨a,h,ns,L,marks,ways,rfl,s1.seq hs,hh,wf,fun m H2 hm hmany s2=>?_⟩
  refine⟨h,L,m,marks,ways,rfl,hh.mono s2,wf,hm,hmany,(s1.trans s2) _ _ hT,fun D H3 os s3 hDn hD hos hpm hsrt=>?_⟩
  have hT2:=(s1.trans s2) _ _ hT
  have t3:TSq K H2 H3:=s3.tsq hT2
  have hh3:=House.monoQ (hh.mono s2) t3
  have nd:=hpm.nodup_iff.mpr (ins_nodup (suiteW L marks ways m) [] List.nodup_nil)
  have hst:=srt_strict hsrt nd
  have hWf:WordsT K H3 (S64.wv os) (os.map (·.2)):=wordsT_of hos
  unfold suiteW at hpm
  generalize hsM:sM L marks ways=ms at wfs can hsn hpm
  generalize hsW:sW L marks ways=vs at wfs can hpm
  obtain⟨top,bf⟩:=Bfs.mk wfs
  have fin0:Fin17 ms.length L (bW ms vs) (wcOf ms.length L (bW ms vs)):=Fin17.mk' wfs.n1 hsn
  generalize hst0:wcOf ms.length L (bW ms vs)=st at fin0 hpm
  have hmv:∀v∈midsW (L:Int) m,isW L v=true:=fun v hv=>by
   obtain⟨k',_,rfl⟩:=List.mem_map.mp hv
   exact nth_valid (show (0:Int)<L by omega) k'
  have hord:=can.order
  unfold rOf at hord
  have hway:∀r,r<ms.length->((r:Int),wayW vs r)∈wordsIn vs:=fun r hr=>by
   have:(r:Int)∈(wordsIn vs).map (·.1):=by rw[hord];exact List.mem_map.mpr ⟨r,List.mem_range.mpr hr,rfl⟩
   obtain⟨e,he,e1⟩:=List.mem_map.mp this
   obtain⟨g,w⟩:=e
   have e1:g=(r:Int):=e1
   subst e1
   rw[wayW_of bf.nod he]
   exact he
  have hall:∀w∈allW vs ms.length (midsW (L:Int) m) (fun _=>st.1),isW L w=true:=fun w hw=>by
   unfold allW at hw
   obtain⟨r,hr,hw⟩:=List.mem_flatMap.mp hw
   obtain⟨v,hv,hw⟩:=List.mem_flatMap.mp hw
   unfold oneW at hw
   obtain⟨e,he,rfl⟩:=List.mem_map.mp hw
   have h1:=isW_iff.mp (bf.wd _ (hway r (List.mem_range.mp hr))).1
   have h2:=isW_iff.mp (hmv v hv)
   have h3:=fin0.wc.ok e he
   rw[isW_iff]
   intro x hx
   rcases List.mem_append.mp hx with hx|hx
   ·rcases List.mem_append.mp hx with hx|hx
    ·exact h1 x hx
    ·exact h2 x hx
   ·exact h3 x hx
  refine⟨h,rfl,_,t3 _ _ (s2.seqT q1),_,rfl,D,_,_,L,rfl,hD,hWf,fun w hw=>?_,hst,fun H4 s4=>⟨true,rfl,?_⟩⟩
  ·rcases ins_mem _ _ _ (hpm.mem_iff.mp hw) with hw|hw
   ·cases hw
   ·exact hall w hw
  rw[if_neg (by decide)]
  have hh4:=hh3.mono s4
  refine⟨h,L,marks,ways,rfl,hh4,wf,fun ps H5 s5 hs5=>?_⟩
  rw[hsM,hsW]at hs5
  refine⟨ps,L,ms,vs,rfl,hs5,wfs,fun pe xs H6 s6 hpeN hpe hWe _=>?_⟩
  rw[hst0]at hWe
  intro p hp
  have s7:=Same.new (o:=.dT []) hp
  refine⟨ps,L,ms,vs,rfl,(hs5.mono s6).mono s7,wfs,fun d top' H8 s8 hdn hWS _=>?_⟩
  obtain⟨zs,hd,hzl,hzs⟩:=hWS
  have s68:=s7.trans s8
  have s48:=(s5.trans s6).trans s68
  have hpe8:=s68 _ _ hpe
  have hWe8:=hWe.mono (TK.of s68)
  have hp8:=s8 _ _ (upd_same (H:=H6) (a:=p) (o:=.dT []))
  have hD8:=(s4.trans s48) _ _ hD
  have hWf8:=hWf.mono (TK.of (s4.trans s48))
  have hh8:=hh4.mono s48
  have hpn4:H4 p=none:=Same.none (s5.trans s6) hp
  refine⟨d,rfl,⟨_,SqL.of hd⟩,?_⟩
  have hmL:(midsW (L:Int) m).length<=341:=by
   rw[List.length_map,List.length_range];omega
  have hfw:st.1.length<=40:=by
   have h1:=fin0.wc.le
   have h2:=ncl_le st.2
   rw[fin0.wc.len]at h2
   omega
  have hwl:=wc_len fin0.wc
  have hone:∀(r:Nat) (v:List Int),(oneW vs (fun _=>st.1) r v).length<=40:=fun r v=>by
   unfold oneW
   rw[List.length_map]
   exact hfw
  have hb1:∀r j,(((midsW (L:Int) m).take j).flatMap (oneW vs (fun _=>st.1) r)).length<=13640:=fun r j=>by
   have h1:=flat_len (f:=oneW vs (fun _=>st.1) r) (c:=40) ((midsW (L:Int) m).take j) (fun v _=>hone r v)
   have h2:((midsW (L:Int) m).take j).length<=341:=Nat.le_trans (by rw[List.length_take];omega) hmL
   omega
  have hb2:∀i,i<=ms.length->((List.range i).flatMap fun r=>(midsW (L:Int) m).flatMap (oneW vs (fun _=>st.1) r)).length<=545600:=fun i hi=>by
   have h1:=flat_len (f:=fun r=>(midsW (L:Int) m).flatMap (oneW vs (fun _=>st.1) r)) (c:=13640) (List.range i) (fun r _=>by
    have:=hb1 r (midsW (L:Int) m).length
    rw[List.take_length]at this
    exact this)
   rw[List.length_range]at h1
   have h2:i*13640<=40*13640:=Nat.mul_le_mul_right _ (by omega)
   omega
  have hwt:∀r,r<ms.length->∃t,zs[r]?=some (.ref t)/\H8 t=some (.tup ((wayW vs r).map V.int))/\(wayW vs r).length<=40:=fun r hr=>by
   have hm1:=hway r hr
   rcases hzs r hr with ⟨w,t,a',b',c'⟩|⟨a',_⟩
   ·rw[wayW_of bf.nod a']
    obtain⟨j,hj⟩:=List.mem_iff_getElem?.mp a'
    have h1:=bf.sh j _ hj
    have h2:=(List.getElem?_eq_some_iff.mp hj).1
    have h3:=bf.len
    exact⟨t,b',c',by dsimp only at h1;omega⟩
   ·exact absurd (List.mem_map_of_mem hm1) a'
  have hpd:d≠p:=(none_of_upd hdn).2
  have s48':Same H4 H8:=s48
  obtain⟨Pv,hPv⟩:∃Pv:Nat->St->Hp->Prop,∀i σ' H',Pv i σ' H'↔(∃(kvs:List (List Key×V)) (o7 o8 o9:Option V),Same H6 H'/\TK H8 H'/\H' d=some (.lst zs)/\H' p=some (.dT kvs)/\KeysW (((List.range i).flatMap fun r=>(midsW (L:Int) m).flatMap (oneW vs (fun _=>st.1) r)).foldl ins []) kvs/\σ'=[some (.ref a),some (.ref h),some (.int m),some (.ref D),some (.ref ps),some (.ref pe),some (.ref p),o7,o8,o9,none]):=⟨_,fun _ _ _=>Iff.rfl⟩
  refine forL (xs:=zs) Pv ((hPv _ _ _).mpr ⟨[],none,none,none,s68,TK.refl _,hd,hp8,KeysW.nil,rfl⟩) (fun i σ' H' _ h'=>by obtain⟨_,_,_,_,_,_,q,_⟩:=(hPv _ _ _).mp h';exact SqL.of q) (fun i x σ2 H9 hx h2=>?_) (fun σ2 H9 h2=>?_)
  ·obtain⟨kvs,o7,o8,o9,s9,tk9,hd9,hp9,hk9,rfl⟩:=(hPv _ _ _).mp h2
   have hi:i<ms.length:=by rw[<-hzl];exact (List.getElem?_eq_some_iff.mp hx).1
   obtain⟨t,hxt,ht,hwl1⟩:=hwt i hi
   rw[hx]at hxt
   cases hxt
   walk_at "rd"
   have q19:SqT K H9 h [V.int (L:Int),V.ref mm,V.ref wv]:=s9.seqT ((s5.trans s6).seqT (s4.seqT (t3 _ _ (s2.seqT q1))))
   refine⟨_,q19,_,rfl,L,m+1,by rw[Int.natCast_add];rfl,hL1,hL6,by omega,by show many L (m+2)<=4000;omega,fun pm ys H10 s10 hpmn hpm' hWm=>⟨pm,rfl,⟨_,SqL.of hpm'⟩,?_⟩⟩
   have hWm':WordsT K H10 ys (midsW (L:Int) m):=hWm
   have hppm:pm≠p:=fun z=>by rw[z,hp9]at hpmn;cases hpmn
   obtain⟨Pw,hPw⟩:∃Pv:Nat->St->Hp->Prop,∀j σ' H',Pv j σ' H'↔(∃(kvs:List (List Key×V)) (o8 o9:Option V),Same H6 H'/\TK H10 H'/\H' d=some (.lst zs)/\H' pm=some (.lst ys)/\H' p=some (.dT kvs)/\KeysW ((((List.range i).flatMap fun r=>(midsW (L:Int) m).flatMap (oneW vs (fun _=>st.1) r))++((midsW (L:Int) m).take j).flatMap (oneW vs (fun _=>st.1) i)).foldl ins []) kvs/\σ'=[some (.ref a),some (.ref h),some (.int m),some (.ref D),some (.ref ps),some (.ref pe),some (.ref p),some (.ref t),o8,o9,none]):=⟨_,fun _ _ _=>Iff.rfl⟩
   refine forL (xs:=ys) Pw ((hPw _ _ _).mpr ⟨kvs,o8,o9,s9.trans s10,TK.refl _,s10 _ _ hd9,hpm',s10 _ _ hp9,by rw[List.take_zero,List.flatMap_nil,List.append_nil];exact hk9,rfl⟩) (fun j σ' H' _ h'=>by obtain⟨_,_,_,_,_,_,q,_⟩:=(hPw _ _ _).mp h';exact SqL.of q) (fun j y σ4 H11 hy h4=>?_) (fun σ4 H11 h4=>?_)
   ·obtain⟨kvs,o8,o9,s11,tk11,hd11,hpm11,hp11,hk11,rfl⟩:=(hPw _ _ _).mp h4
    obtain⟨u,v,hvj,rfl,hu⟩:=hWm'.at hy
    have hv4:v.length<=4:=by
     obtain⟨k',hk',rfl⟩:=List.mem_map.mp (List.mem_of_getElem? hvj)
     have hv:=nth_valid (show (0:Int)<L by omega) k'
     have h1:=(length_iff (show (0:Int)<L by omega) hv (m+1)).mpr (by
      rw[place_nth]
      have:=List.mem_range.mp hk'
      show (k':Int)<many L (m+2)
      omega)
     omega
    walk_at "rd"
    refine⟨⟨_,SqL.of (s11 _ _ hpe)⟩,?_⟩
    obtain⟨Px,hPx⟩:∃Pv:Nat->St->Hp->Prop,∀e σ' H',Pv e σ' H'↔(∃(kvs:List (List Key×V)) (o9:Option V),Same H6 H'/\TK H10 H'/\H' d=some (.lst zs)/\H' pm=some (.lst ys)/\H' p=some (.dT kvs)/\KeysW (((((List.range i).flatMap fun r=>(midsW (L:Int) m).flatMap (oneW vs (fun _=>st.1) r))++((midsW (L:Int) m).take j).flatMap (oneW vs (fun _=>st.1) i))++(st.1.take e).map ((wayW vs i++v) ++ ·)).foldl ins []) kvs/\σ'=[some (.ref a),some (.ref h),some (.int m),some (.ref D),some (.ref ps),some (.ref pe),some (.ref p),some (.ref t),some (.ref u),o9,none]):=⟨_,fun _ _ _=>Iff.rfl⟩
    refine forL (xs:=xs) Px ((hPx _ _ _).mpr ⟨kvs,o9,s11,tk11,hd11,hpm11,hp11,by rw[List.take_zero,List.map_nil,List.append_nil];exact hk11,rfl⟩) (fun e σ' H' _ h'=>by obtain⟨_,_,q,_⟩:=(hPx _ _ _).mp h';exact SqL.of (q _ _ hpe)) (fun e y2 σ5 H12 hy2 h5=>?_) (fun σ5 H12 h5=>?_)
    ·obtain⟨kvs,o9,s12,tk12,hd12,hpm12,hp12,hk12,rfl⟩:=(hPx _ _ _).mp h5
     obtain⟨u',v',hv',rfl,hu'⟩:=hWe.at hy2
     have hvl:v'.length<=40:=by
      have h1:=hwl e v' hv'
      have h2:=(List.getElem?_eq_some_iff.mp hv').1
      omega
     have hlen:kvs.length<sizeLine:=by
      rw[hk12.len]
      have h1:=insAll_len ((((List.range i).flatMap fun r=>(midsW (L:Int) m).flatMap (oneW vs (fun _=>st.1) r))++((midsW (L:Int) m).take j).flatMap (oneW vs (fun _=>st.1) i))++(st.1.take e).map ((wayW vs i++v) ++ ·)) []
      rw[List.length_append,List.length_append,List.length_map,List.length_take,List.length_nil]at h1
      have h2:=hb1 i j
      have h3:=hb2 i (by omega)
      omega
     have ht12:=tk12 _ _ (TK.of s10 _ _ (tk9 _ _ ht))
     have hu12:=tk12 _ _ hu
     walk_at "rd"
     refine rCatT2.ofS ht12 hu12 (by simp;omega) fun q H13 s13 hq=>?_
     refine rCatT2.ofS hq (s13 _ _ (s12 _ _ hu')) (by simp;omega) fun q' H14 s14 hq''=>?_
     have s1214:=s13.trans s14
     have hkq:H14 q'=some (.tup ((wkey (wayW vs i++v++v')).map kV)):=by rw[wkey_kV,hq''];simp
     have hp14:=s1214 _ _ hp12
     have kD:TK H14 (upd H14 p (.dT (putK kvs (wkey (wayW vs i++v++v')) (V.bl true)))):=TK.dT hp14
     refine⟨_,DPut.t (k:=wkey (wayW vs i++v++v')) hp14 hkq (by omega),(hPx _ _ _).mpr ⟨_,_,(s12.trans s1214).over hp,(tk12.trans (TK.of s1214)).trans kD,by rw[upd_ne hpd];exact s1214 _ _ hd12,by rw[upd_ne hppm];exact s1214 _ _ hpm12,upd_same,?_,rfl⟩⟩
     rw[List.take_add_one,hv',Option.toList_some,List.map_append,<-List.append_assoc,List.foldl_append]
     exact hk12.put _ _
    ·obtain⟨kvs,o9,s12,tk12,hd12,hpm12,hp12,hk12,rfl⟩:=(hPx _ _ _).mp h5
     rw[hWe.1,List.take_length]at hk12
     refine (hPw _ _ _).mpr ⟨kvs,_,_,s12,tk12,hd12,hpm12,hp12,?_,rfl⟩
     rw[List.take_add_one,hvj,Option.toList_some,List.flatMap_append,<-List.append_assoc]
     have e1:[v].flatMap (oneW vs (fun _=>st.1) i)=st.1.map ((wayW vs i++v) ++ ·):=by simp[oneW]
     rw[e1]
     exact hk12
   ·obtain⟨kvs,o8,o9,s11,tk11,hd11,hpm11,hp11,hk11,rfl⟩:=(hPw _ _ _).mp h4
    have:(midsW (L:Int) m).take ys.length=midsW (L:Int) m:=List.take_of_length_le (by rw[hWm'.1];exact Nat.le_refl _)
    rw[this]at hk11
    refine (hPv _ _ _).mpr ⟨kvs,_,_,_,s11,(tk9.trans (TK.of s10)).trans tk11,hd11,hp11,?_,rfl⟩
    rw[List.range_succ,List.flatMap_append]
    simpa using hk11
  ·obtain⟨kvs,o7,o8,o9,s9,tk9,hd9,hp9,hk9,rfl⟩:=(hPv _ _ _).mp h2
   rw[hzl]at hk9
   have hD9:=s9 _ _ (((s4.trans s5).trans s6) _ _ hD)
   have hWf9:=hWf.mono (TK.of (((s4.trans s5).trans s6).trans s9))
   walk_at "rd"
   refine⟨⟨_,SqL.of hD9⟩,?_⟩
   have hlen:os.length=kvs.length:=by
    have h1:=hpm.length_eq
    rw[List.length_map]at h1
    rw[hk9.len,h1]
    rfl
   refine forL (xs:=S64.wv os) (fun i σ' H'=>H'=H9/\∃o,σ'=[some (.ref a),some (.ref h),some (.int m),some (.ref D),some (.ref ps),some (.ref pe),some (.ref p),o7,o8,o9,o]) ⟨rfl,none,rfl⟩ (fun i σ' H' _ h'=>by obtain⟨rfl,_⟩:=h';exact SqL.of hD9) (fun i x σ' H' hx h'=>?_) (fun σ' H' h'=>?_)
   ·obtain⟨rfl,o,rfl⟩:=h'
    obtain⟨t,w,hwi,rfl,ht⟩:=hWf9.at hx
    have hin:w∈(allW vs ms.length (midsW (L:Int) m) (fun _=>st.1)).foldl ins []:=hpm.mem_iff.mp (List.mem_of_getElem? hwi)
    have hsome:(valV kvs (wkey w)).isSome=true:=by
     rw[hk9.some_iff w]
     exact decide_eq_true hin
    walk_at "rd"
    refine⟨_,DGet.t (k:=wkey w) hp9 (by rw[wkey_kV];exact ht),?_⟩
    rw[if_neg (by simp[hsome])]
    exact⟨_,rfl⟩
   ·obtain⟨rfl,o,rfl⟩:=h'
    walk_at "rd"
    refine⟨_,.inl (SqL.of hD9),kvs,hp9,?_⟩
    rw[decide_eq_true (by simp only[S64.wv,List.length_map];rw[hlen])]
    exact k _
end
theorem all_mk {l:PySem.W.OpenLaw}{w:World}{K:PySem.W.Frag}{h:Heap}{mg:Str->Option Value}{fa f_is_word f_check_word f_next_word f_words_to f_trail f_room_behind f_words_in f_ways_in f_reached f_numbered f_words_and_classes f_tellers f_classes_of f_homes f_least f_in_order f_words_with f_suite f__law_cell_at f__law_mixed f__law_marks_by f__law_ways_by f__law_blown f__law_house_by f__law_more_by f__law_is_word f__law_words f__law_middles f_law:Addr}(X:K.In h)(G:h.Ns mainGlobals mg)(hfa:mg "law"=some (.ref fa))
  {C_AskError C_BadWord:Addr}
  {od_is_word an_is_word:Option Addr} {sl_is_word:Array (Option Value)} {oc_is_word kV_is_word dc_is_word pm_is_word cd_is_word ct_is_word:Value}
  {od_check_word an_check_word:Option Addr} {sl_check_word:Array (Option Value)} {oc_check_word kV_check_word dc_check_word pm_check_word cd_check_word ct_check_word:Value}
  {od_next_word an_next_word:Option Addr} {sl_next_word:Array (Option Value)} {oc_next_word kV_next_word dc_next_word pm_next_word cd_next_word ct_next_word:Value}
  {od_words_to an_words_to:Option Addr} {sl_words_to:Array (Option Value)} {oc_words_to kV_words_to dc_words_to pm_words_to cd_words_to ct_words_to:Value}
  {od_trail an_trail:Option Addr} {sl_trail:Array (Option Value)} {oc_trail kV_trail dc_trail pm_trail cd_trail ct_trail:Value}
  {od_room_behind an_room_behind:Option Addr} {sl_room_behind:Array (Option Value)} {oc_room_behind kV_room_behind dc_room_behind pm_room_behind cd_room_behind ct_room_behind:Value}
  {od_words_in an_words_in:Option Addr} {sl_words_in:Array (Option Value)} {oc_words_in kV_words_in dc_words_in pm_words_in cd_words_in ct_words_in:Value}
  {od_ways_in an_ways_in:Option Addr} {sl_ways_in:Array (Option Value)} {oc_ways_in kV_ways_in dc_ways_in pm_ways_in cd_ways_in ct_ways_in:Value}
  {od_reached an_reached:Option Addr} {sl_reached:Array (Option Value)} {oc_reached kV_reached dc_reached pm_reached cd_reached ct_reached:Value}
  {od_numbered an_numbered:Option Addr} {sl_numbered:Array (Option Value)} {oc_numbered kV_numbered dc_numbered pm_numbered cd_numbered ct_numbered:Value}
  {od_words_and_classes an_words_and_classes:Option Addr} {sl_words_and_classes:Array (Option Value)} {oc_words_and_classes kV_words_and_classes dc_words_and_classes pm_words_and_classes cd_words_and_classes ct_words_and_classes:Value}
  {od_tellers an_tellers:Option Addr} {sl_tellers:Array (Option Value)} {oc_tellers kV_tellers dc_tellers pm_tellers cd_tellers ct_tellers:Value}
  {od_classes_of an_classes_of:Option Addr} {sl_classes_of:Array (Option Value)} {oc_classes_of kV_classes_of dc_classes_of pm_classes_of cd_classes_of ct_classes_of:Value}
  {od_homes an_homes:Option Addr} {sl_homes:Array (Option Value)} {oc_homes kV_homes dc_homes pm_homes cd_homes ct_homes:Value}
  {od_least an_least:Option Addr} {sl_least:Array (Option Value)} {oc_least kV_least dc_least pm_least cd_least ct_least:Value}
  {od_in_order an_in_order:Option Addr} {sl_in_order:Array (Option Value)} {oc_in_order kV_in_order dc_in_order pm_in_order ct_in_order:Value}
  {od_words_with an_words_with:Option Addr} {sl_words_with:Array (Option Value)} {oc_words_with kV_words_with dc_words_with pm_words_with cd_words_with ct_words_with:Value}
  {od_suite an_suite:Option Addr} {sl_suite:Array (Option Value)} {oc_suite kV_suite dc_suite pm_suite cd_suite ct_suite:Value}
  {od__law_cell_at an__law_cell_at:Option Addr} {sl__law_cell_at:Array (Option Value)} {oc__law_cell_at kV__law_cell_at dc__law_cell_at pm__law_cell_at cd__law_cell_at ct__law_cell_at:Value}
  {od__law_mixed an__law_mixed:Option Addr} {sl__law_mixed:Array (Option Value)} {oc__law_mixed kV__law_mixed dc__law_mixed pm__law_mixed cd__law_mixed ct__law_mixed:Value}
  {od__law_marks_by an__law_marks_by:Option Addr} {sl__law_marks_by:Array (Option Value)} {oc__law_marks_by kV__law_marks_by dc__law_marks_by pm__law_marks_by cd__law_marks_by ct__law_marks_by:Value}
  {od__law_ways_by an__law_ways_by:Option Addr} {sl__law_ways_by:Array (Option Value)} {oc__law_ways_by kV__law_ways_by dc__law_ways_by pm__law_ways_by cd__law_ways_by ct__law_ways_by:Value}
  {od__law_blown an__law_blown:Option Addr} {sl__law_blown:Array (Option Value)} {oc__law_blown kV__law_blown dc__law_blown pm__law_blown cd__law_blown ct__law_blown:Value}
  {od__law_house_by an__law_house_by:Option Addr} {sl__law_house_by:Array (Option Value)} {oc__law_house_by kV__law_house_by dc__law_house_by pm__law_house_by cd__law_house_by ct__law_house_by:Value}
  {od__law_more_by an__law_more_by:Option Addr} {sl__law_more_by:Array (Option Value)} {oc__law_more_by kV__law_more_by dc__law_more_by pm__law_more_by cd__law_more_by ct__law_more_by:Value}
  {od__law_is_word an__law_is_word:Option Addr} {sl__law_is_word:Array (Option Value)} {oc__law_is_word kV__law_is_word dc__law_is_word pm__law_is_word cd__law_is_word ct__law_is_word:Value}
  {od__law_words an__law_words:Option Addr} {sl__law_words:Array (Option Value)} {oc__law_words kV__law_words dc__law_words pm__law_words cd__law_words ct__law_words:Value}
  {od__law_middles an__law_middles:Option Addr} {sl__law_middles:Array (Option Value)} {oc__law_middles kV__law_middles dc__law_middles pm__law_middles cd__law_middles ct__law_middles:Value}
  {od_law an_law:Option Addr} {sl_law:Array (Option Value)} {oc_law kV_law dc_law pm_law cd_law ct_law:Value}
  (a_is_word:PySem.W.nsIn K mainGlobals "is_word"=some (some (.ref f_is_word)))
  (l_is_word:K.lookup f_is_word=some ⟨oc_is_word,od_is_word,.func (PySem.W.fnOf "is_word" "is_word" (defArgs s_is_word) (defBody s_is_word) (defScope s_is_word) .none kV_is_word dc_is_word pm_is_word an_is_word cd_is_word ct_is_word),sl_is_word⟩)
  (c_is_word:PySem.W.codeIn K cd_is_word "is_word"=true)
  (k_is_word:PySem.W.keepIn K (.ref f_is_word)=true)
  (a_check_word:PySem.W.nsIn K mainGlobals "check_word"=some (some (.ref f_check_word)))
  (l_check_word:K.lookup f_check_word=some ⟨oc_check_word,od_check_word,.func (PySem.W.fnOf "check_word" "check_word" (defArgs s_check_word) (defBody s_check_word) (defScope s_check_word) .none kV_check_word dc_check_word pm_check_word an_check_word cd_check_word ct_check_word),sl_check_word⟩)
  (c_check_word:PySem.W.codeIn K cd_check_word "check_word"=true)
  (k_check_word:PySem.W.keepIn K (.ref f_check_word)=true)
  (a_next_word:PySem.W.nsIn K mainGlobals "next_word"=some (some (.ref f_next_word)))
  (l_next_word:K.lookup f_next_word=some ⟨oc_next_word,od_next_word,.func (PySem.W.fnOf "next_word" "next_word" (defArgs s_next_word) (defBody s_next_word) (defScope s_next_word) .none kV_next_word dc_next_word pm_next_word an_next_word cd_next_word ct_next_word),sl_next_word⟩)
  (c_next_word:PySem.W.codeIn K cd_next_word "next_word"=true)
  (k_next_word:PySem.W.keepIn K (.ref f_next_word)=true)
  (a_words_to:PySem.W.nsIn K mainGlobals "words_to"=some (some (.ref f_words_to)))
  (l_words_to:K.lookup f_words_to=some ⟨oc_words_to,od_words_to,.func (PySem.W.fnOf "words_to" "words_to" (defArgs s_words_to) (defBody s_words_to) (defScope s_words_to) .none kV_words_to dc_words_to pm_words_to an_words_to cd_words_to ct_words_to),sl_words_to⟩)
  (c_words_to:PySem.W.codeIn K cd_words_to "words_to"=true)
  (k_words_to:PySem.W.keepIn K (.ref f_words_to)=true)
  (a_trail:PySem.W.nsIn K mainGlobals "trail"=some (some (.ref f_trail)))
  (l_trail:K.lookup f_trail=some ⟨oc_trail,od_trail,.func (PySem.W.fnOf "trail" "trail" (defArgs s_trail) (defBody s_trail) (defScope s_trail) .none kV_trail dc_trail pm_trail an_trail cd_trail ct_trail),sl_trail⟩)
  (c_trail:PySem.W.codeIn K cd_trail "trail"=true)
  (k_trail:PySem.W.keepIn K (.ref f_trail)=true)
  (a_room_behind:PySem.W.nsIn K mainGlobals "room_behind"=some (some (.ref f_room_behind)))
  (l_room_behind:K.lookup f_room_behind=some ⟨oc_room_behind,od_room_behind,.func (PySem.W.fnOf "room_behind" "room_behind" (defArgs s_room_behind) (defBody s_room_behind) (defScope s_room_behind) .none kV_room_behind dc_room_behind pm_room_behind an_room_behind cd_room_behind ct_room_behind),sl_room_behind⟩)
  (c_room_behind:PySem.W.codeIn K cd_room_behind "room_behind"=true)
  (k_room_behind:PySem.W.keepIn K (.ref f_room_behind)=true)
  (a_words_in:PySem.W.nsIn K mainGlobals "words_in"=some (some (.ref f_words_in)))
  (l_words_in:K.lookup f_words_in=some ⟨oc_words_in,od_words_in,.func (PySem.W.fnOf "words_in" "words_in" (defArgs s_words_in) (defBody s_words_in) (defScope s_words_in) .none kV_words_in dc_words_in pm_words_in an_words_in cd_words_in ct_words_in),sl_words_in⟩)
  (c_words_in:PySem.W.codeIn K cd_words_in "words_in"=true)
  (k_words_in:PySem.W.keepIn K (.ref f_words_in)=true)
  (a_ways_in:PySem.W.nsIn K mainGlobals "ways_in"=some (some (.ref f_ways_in)))
  (l_ways_in:K.lookup f_ways_in=some ⟨oc_ways_in,od_ways_in,.func (PySem.W.fnOf "ways_in" "ways_in" (defArgs s_ways_in) (defBody s_ways_in) (defScope s_ways_in) .none kV_ways_in dc_ways_in pm_ways_in an_ways_in cd_ways_in ct_ways_in),sl_ways_in⟩)
  (c_ways_in:PySem.W.codeIn K cd_ways_in "ways_in"=true)
  (k_ways_in:PySem.W.keepIn K (.ref f_ways_in)=true)
  (a_reached:PySem.W.nsIn K mainGlobals "reached"=some (some (.ref f_reached)))
  (l_reached:K.lookup f_reached=some ⟨oc_reached,od_reached,.func (PySem.W.fnOf "reached" "reached" (defArgs s_reached) (defBody s_reached) (defScope s_reached) .none kV_reached dc_reached pm_reached an_reached cd_reached ct_reached),sl_reached⟩)
  (c_reached:PySem.W.codeIn K cd_reached "reached"=true)
  (k_reached:PySem.W.keepIn K (.ref f_reached)=true)
  (a_numbered:PySem.W.nsIn K mainGlobals "numbered"=some (some (.ref f_numbered)))
  (l_numbered:K.lookup f_numbered=some ⟨oc_numbered,od_numbered,.func (PySem.W.fnOf "numbered" "numbered" (defArgs s_numbered) (defBody s_numbered) (defScope s_numbered) .none kV_numbered dc_numbered pm_numbered an_numbered cd_numbered ct_numbered),sl_numbered⟩)
  (c_numbered:PySem.W.codeIn K cd_numbered "numbered"=true)
  (k_numbered:PySem.W.keepIn K (.ref f_numbered)=true)
  (a_words_and_classes:PySem.W.nsIn K mainGlobals "words_and_classes"=some (some (.ref f_words_and_classes)))
  (l_words_and_classes:K.lookup f_words_and_classes=some ⟨oc_words_and_classes,od_words_and_classes,.func (PySem.W.fnOf "words_and_classes" "words_and_classes" (defArgs s_words_and_classes) (defBody s_words_and_classes) (defScope s_words_and_classes) .none kV_words_and_classes dc_words_and_classes pm_words_and_classes an_words_and_classes cd_words_and_classes ct_words_and_classes),sl_words_and_classes⟩)
  (c_words_and_classes:PySem.W.codeIn K cd_words_and_classes "words_and_classes"=true)
  (k_words_and_classes:PySem.W.keepIn K (.ref f_words_and_classes)=true)
  (a_tellers:PySem.W.nsIn K mainGlobals "tellers"=some (some (.ref f_tellers)))
  (l_tellers:K.lookup f_tellers=some ⟨oc_tellers,od_tellers,.func (PySem.W.fnOf "tellers" "tellers" (defArgs s_tellers) (defBody s_tellers) (defScope s_tellers) .none kV_tellers dc_tellers pm_tellers an_tellers cd_tellers ct_tellers),sl_tellers⟩)
  (c_tellers:PySem.W.codeIn K cd_tellers "tellers"=true)
  (k_tellers:PySem.W.keepIn K (.ref f_tellers)=true)
  (a_classes_of:PySem.W.nsIn K mainGlobals "classes_of"=some (some (.ref f_classes_of)))
  (l_classes_of:K.lookup f_classes_of=some ⟨oc_classes_of,od_classes_of,.func (PySem.W.fnOf "classes_of" "classes_of" (defArgs s_classes_of) (defBody s_classes_of) (defScope s_classes_of) .none kV_classes_of dc_classes_of pm_classes_of an_classes_of cd_classes_of ct_classes_of),sl_classes_of⟩)
  (c_classes_of:PySem.W.codeIn K cd_classes_of "classes_of"=true)
  (k_classes_of:PySem.W.keepIn K (.ref f_classes_of)=true)
  (a_homes:PySem.W.nsIn K mainGlobals "homes"=some (some (.ref f_homes)))
  (l_homes:K.lookup f_homes=some ⟨oc_homes,od_homes,.func (PySem.W.fnOf "homes" "homes" (defArgs s_homes) (defBody s_homes) (defScope s_homes) .none kV_homes dc_homes pm_homes an_homes cd_homes ct_homes),sl_homes⟩)
  (c_homes:PySem.W.codeIn K cd_homes "homes"=true)
  (k_homes:PySem.W.keepIn K (.ref f_homes)=true)
  (a_least:PySem.W.nsIn K mainGlobals "least"=some (some (.ref f_least)))
  (l_least:K.lookup f_least=some ⟨oc_least,od_least,.func (PySem.W.fnOf "least" "least" (defArgs s_least) (defBody s_least) (defScope s_least) .none kV_least dc_least pm_least an_least cd_least ct_least),sl_least⟩)
  (c_least:PySem.W.codeIn K cd_least "least"=true)
  (k_least:PySem.W.keepIn K (.ref f_least)=true)
  (a_in_order:PySem.W.nsIn K mainGlobals "in_order"=some (some (.ref f_in_order)))
  {cA_in_order:Addr}
  (l_in_order:K.lookup f_in_order=some ⟨oc_in_order,od_in_order,.func (PySem.W.fnOf "in_order" "in_order" (defArgs s_in_order) (defBody s_in_order) (defScope s_in_order) .none kV_in_order dc_in_order pm_in_order an_in_order (.ref cA_in_order) ct_in_order),sl_in_order⟩)
  {PA_in_order:Addr} {oC_in_order:Value} {dC_in_order:Option Addr} {sC_in_order:Array (Option Value)} {vC_in_order:Array Value} (lc_in_order:K.lookup cA_in_order=some ⟨oC_in_order,dC_in_order,.fields vC_in_order,sC_in_order⟩) (hx_in_order:vC_in_order[11]?=some (.ref PA_in_order)) (kt_in_order:K.lookup PA_in_order=none) (ch_in_order:PySem.W.codeHdIn K cA_in_order PA_in_order=true) (tb_in_order:h.get? PA_in_order=some (PySem.W.tabObj #[]))
  (c_in_order:PySem.W.codeIn K (.ref cA_in_order) "in_order"=true)
  (k_in_order:PySem.W.keepIn K (.ref f_in_order)=true)
  (a_words_with:PySem.W.nsIn K mainGlobals "words_with"=some (some (.ref f_words_with)))
  (l_words_with:K.lookup f_words_with=some ⟨oc_words_with,od_words_with,.func (PySem.W.fnOf "words_with" "words_with" (defArgs s_words_with) (defBody s_words_with) (defScope s_words_with) .none kV_words_with dc_words_with pm_words_with an_words_with cd_words_with ct_words_with),sl_words_with⟩)
  (c_words_with:PySem.W.codeIn K cd_words_with "words_with"=true)
  (k_words_with:PySem.W.keepIn K (.ref f_words_with)=true)
  (a_suite:PySem.W.nsIn K mainGlobals "suite"=some (some (.ref f_suite)))
  (l_suite:K.lookup f_suite=some ⟨oc_suite,od_suite,.func (PySem.W.fnOf "suite" "suite" (defArgs s_suite) (defBody s_suite) (defScope s_suite) .none kV_suite dc_suite pm_suite an_suite cd_suite ct_suite),sl_suite⟩)
  (c_suite:PySem.W.codeIn K cd_suite "suite"=true)
  (k_suite:PySem.W.keepIn K (.ref f_suite)=true)
  (a__law_cell_at:PySem.W.nsIn K mainGlobals "_law_cell_at"=some (some (.ref f__law_cell_at)))
  (l__law_cell_at:K.lookup f__law_cell_at=some ⟨oc__law_cell_at,od__law_cell_at,.func (PySem.W.fnOf "_law_cell_at" "_law_cell_at" (defArgs s__law_cell_at) (defBody s__law_cell_at) (defScope s__law_cell_at) .none kV__law_cell_at dc__law_cell_at pm__law_cell_at an__law_cell_at cd__law_cell_at ct__law_cell_at),sl__law_cell_at⟩)
  (c__law_cell_at:PySem.W.codeIn K cd__law_cell_at "_law_cell_at"=true)
  (k__law_cell_at:PySem.W.keepIn K (.ref f__law_cell_at)=true)
  (a__law_mixed:PySem.W.nsIn K mainGlobals "_law_mixed"=some (some (.ref f__law_mixed)))
  (l__law_mixed:K.lookup f__law_mixed=some ⟨oc__law_mixed,od__law_mixed,.func (PySem.W.fnOf "_law_mixed" "_law_mixed" (defArgs s__law_mixed) (defBody s__law_mixed) (defScope s__law_mixed) .none kV__law_mixed dc__law_mixed pm__law_mixed an__law_mixed cd__law_mixed ct__law_mixed),sl__law_mixed⟩)
  (c__law_mixed:PySem.W.codeIn K cd__law_mixed "_law_mixed"=true)
  (k__law_mixed:PySem.W.keepIn K (.ref f__law_mixed)=true)
  (a__law_marks_by:PySem.W.nsIn K mainGlobals "_law_marks_by"=some (some (.ref f__law_marks_by)))
  (l__law_marks_by:K.lookup f__law_marks_by=some ⟨oc__law_marks_by,od__law_marks_by,.func (PySem.W.fnOf "_law_marks_by" "_law_marks_by" (defArgs s__law_marks_by) (defBody s__law_marks_by) (defScope s__law_marks_by) .none kV__law_marks_by dc__law_marks_by pm__law_marks_by an__law_marks_by cd__law_marks_by ct__law_marks_by),sl__law_marks_by⟩)
  (c__law_marks_by:PySem.W.codeIn K cd__law_marks_by "_law_marks_by"=true)
  (k__law_marks_by:PySem.W.keepIn K (.ref f__law_marks_by)=true)
  (a__law_ways_by:PySem.W.nsIn K mainGlobals "_law_ways_by"=some (some (.ref f__law_ways_by)))
  (l__law_ways_by:K.lookup f__law_ways_by=some ⟨oc__law_ways_by,od__law_ways_by,.func (PySem.W.fnOf "_law_ways_by" "_law_ways_by" (defArgs s__law_ways_by) (defBody s__law_ways_by) (defScope s__law_ways_by) .none kV__law_ways_by dc__law_ways_by pm__law_ways_by an__law_ways_by cd__law_ways_by ct__law_ways_by),sl__law_ways_by⟩)
  (c__law_ways_by:PySem.W.codeIn K cd__law_ways_by "_law_ways_by"=true)
  (k__law_ways_by:PySem.W.keepIn K (.ref f__law_ways_by)=true)
  (a__law_blown:PySem.W.nsIn K mainGlobals "_law_blown"=some (some (.ref f__law_blown)))
  (l__law_blown:K.lookup f__law_blown=some ⟨oc__law_blown,od__law_blown,.func (PySem.W.fnOf "_law_blown" "_law_blown" (defArgs s__law_blown) (defBody s__law_blown) (defScope s__law_blown) .none kV__law_blown dc__law_blown pm__law_blown an__law_blown cd__law_blown ct__law_blown),sl__law_blown⟩)
  (c__law_blown:PySem.W.codeIn K cd__law_blown "_law_blown"=true)
  (k__law_blown:PySem.W.keepIn K (.ref f__law_blown)=true)
  (a__law_house_by:PySem.W.nsIn K mainGlobals "_law_house_by"=some (some (.ref f__law_house_by)))
  (l__law_house_by:K.lookup f__law_house_by=some ⟨oc__law_house_by,od__law_house_by,.func (PySem.W.fnOf "_law_house_by" "_law_house_by" (defArgs s__law_house_by) (defBody s__law_house_by) (defScope s__law_house_by) .none kV__law_house_by dc__law_house_by pm__law_house_by an__law_house_by cd__law_house_by ct__law_house_by),sl__law_house_by⟩)
  (c__law_house_by:PySem.W.codeIn K cd__law_house_by "_law_house_by"=true)
  (k__law_house_by:PySem.W.keepIn K (.ref f__law_house_by)=true)
  (a__law_more_by:PySem.W.nsIn K mainGlobals "_law_more_by"=some (some (.ref f__law_more_by)))
  (l__law_more_by:K.lookup f__law_more_by=some ⟨oc__law_more_by,od__law_more_by,.func (PySem.W.fnOf "_law_more_by" "_law_more_by" (defArgs s__law_more_by) (defBody s__law_more_by) (defScope s__law_more_by) .none kV__law_more_by dc__law_more_by pm__law_more_by an__law_more_by cd__law_more_by ct__law_more_by),sl__law_more_by⟩)
  (c__law_more_by:PySem.W.codeIn K cd__law_more_by "_law_more_by"=true)
  (k__law_more_by:PySem.W.keepIn K (.ref f__law_more_by)=true)
  (a__law_is_word:PySem.W.nsIn K mainGlobals "_law_is_word"=some (some (.ref f__law_is_word)))
  (l__law_is_word:K.lookup f__law_is_word=some ⟨oc__law_is_word,od__law_is_word,.func (PySem.W.fnOf "_law_is_word" "_law_is_word" (defArgs s__law_is_word) (defBody s__law_is_word) (defScope s__law_is_word) .none kV__law_is_word dc__law_is_word pm__law_is_word an__law_is_word cd__law_is_word ct__law_is_word),sl__law_is_word⟩)
  (c__law_is_word:PySem.W.codeIn K cd__law_is_word "_law_is_word"=true)
  (k__law_is_word:PySem.W.keepIn K (.ref f__law_is_word)=true)
  (a__law_words:PySem.W.nsIn K mainGlobals "_law_words"=some (some (.ref f__law_words)))
  (l__law_words:K.lookup f__law_words=some ⟨oc__law_words,od__law_words,.func (PySem.W.fnOf "_law_words" "_law_words" (defArgs s__law_words) (defBody s__law_words) (defScope s__law_words) .none kV__law_words dc__law_words pm__law_words an__law_words cd__law_words ct__law_words),sl__law_words⟩)
  (c__law_words:PySem.W.codeIn K cd__law_words "_law_words"=true)
  (k__law_words:PySem.W.keepIn K (.ref f__law_words)=true)
  (a__law_middles:PySem.W.nsIn K mainGlobals "_law_middles"=some (some (.ref f__law_middles)))
  (l__law_middles:K.lookup f__law_middles=some ⟨oc__law_middles,od__law_middles,.func (PySem.W.fnOf "_law_middles" "_law_middles" (defArgs s__law_middles) (defBody s__law_middles) (defScope s__law_middles) .none kV__law_middles dc__law_middles pm__law_middles an__law_middles cd__law_middles ct__law_middles),sl__law_middles⟩)
  (c__law_middles:PySem.W.codeIn K cd__law_middles "_law_middles"=true)
  (k__law_middles:PySem.W.keepIn K (.ref f__law_middles)=true)
  (a_law:PySem.W.nsIn K mainGlobals "law"=some (some (.ref f_law)))
  (l_law:K.lookup f_law=some ⟨oc_law,od_law,.func (PySem.W.fnOf "law" "law" (defArgs s_law) (defBody s_law) (defScope s_law) .none kV_law dc_law pm_law an_law cd_law ct_law),sl_law⟩)
  (c_law:PySem.W.codeIn K cd_law "law"=true)
  (k_law:PySem.W.keepIn K (.ref f_law)=true)
  (z_all:PySem.W.nsIn K mainGlobals "all"=some none)
  (z_bool:PySem.W.nsIn K mainGlobals "bool"=some none)
  (z_enumerate:PySem.W.nsIn K mainGlobals "enumerate"=some none)
  (z_int:PySem.W.nsIn K mainGlobals "int"=some none)
  (z_isinstance:PySem.W.nsIn K mainGlobals "isinstance"=some none)
  (z_len:PySem.W.nsIn K mainGlobals "len"=some none)
  (z_list:PySem.W.nsIn K mainGlobals "list"=some none)
  (z_max:PySem.W.nsIn K mainGlobals "max"=some none)
  (z_min:PySem.W.nsIn K mainGlobals "min"=some none)
  (z_range:PySem.W.nsIn K mainGlobals "range"=some none)
  (z_sorted:PySem.W.nsIn K mainGlobals "sorted"=some none)
  (z_tuple:PySem.W.nsIn K mainGlobals "tuple"=some none)
  (z_zip:PySem.W.nsIn K mainGlobals "zip"=some none)
  (m_AskError:PySem.W.nsIn K mainGlobals "AskError"=some (some (.ref C_AskError)))
  (m_BadWord:PySem.W.nsIn K mainGlobals "BadWord"=some (some (.ref C_BadWord)))
  (x_BadWord:PySem.W.excIn K C_BadWord bmV "ValueError.__new__"=true)
  (ga_BadWord:PySem.W.findIn K (.ref C_BadWord) "__getattribute__"=some (some (.builtin "BaseException.__getattribute__")))
  (hk_BadWord:PySem.W.findIn K (.ref C_BadWord) "__getattr__"=some none)
  {cd_BadWord:ClassData}
  (cl_BadWord:PySem.W.clsIn K C_BadWord=some cd_BadWord)
  (ca_BadWord:PySem.W.findIn K (.ref C_BadWord) "__class__"=some (some (.builtin "object.__class__")))
  (mo_BadWord:PySem.W.mroIn K C_BadWord (.type "object")=some true)
  (mb_BadWord:PySem.W.mroIn K C_BadWord (.type "BaseException")=some true)
  (e_BadWord:PySem.W.exmOne K (.ref C_BadWord) (.ref C_AskError)=some true)
  (v_BadWord:PySem.W.kitOne K (.ref C_BadWord) (.type "ValueError")=some true)
  (k_BadWord_AskError:PySem.W.kitOne K (.ref C_BadWord) (.ref C_AskError)=some true)
  (k_BadWord_BadWord:PySem.W.kitOne K (.ref C_BadWord) (.ref C_BadWord)=some true)
  (gs:PySem.W.specialIn K (.builtin "object.__class__") "__get__"=some (some (.builtin "getset_descriptor.__get__")))
  (tk:PySem.W.takesIn K (.builtin "object.__class__")=some true)
  : ∃(fd:FuncData) (c T:Addr),PySem.W.tabIn K "in_order"=some (c,T)/\K.lookup T=none/\PySem.W.CodeHd h c T/\h.get? T=some (PySem.W.tabObj #[])/\(∀(s:Shared) (v:Value),BindsTo s fd ⟨[v],[]⟩ [("script",v)])/\∀base:Heap,K.In base->base.Ns mainGlobals mg->PySem.W.CodeHd base c T->BmOk mg base->FnOk l.prog w K mg base CX0 7 fa fd ["script"] (spLaw K):=by
 have e:=hfa.symm.trans (PySem.W.mg_of X G a_law)
 cases e
 have T:Txt mg:=⟨PySem.W.mg_none_of X G z_all,PySem.W.mg_none_of X G z_bool,PySem.W.mg_none_of X G z_enumerate,PySem.W.mg_none_of X G z_int,PySem.W.mg_none_of X G z_isinstance,PySem.W.mg_none_of X G z_len,PySem.W.mg_none_of X G z_list,PySem.W.mg_none_of X G z_max,PySem.W.mg_none_of X G z_min,PySem.W.mg_none_of X G z_range,PySem.W.mg_none_of X G z_sorted,PySem.W.mg_none_of X G z_tuple,PySem.W.mg_none_of X G z_zip⟩
 have Z:Exs K mg C_AskError C_BadWord:=⟨PySem.W.mg_of X G m_AskError,PySem.W.mg_of X G m_BadWord,x_BadWord,⟨ga_BadWord,hk_BadWord,by rw[cl_BadWord];rfl,ca_BadWord,gs,tk,mo_BadWord,mb_BadWord⟩,e_BadWord,v_BadWord,k_BadWord_AskError,k_BadWord_BadWord⟩
 have F_is_word:=fun_mk (st:=s_is_word) l_is_word c_is_word k_is_word
 have b_is_word:=F_is_word.binds (ps:=["letters","word"]) fun _ _ _ _ _ _ us hl=>(by obtain⟨y0,y1,rfl⟩:=len2 hl;rfl)
 have m_is_word:=PySem.W.mg_of X G a_is_word
 have F_check_word:=fun_mk (st:=s_check_word) l_check_word c_check_word k_check_word
 have b_check_word:=F_check_word.binds (ps:=["letters","word"]) fun _ _ _ _ _ _ us hl=>(by obtain⟨y0,y1,rfl⟩:=len2 hl;rfl)
 have m_check_word:=PySem.W.mg_of X G a_check_word
 have F_next_word:=fun_mk (st:=s_next_word) l_next_word c_next_word k_next_word
 have b_next_word:=F_next_word.binds (ps:=["letters","word"]) fun _ _ _ _ _ _ us hl=>(by obtain⟨y0,y1,rfl⟩:=len2 hl;rfl)
 have m_next_word:=PySem.W.mg_of X G a_next_word
 have F_words_to:=fun_mk (st:=s_words_to) l_words_to c_words_to k_words_to
 have b_words_to:=F_words_to.binds (ps:=["letters","most"]) fun _ _ _ _ _ _ us hl=>(by obtain⟨y0,y1,rfl⟩:=len2 hl;rfl)
 have m_words_to:=PySem.W.mg_of X G a_words_to
 have F_trail:=fun_mk (st:=s_trail) l_trail c_trail k_trail
 have b_trail:=F_trail.binds (ps:=["house","word"]) fun _ _ _ _ _ _ us hl=>(by obtain⟨y0,y1,rfl⟩:=len2 hl;rfl)
 have m_trail:=PySem.W.mg_of X G a_trail
 have F_room_behind:=fun_mk (st:=s_room_behind) l_room_behind c_room_behind k_room_behind
 have b_room_behind:=F_room_behind.binds (ps:=["house","word"]) fun _ _ _ _ _ _ us hl=>(by obtain⟨y0,y1,rfl⟩:=len2 hl;rfl)
 have m_room_behind:=PySem.W.mg_of X G a_room_behind
 have F_words_in:=fun_mk (st:=s_words_in) l_words_in c_words_in k_words_in
 have b_words_in:=F_words_in.binds (ps:=["house"]) fun _ _ _ _ _ _ us hl=>(by obtain⟨y0,rfl⟩:=len1 hl;rfl)
 have m_words_in:=PySem.W.mg_of X G a_words_in
 have F_ways_in:=fun_mk (st:=s_ways_in) l_ways_in c_ways_in k_ways_in
 have b_ways_in:=F_ways_in.binds (ps:=["house"]) fun _ _ _ _ _ _ us hl=>(by obtain⟨y0,rfl⟩:=len1 hl;rfl)
 have m_ways_in:=PySem.W.mg_of X G a_ways_in
 have F_reached:=fun_mk (st:=s_reached) l_reached c_reached k_reached
 have b_reached:=F_reached.binds (ps:=["house"]) fun _ _ _ _ _ _ us hl=>(by obtain⟨y0,rfl⟩:=len1 hl;rfl)
 have m_reached:=PySem.W.mg_of X G a_reached
 have F_numbered:=fun_mk (st:=s_numbered) l_numbered c_numbered k_numbered
 have b_numbered:=F_numbered.binds (ps:=["row"]) fun _ _ _ _ _ _ us hl=>(by obtain⟨y0,rfl⟩:=len1 hl;rfl)
 have m_numbered:=PySem.W.mg_of X G a_numbered
 have F_words_and_classes:=fun_mk (st:=s_words_and_classes) l_words_and_classes c_words_and_classes k_words_and_classes
 have b_words_and_classes:=F_words_and_classes.binds (ps:=["house"]) fun _ _ _ _ _ _ us hl=>(by obtain⟨y0,rfl⟩:=len1 hl;rfl)
 have m_words_and_classes:=PySem.W.mg_of X G a_words_and_classes
 have F_tellers:=fun_mk (st:=s_tellers) l_tellers c_tellers k_tellers
 have b_tellers:=F_tellers.binds (ps:=["house"]) fun _ _ _ _ _ _ us hl=>(by obtain⟨y0,rfl⟩:=len1 hl;rfl)
 have m_tellers:=PySem.W.mg_of X G a_tellers
 have F_classes_of:=fun_mk (st:=s_classes_of) l_classes_of c_classes_of k_classes_of
 have b_classes_of:=F_classes_of.binds (ps:=["house"]) fun _ _ _ _ _ _ us hl=>(by obtain⟨y0,rfl⟩:=len1 hl;rfl)
 have m_classes_of:=PySem.W.mg_of X G a_classes_of
 have F_homes:=fun_mk (st:=s_homes) l_homes c_homes k_homes
 have b_homes:=F_homes.binds (ps:=["house"]) fun _ _ _ _ _ _ us hl=>(by obtain⟨y0,rfl⟩:=len1 hl;rfl)
 have m_homes:=PySem.W.mg_of X G a_homes
 have F_least:=fun_mk (st:=s_least) l_least c_least k_least
 have b_least:=F_least.binds (ps:=["house"]) fun _ _ _ _ _ _ us hl=>(by obtain⟨y0,rfl⟩:=len1 hl;rfl)
 have m_least:=PySem.W.mg_of X G a_least
 have F_in_order:=fun_mk (st:=s_in_order) l_in_order c_in_order k_in_order
 have b_in_order:=F_in_order.binds (ps:=["words"]) fun _ _ _ _ _ _ us hl=>(by obtain⟨y0,rfl⟩:=len1 hl;rfl)
 have m_in_order:=PySem.W.mg_of X G a_in_order
 have F_words_with:=fun_mk (st:=s_words_with) l_words_with c_words_with k_words_with
 have b_words_with:=F_words_with.binds (ps:=["base","more","ends"]) fun _ _ _ _ _ _ us hl=>(by obtain⟨y0,y1,y2,rfl⟩:=len3 hl;rfl)
 have m_words_with:=PySem.W.mg_of X G a_words_with
 have F_suite:=fun_mk (st:=s_suite) l_suite c_suite k_suite
 have b_suite:=F_suite.binds (ps:=["house","more"]) fun _ _ _ _ _ _ us hl=>(by obtain⟨y0,y1,rfl⟩:=len2 hl;rfl)
 have m_suite:=PySem.W.mg_of X G a_suite
 have F__law_cell_at:=fun_mk (st:=s__law_cell_at) l__law_cell_at c__law_cell_at k__law_cell_at
 have b__law_cell_at:=F__law_cell_at.binds (ps:=["script","k"]) fun _ _ _ _ _ _ us hl=>(by obtain⟨y0,y1,rfl⟩:=len2 hl;rfl)
 have m__law_cell_at:=PySem.W.mg_of X G a__law_cell_at
 have F__law_mixed:=fun_mk (st:=s__law_mixed) l__law_mixed c__law_mixed k__law_mixed
 have b__law_mixed:=F__law_mixed.binds (ps:=["number","k","many"]) fun _ _ _ _ _ _ us hl=>(by obtain⟨y0,y1,y2,rfl⟩:=len3 hl;rfl)
 have m__law_mixed:=PySem.W.mg_of X G a__law_mixed
 have F__law_marks_by:=fun_mk (st:=s__law_marks_by) l__law_marks_by c__law_marks_by k__law_marks_by
 have b__law_marks_by:=F__law_marks_by.binds (ps:=["number","rooms"]) fun _ _ _ _ _ _ us hl=>(by obtain⟨y0,y1,rfl⟩:=len2 hl;rfl)
 have m__law_marks_by:=PySem.W.mg_of X G a__law_marks_by
 have F__law_ways_by:=fun_mk (st:=s__law_ways_by) l__law_ways_by c__law_ways_by k__law_ways_by
 have b__law_ways_by:=F__law_ways_by.binds (ps:=["script","letters","rooms"]) fun _ _ _ _ _ _ us hl=>(by obtain⟨y0,y1,y2,rfl⟩:=len3 hl;rfl)
 have m__law_ways_by:=PySem.W.mg_of X G a__law_ways_by
 have F__law_blown:=fun_mk (st:=s__law_blown) l__law_blown c__law_blown k__law_blown
 have b__law_blown:=F__law_blown.binds (ps:=["house","number","rooms"]) fun _ _ _ _ _ _ us hl=>(by obtain⟨y0,y1,y2,rfl⟩:=len3 hl;rfl)
 have m__law_blown:=PySem.W.mg_of X G a__law_blown
 have F__law_house_by:=fun_mk (st:=s__law_house_by) l__law_house_by c__law_house_by k__law_house_by
 have b__law_house_by:=F__law_house_by.binds (ps:=["script"]) fun _ _ _ _ _ _ us hl=>(by obtain⟨y0,rfl⟩:=len1 hl;rfl)
 have m__law_house_by:=PySem.W.mg_of X G a__law_house_by
 have F__law_more_by:=fun_mk (st:=s__law_more_by) l__law_more_by c__law_more_by k__law_more_by
 have b__law_more_by:=F__law_more_by.binds (ps:=["script","house"]) fun _ _ _ _ _ _ us hl=>(by obtain⟨y0,y1,rfl⟩:=len2 hl;rfl)
 have m__law_more_by:=PySem.W.mg_of X G a__law_more_by
 have F__law_is_word:=fun_mk (st:=s__law_is_word) l__law_is_word c__law_is_word k__law_is_word
 have b__law_is_word:=F__law_is_word.binds (ps:=["found","letters"]) fun _ _ _ _ _ _ us hl=>(by obtain⟨y0,y1,rfl⟩:=len2 hl;rfl)
 have m__law_is_word:=PySem.W.mg_of X G a__law_is_word
 have F__law_words:=fun_mk (st:=s__law_words) l__law_words c__law_words k__law_words
 have b__law_words:=F__law_words.binds (ps:=["found","letters"]) fun _ _ _ _ _ _ us hl=>(by obtain⟨y0,y1,rfl⟩:=len2 hl;rfl)
 have m__law_words:=PySem.W.mg_of X G a__law_words
 have F__law_middles:=fun_mk (st:=s__law_middles) l__law_middles c__law_middles k__law_middles
 have b__law_middles:=F__law_middles.binds (ps:=["letters","many"]) fun _ _ _ _ _ _ us hl=>(by obtain⟨y0,y1,rfl⟩:=len2 hl;rfl)
 have m__law_middles:=PySem.W.mg_of X G a__law_middles
 have F_law:=fun_mk (st:=s_law) l_law c_law k_law
 have b_law:=F_law.binds (ps:=["script"]) fun _ _ _ _ _ _ us hl=>(by obtain⟨y0,rfl⟩:=len1 hl;rfl)
 have m_law:=PySem.W.mg_of X G a_law
 have ti_in_order:=tabIn_mk a_in_order l_in_order rfl lc_in_order hx_in_order
 refine⟨PySem.W.fnOf "law" "law" (defArgs s_law) (defBody s_law) (defScope s_law) .none kV_law dc_law pm_law an_law cd_law ct_law,cA_in_order,PA_in_order,ti_in_order,kt_in_order,PySem.W.codeHd_of_K X ch_in_order,tb_in_order,fun s v=>.of_eq rfl,fun base _ _ hC_ hB_=>?_⟩
 have FL_in_order:=funL_mk (st:=s_in_order) ti_in_order l_in_order c_in_order hC_ hB_
 have g_is_word:=ok_is_word (P:=l.prog) (w:=w) (base:=base) F_is_word T Z
 have g_check_word:=ok_check_word (P:=l.prog) (w:=w) (base:=base) F_check_word T Z g_is_word F_is_word b_is_word m_is_word
 have g_next_word:=ok_next_word (P:=l.prog) (w:=w) (base:=base) F_next_word T Z g_check_word F_check_word b_check_word m_check_word
 have g_words_to:=ok_words_to (P:=l.prog) (w:=w) (base:=base) F_words_to T Z g_next_word F_next_word b_next_word m_next_word
 have g_trail:=ok_trail (P:=l.prog) (w:=w) (base:=base) F_trail T Z g_check_word F_check_word b_check_word m_check_word
 have g_room_behind:=ok_room_behind (P:=l.prog) (w:=w) (base:=base) F_room_behind T Z g_trail F_trail b_trail m_trail
 have g_words_in:=ok_words_in (P:=l.prog) (w:=w) (base:=base) F_words_in T Z
 have g_ways_in:=ok_ways_in (P:=l.prog) (w:=w) (base:=base) F_ways_in T Z g_words_in F_words_in b_words_in m_words_in
 have g_reached:=ok_reached (P:=l.prog) (w:=w) (base:=base) F_reached T Z g_words_in F_words_in b_words_in m_words_in
 have g_numbered:=ok_numbered (P:=l.prog) (w:=w) (base:=base) F_numbered T Z
 have g_words_and_classes:=ok_words_and_classes (P:=l.prog) (w:=w) (base:=base) F_words_and_classes T Z g_numbered F_numbered b_numbered m_numbered
 have g_tellers:=ok_tellers (P:=l.prog) (w:=w) (base:=base) F_tellers T Z g_words_and_classes F_words_and_classes b_words_and_classes m_words_and_classes
 have g_classes_of:=ok_classes_of (P:=l.prog) (w:=w) (base:=base) F_classes_of T Z g_words_and_classes F_words_and_classes b_words_and_classes m_words_and_classes
 have g_homes:=ok_homes (P:=l.prog) (w:=w) (base:=base) F_homes T Z g_reached F_reached b_reached m_reached g_classes_of F_classes_of b_classes_of m_classes_of
 have g_least:=ok_least (P:=l.prog) (w:=w) (base:=base) F_least T Z g_reached F_reached b_reached m_reached g_homes F_homes b_homes m_homes
 have g_in_order:=ok_in_order (P:=l.prog) (w:=w) (base:=base) FL_in_order T Z
 have g_words_with:=ok_words_with (P:=l.prog) (w:=w) (base:=base) F_words_with T Z g_words_to F_words_to b_words_to m_words_to g_room_behind F_room_behind b_room_behind m_room_behind g_ways_in F_ways_in b_ways_in m_ways_in g_in_order F_in_order b_in_order m_in_order
 have g_suite:=ok_suite (P:=l.prog) (w:=w) (base:=base) F_suite T Z g_tellers F_tellers b_tellers m_tellers g_least F_least b_least m_least g_words_with F_words_with b_words_with m_words_with
 have g__law_cell_at:=ok__law_cell_at (P:=l.prog) (w:=w) (base:=base) F__law_cell_at T Z
 have g__law_mixed:=ok__law_mixed (P:=l.prog) (w:=w) (base:=base) F__law_mixed T Z
 have g__law_marks_by:=ok__law_marks_by (P:=l.prog) (w:=w) (base:=base) F__law_marks_by T Z g__law_mixed F__law_mixed b__law_mixed m__law_mixed
 have g__law_ways_by:=ok__law_ways_by (P:=l.prog) (w:=w) (base:=base) F__law_ways_by T Z g__law_cell_at F__law_cell_at b__law_cell_at m__law_cell_at g__law_mixed F__law_mixed b__law_mixed m__law_mixed
 have g__law_blown:=ok__law_blown (P:=l.prog) (w:=w) (base:=base) F__law_blown T Z g__law_mixed F__law_mixed b__law_mixed m__law_mixed
 have g__law_house_by:=ok__law_house_by (P:=l.prog) (w:=w) (base:=base) F__law_house_by T Z g__law_cell_at F__law_cell_at b__law_cell_at m__law_cell_at g__law_marks_by F__law_marks_by b__law_marks_by m__law_marks_by g__law_ways_by F__law_ways_by b__law_ways_by m__law_ways_by g__law_blown F__law_blown b__law_blown m__law_blown
 have g__law_more_by:=ok__law_more_by (P:=l.prog) (w:=w) (base:=base) F__law_more_by T Z g__law_cell_at F__law_cell_at b__law_cell_at m__law_cell_at
 have g__law_is_word:=ok__law_is_word (P:=l.prog) (w:=w) (base:=base) F__law_is_word T Z
 have g__law_words:=ok__law_words (P:=l.prog) (w:=w) (base:=base) F__law_words T Z g__law_is_word F__law_is_word b__law_is_word m__law_is_word
 have g__law_middles:=ok__law_middles (P:=l.prog) (w:=w) (base:=base) F__law_middles T Z
 have g_law:=ok_law (P:=l.prog) (w:=w) (base:=base) F_law T Z g_ways_in F_ways_in b_ways_in m_ways_in g_tellers F_tellers b_tellers m_tellers g_least F_least b_least m_least g_suite F_suite b_suite m_suite g__law_house_by F__law_house_by b__law_house_by m__law_house_by g__law_more_by F__law_more_by b__law_more_by m__law_more_by g__law_words F__law_words b__law_words m__law_words g__law_middles F__law_middles b__law_middles m__law_middles
 exact g_law
theorem walk {l:PySem.W.OpenLaw}{q:Program}{loose:List Str}{XP:(Str->Option Value)->Heap->Prop}{YP:World->Heap->Prop}{d:DefRec}{K:Params->PySem.W.Frag}(hn:l.most=some 63)(hdf:d.params.defaults=[])
  (hY:∀(w:World) (h:Heap),YP w h->(K w.params).In h)
  (F:∀(w:World) (mg:Str->Option Value) (fa:Addr) (h:Heap),YP w h->(K w.params).In h->h.Ns mainGlobals mg->mg d.name=some (.ref fa) ->
   ∃(fd:FuncData) (c T:Addr),PySem.W.tabIn (K w.params) "in_order"=some (c,T)/\(K w.params).lookup T=none/\PySem.W.CodeHd h c T/\h.get? T=some (PySem.W.tabObj #[])/\(∀(s:Shared) (u:Value),BindsTo s fd ⟨[u],[]⟩ [("script",u)])/\∀base:Heap,(K w.params).In base->base.Ns mainGlobals mg->PySem.W.CodeHd base c T->BmOk mg base->FnOk l.prog w (K w.params) mg base CX0 7 fa fd ["script"] (spLaw (K w.params))):
  PySem.W.WalkO q loose XP YP l.row.toRowW d [] (fun f vs=>PySem.call f vs):=
 L2.walk_ofT (xT := "in_order") (n:=63) (k:=7) (x := "script") (CX:=fun _=>CX0) (sp:=fun w=>spLaw (K w.params)) hn (by decide) hdf ⟨rfl,by decide,by decide⟩ hY F (fun _ _ a _ _ ns hl ti hT hS=>⟨a,ns,rfl,hS,hl,by rw[tabP_of ti];exact hT,fun _=>rfl⟩) fun _ _ _ _ _ z=>z
end Mine
structure PySem.W.Fast:Prop where (tw16100869269931859206 tw577066411140435767 tw3945777466792040795 tw15669068038270861264 tw16762593376497129548 tw12354390962793663958 tw5959232960496331412 tw8115774647658327285 tw552944245394158083 tw12300644942501577637 tw5679853859693723337 tw13581850950465123738 tw13820502087627188937 tw1544226826591882402 tw14625508045751084075 tw2383044241879077504 tw7940689173512004523 tw13174814815931307405 tw9674931127826906889 tw10079997403802981858 tw14379016388710083350 tw18347589633757521517 tw12974526494320984859 tw12946851135234154103 tw9987666158521598597 tw10426421949293306396 tw4955175212925550029 tw1192787983769977468 tw7541016410816688925 tw16717681946294437569 tw7735420184262096527 tw6399759645754055530 tw7871441147404079143 tw6214957543734316801 tw9912257709551440631 tw11205882798386368397 tw18442036501554569727 tw12115008448166276852 tw2716184605849937295 tw17618999333901486738 tw18371630877046593420 tw13408381941699537858 tw4001292337571105498 tw5198639510509874532 tw14150348131129463274 tw2525748160992454259 tw4856168650199938820 tw2818628973491230839 tw3731614840796893646 tw12194000916075113058 tw1412299821293747878 tw9156845142300518694 tw14601004584734058282 tw6296521630331769796 tw11853059178250148702 tw12271667162135531902 tw15354602858750666828 tw1540094208692015671 tw8286029169731456678 tw5443357150870284463 tw15339344878809547882 tw5765500513520695160 tw2825289900924092255 tw4413040551827148131 tw1919128610113640846 tw12712011485215323795 tw6008724764231081883 tw15876013655975771397 tw10285950769540001433 tw14503040936178765494 tw9414946164536300252 tw202117510295974939 tw3256961288256478529 tw2746979759541281517 tw10131619793124165219 tw12427420531325850822 tw7356029093338244336 tw18263324459635428425 tw13309805255205932350 tw2218906795156886151 tw4987455005450920655 tw10781442348561380502 tw4114634006084654365 tw13054820718632467356 tw4653355778343451828 tw10505158402741914765 tw14236623505182545656 tw4148577450167819356 tw12670708284166972692 tw15411221030470602052 tw4584536102555195304 tw6423368670334186909 tw16907228307600630426 tw14321121191157501683 tw7915630094604674183 tw5633478693795781359 tw17959294219298956091 tw1538724246985932097 tw13173579161075454816 tw4211857967501570657 tw1987542472537557184 tw6853592518055933969 tw10272139433818976353 tw13811980961389825925 tw6696991072383620810 tw9218721572074083365 tw18087976743069562639 tw8923692245254719993 tw6876431018198254948 tw11556142517488284569 tw3844901081401621951 tw16502330449380486376 tw12743558069835155593 tw12135362645699673423 tw9298282583742961297 tw2992537040508545511 tw17212234945336243396 tw14806467589186770937 tw437904875527766208 tw4766901611449681195 tw8024791172121044840 tw16257563077804975521 tw1555312775260564435 tw25274747627594860 tw595928685189073872 tw14653137865220667437 tw8966878057134720494 tw2318951077374781618 tw5217187181230663850 tw5838156470770865960 tw1019844772653029924 tw182361261101966902 tw13543913624918273882 tw16447597029234035742 tw8621864845646145421 tw1231510720303525758 tw18129875868312994279 tw3500578546393820860 tw3259970581560160244 tw1893234330065007914 tw18240894643347921873 tw10298539179860187019 tw6149023483721061471 tw10380780243434069295 tw12611475658108285888 tw14383746720950098963 tw11566214034980666228 tw4259949315225799567 tw14832784555122289126 tw5020565885350823211 tw16960916771372060106 tw14516820174191456240 tw6485989047919941380 tw8929218662684154569 tw2676937290011894213 tw10003324423960536643 tw171955417735392306 tw5752331740986463684 tw4087623114892020585 tw16896645833846112546 tw15171679164772595892 tw12554074776565285794 tw15645865004813033533 tw8929585303900071091 tw1236432484755383301 tw17782988700168410837 tw12750222675497175802 tw10206360441945400599 tw632200017235152868 tw6556329574276615664 tw11428564337653413036 tw7779587731712066395 tw5394168546832312026 tw7004945144709622988 tw11151358127043574905 tw11144066773623704762 tw10995103255786491974 tw11641148316196121084 tw7502858483770726383 tw16572338750066908804 tw15108126521918788016 tw6222721545673978745 tw14129974685941088909 tw252494970985640917 tw15674447407518887012 tw2243376027767334427 tw11033173049012640426 tw8270005850639772592 tw3458593846946197264 tw1327318872167841591 tw5560161596583840900 tw10520926417510209821 tw7161187900123057987 tw12252282334858656402 tw10781623766684050623 tw14604190654357010621 tw5599204793806567352 tw7431562164210833670 tw17828427881596182129 tw3058948313070335913 tw12812039254780838989 tw13093367374780347538 tw11231463114632404181 tw9168042573073481452 tw17655454143154334123 tw14284471894287631549 tw8747510440414488407 tw17900999205260686110 tw13354247114303099863 tw14828754835929664783 tw11342021182050554665 tw18033998377649348039 tw15945916952827817404 tw2423010676071011301 tw2541521214173546771 tw3438258063753565879 tw17173595620238205510 tw9882026422839983355 tw13836995769831242732 tw13005805346718849466 tw4388004864888058982 tw1905346629749565409 tw11060522922077564687 tw10677274769038499710 tw6852647711160568720 tw13533801364783441464 tw12531916045802988925 tw3524542404011113372 tw17187035613290789233 tw12870717470399985465 tw339317406433805707 tw16733312964865239978 tw8976167435019726993 tw7627055680006679436 tw9266307230543862925 tw6921966590667837402 tw1353734188550117167 tw16184133390089626825 tw7816272471454249793 tw17823388484814207972 tw13658889802520010067 tw2937370524691569405:True)
open PySem PySem.W PyProof.Rows
set_option maxRecDepth 100000 in
set_option maxHeartbeats 0 in
theorem PySem.Challenge.cw_guessroom_k22_suite_words_holds : PySem.Challenge.rw_guessroom_k22_suite_words.Holds := by
  w_on; o_law; k_head; (case hw => w_witness2)
  k_fill
  refine Mine.walk (l := PySem.Challenge.rw_guessroom_k22_suite_words) rfl rfl (fun w h Y => PySem.W.km_in_of Y) ?F
  case F =>
    intro w mg fa h Y KX G hmg
    refine' Mine.all_mk KX G hmg ?a_is_word ?l_is_word ?c_is_word ?k_is_word ?a_check_word ?l_check_word ?c_check_word ?k_check_word ?a_next_word ?l_next_word ?c_next_word ?k_next_word ?a_words_to ?l_words_to ?c_words_to ?k_words_to ?a_trail ?l_trail ?c_trail ?k_trail ?a_room_behind ?l_room_behind ?c_room_behind ?k_room_behind ?a_words_in ?l_words_in ?c_words_in ?k_words_in ?a_ways_in ?l_ways_in ?c_ways_in ?k_ways_in ?a_reached ?l_reached ?c_reached ?k_reached ?a_numbered ?l_numbered ?c_numbered ?k_numbered ?a_words_and_classes ?l_words_and_classes ?c_words_and_classes ?k_words_and_classes ?a_tellers ?l_tellers ?c_tellers ?k_tellers ?a_classes_of ?l_classes_of ?c_classes_of ?k_classes_of ?a_homes ?l_homes ?c_homes ?k_homes ?a_least ?l_least ?c_least ?k_least ?a_in_order ?l_in_order ?lc_in_order ?hx_in_order ?kt_in_order ?ch_in_order ?tb_in_order ?c_in_order ?k_in_order ?a_words_with ?l_words_with ?c_words_with ?k_words_with ?a_suite ?l_suite ?c_suite ?k_suite ?a__law_cell_at ?l__law_cell_at ?c__law_cell_at ?k__law_cell_at ?a__law_mixed ?l__law_mixed ?c__law_mixed ?k__law_mixed ?a__law_marks_by ?l__law_marks_by ?c__law_marks_by ?k__law_marks_by ?a__law_ways_by ?l__law_ways_by ?c__law_ways_by ?k__law_ways_by ?a__law_blown ?l__law_blown ?c__law_blown ?k__law_blown ?a__law_house_by ?l__law_house_by ?c__law_house_by ?k__law_house_by ?a__law_more_by ?l__law_more_by ?c__law_more_by ?k__law_more_by ?a__law_is_word ?l__law_is_word ?c__law_is_word ?k__law_is_word ?a__law_words ?l__law_words ?c__law_words ?k__law_words ?a__law_middles ?l__law_middles ?c__law_middles ?k__law_middles ?a_law ?l_law ?c_law ?k_law ?z_all ?z_bool ?z_enumerate ?z_int ?z_isinstance ?z_len ?z_list ?z_max ?z_min ?z_range ?z_sorted ?z_tuple ?z_zip ?m_AskError ?m_BadWord ?x_BadWord ?ga_BadWord ?hk_BadWord ?cl_BadWord ?ca_BadWord ?mo_BadWord ?mb_BadWord ?e_BadWord ?v_BadWord ?k_BadWord_AskError ?k_BadWord_BadWord ?gs ?tk
    (case a_is_word => k_is)
    (case l_is_word => k_is)
    (case c_is_word => k_is)
    (case k_is_word => k_is)
    (case a_check_word => k_is)
    (case l_check_word => k_is)
    (case c_check_word => k_is)
    (case k_check_word => k_is)
    (case a_next_word => k_is)
    (case l_next_word => k_is)
    (case c_next_word => k_is)
    (case k_next_word => k_is)
    (case a_words_to => k_is)
    (case l_words_to => k_is)
    (case c_words_to => k_is)
    (case k_words_to => k_is)
    (case a_trail => k_is)
    (case l_trail => k_is)
    (case c_trail => k_is)
    (case k_trail => k_is)
    (case a_room_behind => k_is)
    (case l_room_behind => k_is)
    (case c_room_behind => k_is)
    (case k_room_behind => k_is)
    (case a_words_in => k_is)
    (case l_words_in => k_is)
    (case c_words_in => k_is)
    (case k_words_in => k_is)
    (case a_ways_in => k_is)
    (case l_ways_in => k_is)
    (case c_ways_in => k_is)
    (case k_ways_in => k_is)
    (case a_reached => k_is)
    (case l_reached => k_is)
    (case c_reached => k_is)
    (case k_reached => k_is)
    (case a_numbered => k_is)
    (case l_numbered => k_is)
    (case c_numbered => k_is)
    (case k_numbered => k_is)
    (case a_words_and_classes => k_is)
    (case l_words_and_classes => k_is)
    (case c_words_and_classes => k_is)
    (case k_words_and_classes => k_is)
    (case a_tellers => k_is)
    (case l_tellers => k_is)
    (case c_tellers => k_is)
    (case k_tellers => k_is)
    (case a_classes_of => k_is)
    (case l_classes_of => k_is)
    (case c_classes_of => k_is)
    (case k_classes_of => k_is)
    (case a_homes => k_is)
    (case l_homes => k_is)
    (case c_homes => k_is)
    (case k_homes => k_is)
    (case a_least => k_is)
    (case l_least => k_is)
    (case c_least => k_is)
    (case k_least => k_is)
    (case a_in_order => k_is)
    (case l_in_order => k_is)
    (case lc_in_order => k_is)
    (case hx_in_order => exact rfl)
    (case kt_in_order => first | k_is | kernel_rfl | exact rfl)
    (case ch_in_order => first | k_is | kernel_rfl)
    (case tb_in_order => exact PySem.W.km_tabs_of Y _ (.head _))
    (case c_in_order => k_is)
    (case k_in_order => k_is)
    (case a_words_with => k_is)
    (case l_words_with => k_is)
    (case c_words_with => k_is)
    (case k_words_with => k_is)
    (case a_suite => k_is)
    (case l_suite => k_is)
    (case c_suite => k_is)
    (case k_suite => k_is)
    (case a__law_cell_at => k_is)
    (case l__law_cell_at => k_is)
    (case c__law_cell_at => k_is)
    (case k__law_cell_at => k_is)
    (case a__law_mixed => k_is)
    (case l__law_mixed => k_is)
    (case c__law_mixed => k_is)
    (case k__law_mixed => k_is)
    (case a__law_marks_by => k_is)
    (case l__law_marks_by => k_is)
    (case c__law_marks_by => k_is)
    (case k__law_marks_by => k_is)
    (case a__law_ways_by => k_is)
    (case l__law_ways_by => k_is)
    (case c__law_ways_by => k_is)
    (case k__law_ways_by => k_is)
    (case a__law_blown => k_is)
    (case l__law_blown => k_is)
    (case c__law_blown => k_is)
    (case k__law_blown => k_is)
    (case a__law_house_by => k_is)
    (case l__law_house_by => k_is)
    (case c__law_house_by => k_is)
    (case k__law_house_by => k_is)
    (case a__law_more_by => k_is)
    (case l__law_more_by => k_is)
    (case c__law_more_by => k_is)
    (case k__law_more_by => k_is)
    (case a__law_is_word => k_is)
    (case l__law_is_word => k_is)
    (case c__law_is_word => k_is)
    (case k__law_is_word => k_is)
    (case a__law_words => k_is)
    (case l__law_words => k_is)
    (case c__law_words => k_is)
    (case k__law_words => k_is)
    (case a__law_middles => k_is)
    (case l__law_middles => k_is)
    (case c__law_middles => k_is)
    (case k__law_middles => k_is)
    (case a_law => k_is)
    (case l_law => k_is)
    (case c_law => k_is)
    (case k_law => k_is)
    (case z_all => k_is)
    (case z_bool => k_is)
    (case z_enumerate => k_is)
    (case z_int => k_is)
    (case z_isinstance => k_is)
    (case z_len => k_is)
    (case z_list => k_is)
    (case z_max => k_is)
    (case z_min => k_is)
    (case z_range => k_is)
    (case z_sorted => k_is)
    (case z_tuple => k_is)
    (case z_zip => k_is)
    (case m_AskError => k_is)
    (case m_BadWord => k_is)
    (case x_BadWord => k_exc)
    (case ga_BadWord => k_is)
    (case hk_BadWord => k_is)
    (case cl_BadWord => k_is)
    (case ca_BadWord => k_is)
    (case mo_BadWord => k_is)
    (case mb_BadWord => k_is)
    (case e_BadWord => kts_exm)
    (case v_BadWord => kit_is)
    (case k_BadWord_AskError => kit_is)
    (case k_BadWord_BadWord => kit_is)
    (case gs => k_is)
    (case tk => k_is)
