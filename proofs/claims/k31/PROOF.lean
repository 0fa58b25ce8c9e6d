import PyProof.Rows.All
import Wide.All
import OpenK.AllK
import Wide.FinOn
import Lean
import PyProof.EqAt
import PyProof.EqKinds
import PyProof.TupleCall
import KE.KRevIter
import PyProof.ListRange
import PyProof.TupleOfGen
import PyProof.Draws
import PyProof.EnumMake
import PyProof.EnumFor
import PyProof.NeKinds
import KE.KDictList
import PyProof.Rows.TupDisplay
import PyProof.ZipIter
import PyProof.Rows.ZipGen
import KE.KItemsList
import PyProof.Rows.SumAny
import PyProof.StrWalks
import PyProof.StrCalls
import PyProof.StrCalls3
import PyProof.StrLawsFirst
import PyProof.StrLawsIn
import PyProof.SliceStr2
import PyProof.StrBlockI
import PyProof.Rows.StrWeight2
import PyProof.ListNew
import PyProof.DictRoadsH
import PyProof.WalkInts
import PyProof.Rows.MinMaxN
import KE.KDictLaws
import PyProof.StrCalls2
import PyProof.StrLawsChain
import KE.KIntText
import KE.KxText
import KE.KMinKey
import KE.KPairComp
import PyProof.MaxThree
import PyProof.DictValues
import OpenK.KCls
import PyProof.Rows.SortShellK
import KE.KSortTup
import KE.KLam
import KE.KNestM
import PySem.Challenge.RW_guessroom_k31_suites_of_alike_houses
set_option compiler.extract_closed false
local macro_rules | `(s!$_) => `(by lia)
set_option Elab.async false
set_option linter.all false
set_option maxRecDepth 100000
namespace L2
open PySem PySem.Spec PyProof.Rows
noncomputable abbrev Key:=Sum Int Str
noncomputable def Qz:Key->Value->Bool
 |.inl k,v=>Value.isInt k v
 |.inr x,v=>Value.isStrOf x v
noncomputable def keyH (w:World):Key->Int
 |.inl k=>hashInt k
 |.inr x=>hashStr w x
theorem BG:∀{k:Key} {v:Value},Qz k v=true->(∃i t,k=Sum.inl i/\v=Value.int i t)\/(∃x t,k=Sum.inr x/\v=Value.str x t)
 |.inl i,v,h=>by
  obtain⟨t,e⟩:=Value.isInt_shape (k:=i) (v:=v) h
  exact .inl ⟨i,t,rfl,e⟩
 |.inr x,v,h=>by
  obtain⟨t,e⟩:=Value.isStrOf_shape (x:=x) (v:=v) h
  exact .inr ⟨x,t,rfl,e⟩
theorem UD (i:Int)(t:Tok):Qz (.inl i) (.int i t)=true:=by simp[Qz,Value.isInt]
theorem UE (x:Str)(t:Tok):Qz (.inr x) (.str x t)=true:=by simp[Qz,Value.isStrOf]
theorem AC_ (a b:Int):decide ((Sum.inl a:Key)=Sum.inl b)=(a==b):=by
 by_cases e:a=b
 ·subst e;simp
 ·have h:¬ (Sum.inl a:Key)=Sum.inl b:=fun q=>e (Sum.inl.inj q)
  rw[decide_eq_false h]
  exact (beq_eq_false_iff_ne.mpr e).symm
theorem AD_ (a b:Str):decide ((Sum.inr a:Key)=Sum.inr b)=decide (a=b):=by
 by_cases e:a=b
 ·subst e;simp
 ·have h:¬ (Sum.inr a:Key)=Sum.inr b:=fun q=>e (Sum.inr.inj q)
  rw[decide_eq_false h,decide_eq_false e]
theorem AE_ (a:Int)(b:Str):decide ((Sum.inl a:Key)=Sum.inr b)=false:=decide_eq_false (fun q=>nomatch q)
theorem AF_ (a:Str)(b:Int):decide ((Sum.inr a:Key)=Sum.inl b)=false:=decide_eq_false (fun q=>nomatch q)
noncomputable def BM (prog:Program)(w:World):PySem.KeyKind prog w Key where
 is:=Qz
 hash:=keyH w
 inj:=fun v a b ha hb=>by
  rcases BG ha with ⟨i,t,rfl,rfl⟩|⟨x,t,rfl,rfl⟩
  ·rcases BG hb with ⟨j,u,rfl,e⟩|⟨y,u,rfl,e⟩
   ·injection e with e1 _;rw[e1]
   ·exact nomatch e
  ·rcases BG hb with ⟨j,u,rfl,e⟩|⟨y,u,rfl,e⟩
   ·exact nomatch e
   ·injection e with e1 _;rw[e1]
 byValue:=fun k v h=>by
  rcases BG h with ⟨i,t,rfl,rfl⟩|⟨x,t,rfl,rfl⟩<;>rfl
 pyHash:=fun hv h=>by
  rcases BG hv with ⟨i,t,rfl,rfl⟩|⟨x,t,rfl,rfl⟩
  ·exact wpAny_pyHash_int h
  ·exact wpAny_pyHash_str h
 eqBool:=fun hu hv h=>by
  rcases BG hu with ⟨i,t,rfl,rfl⟩|⟨x,t,rfl,rfl⟩
  ·rcases BG hv with ⟨j,u,rfl,rfl⟩|⟨y,u,rfl,rfl⟩
   ·rw[AC_]at h;exact wpAny_eqBool_int h
   ·rw[AE_]at h;exact SeqAt.EqAt.int_str i t y u _ _ _ _ h
  ·rcases BG hv with ⟨j,u,rfl,rfl⟩|⟨y,u,rfl,rfl⟩
   ·rw[AF_]at h;exact SeqAt.EqAt.str_int x t j u _ _ _ _ h
   ·rw[AD_]at h;exact wpAny_eqBool_str h
 «strs» := fun k x t v h=>by
  rcases BG h with ⟨i,u,rfl,e⟩|⟨y,u,rfl,e⟩
  ·exact nomatch e
  ·injection e with e1 _
   subst e1
   cases v<;>rfl
theorem QA (prog:Program)(w:World)(i:Int)(t:Tok):(BM prog w).is (.inl i) (.int i t)=true:=UD i t
theorem QB (prog:Program)(w:World)(x:Str)(t:Tok):(BM prog w).is (.inr x) (.str x t)=true:=UE x t
inductive V where
 | non|bl (b:Bool)|int (i:Int)|str (x:Str)|byt (b:Array UInt8)|flt (b:UInt64)|ref (a:Addr)|ty (n:String)
 deriving DecidableEq
noncomputable def RelV:V->Value->Prop
 |.non,u=>u=Value.none
 |.bl b,u=>u=Value.bool b
 |.int i,u=>∃t,u=Value.int i t
 |.str x,u=>∃t,u=Value.str x t
 |.byt b,u=>∃t,u=Value.bytes b t
 |.flt b,u=>∃t,u=Value.float b t
 |.ref a,u=>u=Value.ref a
 |.ty n,u=>u=Value.type n
noncomputable abbrev Vals:List V->List Value->Prop:=Paired RelV
theorem Vals.length   (r:Vals xs us):xs.length=us.length:=Paired.length r
theorem Vals.get:∀{xs:List V} {us:List Value} {i:Nat} {x:V},Vals xs us->xs[i]?=some x->∃u,us[i]?=some u/\RelV x u
 |_,_,_,_,.nil,e=>by simp at e
 |_,_,0,_,.cons r _,e=>by simp at e;subst e;exact⟨_,rfl,r⟩
 |_,_,i+1,x,.cons _ t,e=>by
  obtain⟨u,h1,h2⟩:=Vals.get (i:=i) (x:=x) t (by simpa using e)
  exact⟨u,by simpa using h1,h2⟩
theorem Vals.set {x:V}{u:Value}(r:RelV x u):∀{xs:List V} {us:List Value} (i:Nat),Vals xs us->Vals (xs.set i x) (us.set i u)
 |_,_,_,.nil=>.nil
 |_,_,0,.cons _ t=>.cons r t
 |_,_,i+1,.cons q t=>.cons q (Vals.set r i t)
theorem Vals.append:∀{xs ys:List V} {us ws:List Value},Vals xs us->Vals ys ws->Vals (xs++ys) (us++ws)
 |_,_,_,_,.nil,s=>s
 |_,_,_,_,.cons r t,s=>.cons r (Vals.append t s)
theorem Vals.take:∀{xs:List V} {us:List Value} (n:Nat),Vals xs us->Vals (xs.take n) (us.take n)
 |_,_,0,_=>.nil
 |_,_,_+1,.nil=>.nil
 |_,_,n+1,.cons r t=>.cons r (Vals.take n t)
theorem Vals.drop:∀{xs:List V} {us:List Value} (n:Nat),Vals xs us->Vals (xs.drop n) (us.drop n)
 |_,_,0,r=>r
 |_,_,_+1,.nil=>.nil
 |_,_,n+1,.cons _ t=>Vals.drop n t
noncomputable def RelO:Option V->Option Value->Prop
 |some v,some u=>RelV v u
 |none,none=>True
 |_,_=>False
noncomputable def KV {κ:Type}:List (κ×V)->List (κ×Value)->Prop:=Paired fun (p:κ×V) (q:κ×Value)=>p.1=q.1/\RelV p.2 q.2
noncomputable def kV:Key->V
 |.inl i=>.int i
 |.inr x=>.str x
inductive HO where
 | lst (xs:List V)
 | tup (xs:List V)
 | dK (kvs:List (Key×V))|dT (kvs:List (List Key×V))
 | set (S:Int->Bool) (n:Nat)
 | ins (C dx:Addr) (fs:List (Str×V))
 | own (x:Addr)
 | xd (fs:List (Str×V))
 | met (f x:Addr)
 | rng (lo hi:Int)
 | frz (o:Obj) (u:HO)
 | tbl (ps:Array Value)
 | ext (φ:Heap->Prop)
noncomputable abbrev Hp:=Addr->Option HO
noncomputable def upd (H:Hp)(a:Addr)(o:HO):Hp:=fun b=>if b=a then some o else H b
theorem Ab    : upd H a o a=some o:=by unfold upd;rw[if_pos rfl]
theorem Ah    (h:b≠a):upd H a o b=H b:=by unfold upd;rw[if_neg h]
theorem AG_ {H:Hp}{a b:Addr}{o u:HO}(h:H a=some o)(h':H b=some u)(d:o≠u):a≠b:=by
 intro e;subst e;rw[h]at h';exact d (Option.some.inj h')
theorem Al {H:Hp}{a b:Addr}{o:HO}(h:H a=some o)(h':H b=none):a≠b:=by
 intro e;subst e;rw[h]at h';cases h'
section
variable (P:Program) (w:World)
noncomputable def Cz (H:Hp)(h:Heap)(a:Addr):HO->Prop
 |.lst xs=>xs.length<=sizeLine/\∃(its:List Value) (n:Nat),Vals xs its/\h.get? a=some {cls:=.type "list",data:=.seq its.toArray n}
 |.tup xs=>xs.length<=sizeLine/\∃its:List Value,Vals xs its/\IsTup h a its.toArray
 |.dK kvs=>kvs.length<=sizeLine/\(a==sysModules)=false/\∃vs,KV kvs vs/\h.DictOf (BM P w) a vs
 |.dT kvs=>kvs.length<=sizeLine/\(a==sysModules)=false/\∃xs:List (List Key×Addr×Value),
   Paired (fun (p:List Key×V) (q:List Key×Addr×Value)=>p.1=q.1/\H q.2.1=some (.tup (p.1.map kV))/\RelV p.2 q.2.2) kvs xs /\
   ∃o es ep,h.get? a=some o/\o.ExactDict/\o.data=.dict es ep/\es.toList=xs.map (entryOfKey (tupleKind (BM P w)))/\(xs.map (·.1)).Nodup
 |.set S n=>h.SetOf (intKind P w) a S n
 |.ins C dx fs=>H dx=some (.own a)/\fs.length<=1000/\dx≠a/\h.get? a=some (PySem.W.instObj C dx) /\
   ∃mA,h.Ns1 dx mA/\(∀f,RelO (fs.lookup f) (mA f))/\PySem.Within mA (fs.map (·.1))
 |.own _=>∃o,h.get? a=some o
 |.xd fs=>∃mA,h.Ns1 a mA/\∀f,RelO (fs.lookup f) (mA f)
 |.rng lo hi=>∃t u v,h.get? a=some {cls:=.type "range",data:=.fields #[.int lo t,.int hi u,.int 1 v]}
 |.frz o u=>h.get? a=some o/\Cz H h a u
 |.tbl ps=>h.get? a=some {cls:=.none,data:=.fields ps}
 |.met f x=>h.get? a=some (PySem.W.methodObj (.ref f) (.ref x))
 |.ext φ=>φ h/\(∃o,h.get? a=some o)/\∀h1 h2:Heap,φ h1->(∀o,h1.get? a=some o->h2.get? a=some o)->φ h2
noncomputable def HOk (H:Hp)(h:Heap):Prop:=∀a o,H a=some o->Cz P w H h a o
end
section
variable {P:Program} {w:World} {H H':Hp} {h h':Heap} {a:Addr} {o:HO}
theorem Cz.lt (x:Cz P w H h a o):a<h.objs.size:=by
 cases o with
 |lst xs=>obtain⟨_,_,_,_,e⟩:=x;exact Heap.lt_size e
 |tup xs=>obtain⟨_,_,_,p⟩:=x;exact p.lt
 |dK kvs=>obtain⟨_,_,_,_,o,_,_,e,_⟩:=x;exact Heap.lt_size e
 |dT kvs=>obtain⟨_,_,_,_,o,_,_,e,_⟩:=x;exact Heap.lt_size e
 |set S n=>obtain⟨o,_,_,_,e,_⟩:=x;exact Heap.lt_size e
 |ins C dx fs=>obtain⟨_,_,_,e,_⟩:=x;exact Heap.lt_size e
 |own y=>obtain⟨_,e⟩:=x;exact Heap.lt_size e
 |xd fs=>obtain⟨_,⟨_,_,_,e,_⟩,_⟩:=x;exact Heap.lt_size e
 |rng lo hi=>obtain⟨_,_,_,e⟩:=x;exact Heap.lt_size e
 |frz ob u=>obtain⟨e,_⟩:=x;exact Heap.lt_size e
 |tbl ps=>exact Heap.lt_size (show h.get? a=some _ from x)
 |met f y=>exact Heap.lt_size (show h.get? a=some _ from x)
 |ext φ=>obtain⟨_,⟨_,e⟩,_⟩:=x;exact Heap.lt_size e
theorem Paired.mapP {α β:Type}{F G:α->β->Prop}:∀{l₁:List α} {l₂:List β},Paired F l₁ l₂->(∀a b,F a b->G a b)->Paired G l₁ l₂
 |_,_,.nil,_=>.nil
 |_,_,.cons r t,f=>.cons (f _ _ r) (Paired.mapP t f)
theorem Cz.stay (x:Cz P w H h a o)(k:∀b u,(b=a\/H b=some (.own a))->h.get? b=some u->h'.get? b=some u)
  (ho:∀b,H b=some (.own a)->H' b=some (.own a)) (ht:∀b xs,H b=some (.tup xs)->H' b=some (.tup xs)):Cz P w H' h' a o:=by
 induction o with
 |lst xs=>obtain⟨z,its,n,r,e⟩:=x;exact⟨z,its,n,r,k _ _ (.inl rfl) e⟩
 |tup xs=>obtain⟨z,its,r,ob,e,c⟩:=x;exact⟨z,its,r,ob,k _ _ (.inl rfl) e,c⟩
 |dK kvs=>obtain⟨z,y,vs,r,ob,es,ep,e,c⟩:=x;exact⟨z,y,vs,r,ob,es,ep,k _ _ (.inl rfl) e,c⟩
 |dT kvs=>
  obtain⟨z,y,xs,r,ob,es,ep,e,c⟩:=x
  exact⟨z,y,xs,Paired.mapP r fun p q z=>⟨z.1,ht _ _ z.2.1,z.2.2⟩,ob,es,ep,k _ _ (.inl rfl) e,c⟩
 |set S n=>obtain⟨ob,es,ep,t,e,c⟩:=x;exact⟨ob,es,ep,t,k _ _ (.inl rfl) e,c⟩
 |ins C dx fs=>
  obtain⟨d,z,ne,e,mA,⟨od,es,ep,e2,c⟩,r⟩:=x
  exact⟨ho _ d,z,ne,k _ _ (.inl rfl) e,mA,⟨od,es,ep,k _ _ (.inr d) e2,c⟩,r⟩
 |own y=>obtain⟨ob,e⟩:=x;exact⟨ob,k _ _ (.inl rfl) e⟩
 |xd fs=>obtain⟨mA,⟨od,es,ep,e,c⟩,r⟩:=x;exact⟨mA,⟨od,es,ep,k _ _ (.inl rfl) e,c⟩,r⟩
 |rng lo hi=>obtain⟨t,u,v,e⟩:=x;exact⟨t,u,v,k _ _ (.inl rfl) e⟩
 |frz ob u ih=>obtain⟨e,q⟩:=x;exact⟨k _ _ (.inl rfl) e,ih q⟩
 |tbl ps=>
  have e:h.get? a=some {cls:=.none,data:=.fields ps}:=x
  show h'.get? a=some {cls:=.none,data:=.fields ps}
  exact k a _ (.inl rfl) e
 |met f y=>
  have e:h.get? a=some (PySem.W.methodObj (.ref f) (.ref y)):=x
  show h'.get? a=some (PySem.W.methodObj (.ref f) (.ref y))
  exact k a _ (.inl rfl) e
 |ext φ=>obtain⟨p,⟨o,e⟩,st⟩:=x;exact⟨st _ _ p fun o q=>k _ _ (.inl rfl) q,⟨o,k _ _ (.inl rfl) e⟩,st⟩
theorem HOk.lt (x:HOk P w H h)(e:H a=some o):a<h.objs.size:=(x a o e).lt
theorem HOk.fresh (x:HOk P w H h)(e:h.objs.size<=a):H a=none:=by
 cases q:H a with
 |none=>rfl
 |some u=>exact absurd (Nat.lt_of_lt_of_le (x.lt q) e) (Nat.lt_irrefl _)
theorem HOk.kept (x:HOk P w H h)(k:∀b u,h.get? b=some u->h'.get? b=some u):HOk P w H h':=fun a o e=>
 (x a o e).stay (fun b u _ q=>k b u q) (fun _ q=>q) fun _ _ q=>q
theorem HOk.laid (x:HOk P w H h)(k:∀b u,h.get? b=some u->h'.get? b=some u)(hp:h.objs.size<=a)(new:Cz P w (upd H a o) h' a o):HOk P w (upd H a o) h':=fun b u e=>by
 have hn:=x.fresh hp
 by_cases hb:b=a
 ·subst hb;rw[Ab]at e;cases e;exact new
 ·rw[Ah hb]at e
  exact (x b u e).stay (fun c v _ q=>k c v q) (fun c q=>by rw[Ah (Al q hn)];exact q) fun c xs q=>by rw[Ah (Al q hn)];exact q
end
noncomputable def Rd (H:Hp)(a:Addr)(u:HO):Prop:=H a=some u \/ ∃o,H a=some (.frz o u)
theorem Rd.ok       (r:Rd H a u)(x:HOk P w H h):Cz P w H h a u:=by
 rcases r with r|⟨o,r⟩
 ·exact x a u r
 ·obtain⟨_,q⟩:=x a _ r
  exact q
noncomputable def Mut:Option HO->Prop
 |some (.lst _)=>True
 |some (.dK _)=>True
 |some (.dT _)=>True
 |some (.set _ _)=>True
 |some (.ins _ _ _)=>True
 |some (.ext _)=>True
 |_=>False
section
variable {P:Program} {w:World} {H:Hp} {h h':Heap} {x e:Addr} {o':HO}
theorem HOk.write (ok:HOk P w H h)(mu:Mut (H x))(he:e=x\/H e=some (.own x))(k:∀b u,b≠e->h.get? b=some u->h'.get? b=some u)(gE:∃u,h'.get? e=some u)
  (new:Cz P w (upd H x o') h' x o'):HOk P w (upd H x o') h':=fun b u q=>by
 have nown:∀c y,H c=some (.own y)->c≠x:=fun c y r z=>by subst z;rw[r]at mu;exact mu
 have ntup:∀c xs,H c=some (.tup xs)->c≠x:=fun c xs r z=>by subst z;rw[r]at mu;exact mu
 by_cases hb:b=x
 ·subst hb;rw[Ab]at q;cases q;exact new
 ·rw[Ah hb]at q
  by_cases hU:b=e
  ·have q':H b=some (.own x):=by
    rcases he with z|z
    ·exact absurd (hU.trans z) hb
    ·rw[hU];exact z
   rw[q]at q';cases q'
   obtain⟨v,hv⟩:=gE
   exact⟨v,by rw[hU];exact hv⟩
  ·refine (ok b u q).stay (fun c v hc r=>k c v ?_ r) (fun c r=>by rw[Ah (nown c b r)];exact r) fun c xs r=>by rw[Ah (ntup c xs r)];exact r
   rcases hc with rfl|hc
   ·exact hU
   ·rintro rfl
    rcases he with z|z
    ·exact nown c b hc z
    ·rw[hc]at z;cases z;exact hb rfl
end
structure Un (fs ex:List Addr)(H H':Hp)(h h':Heap):Prop where
 keep:∀b o,h.get? b=some o->H b=none->b∉fs->b∉ex->h'.get? b=some o
 slot:∀b o,h.get? b=some o->H b=none->b∈fs->b∉ex->∃sl,h'.get? b=some {o with slots:=sl}
 free:∀b o,h.get? b=some o->H b=none->b∉ex->H' b=none
 there:∀b o,h.get? b=some o->b∉ex->∃o',h'.get? b=some o'
 tups:∀b xs,H b=some (.tup xs)->H' b=some (.tup xs)
 frzs:∀b o u,H b=some (.frz o u)->H' b=some (.frz o u)
 tbls:∀b ps,H b=some (.tbl ps)->∃more,H' b=some (.tbl (ps++more))
section
variable {fs fs' ex ex':List Addr} {H H1 H2:Hp} {h h1 h2 h':Heap} {a x e:Addr} {o:HO}
theorem Un.any (u:Un fs ex H H1 h h1)   (q:h.get? b=some ob)(n:H b=none)(hx:b∉ex):∃sl,h1.get? b=some {ob with slots:=sl}:=by
 by_cases hb:b∈fs
 ·exact u.slot b ob q n hb hx
 ·exact⟨ob.slots,u.keep b ob q n hb hx⟩
theorem Un.kept (k:∀b u,h.get? b=some u->h'.get? b=some u):Un fs ex H H h h' :=
 ⟨fun b ob q _ _ _=>k b ob q,fun b ob q _ _ _=>⟨ob.slots,k b ob q⟩,fun _ _ _ n _=>n,fun b ob q _=>⟨ob,k b ob q⟩,fun _ _ q=>q,fun _ _ _ q=>q,fun _ ps q=>⟨#[],by rw[q];simp⟩⟩
theorem Un.refl:Un fs ex H H h h:=Un.kept fun _ _ q=>q
theorem Un.laid (k:∀b u,h.get? b=some u->h'.get? b=some u)(hp:h.objs.size<=a)(hn:H a=none):Un fs ex H (upd H a o) h h' where
 keep:=fun b u q _ _ _=>k b u q
 slot:=fun b u q _ _ _=>⟨u.slots,k b u q⟩
 free:=fun b u q n _=>by rw[Ah (Nat.ne_of_lt (Nat.lt_of_lt_of_le (Heap.lt_size q) hp))];exact n
 there:=fun b u q _=>⟨u,k b u q⟩
 tups:=fun b xs q=>by rw[Ah (Al q hn)];exact q
 frzs:=fun b u xs q=>by rw[Ah (Al q hn)];exact q
 tbls:=fun b ps q=>⟨#[],by rw[Ah (Al q hn),q];simp⟩
theorem Un.write (mu:Mut (H x))(he:e=x\/H e=some (.own x))(k:∀b u,b≠e->h.get? b=some u->h'.get? b=some u)(gE:∃u,h'.get? e=some u):Un fs ex H (upd H x o) h h':=by
 have hx:∀b,H b=none->b≠x:=fun b n z=>by subst z;rw[n]at mu;exact mu
 have hb:∀b,H b=none->b≠e:=fun b n z=>by
  subst z
  rcases he with r|r
  ·exact hx b n r
  ·rw[n]at r;cases r
 have hm:∀b u,H b=some u->¬ Mut (some u)->b≠x:=fun b u q nm z=>by subst z;rw[q]at mu;exact nm mu
 refine⟨fun b u q n _ _=>k b u (hb b n) q,fun b u q n _ _=>⟨u.slots,k b u (hb b n) q⟩,fun b u q n _=>by rw[Ah (hx b n)];exact n,fun b u q _=>?_,
  fun b xs q=>by rw[Ah (hm b _ q fun z=>z)];exact q,fun b u xs q=>by rw[Ah (hm b _ q fun z=>z)];exact q,fun b ps q=>⟨#[],by rw[Ah (hm b _ q fun z=>z),q];simp⟩⟩
 by_cases hU:b=e
 ·subst hU;exact gE
 ·exact⟨u,k b u hU q⟩
end
noncomputable def trk (h:Heap)(H:Hp):List Addr:=(List.range h.objs.size).filter fun a=>(H a).isSome
noncomputable def hidT (h:Heap)(H:Hp):Heap:=PySem.W.hideAll h (trk h H)
theorem UG (h:Heap)(H:Hp):(hidT h H).objs.size=h.objs.size:=PySem.W.hideAll_size _ _
theorem Kk     (e:h.get? b=some o)(n:H b=none):(hidT h H).get? b=some o:=
 PySem.W.hideAll_get _ e fun hm=>by
  have q:(H b).isSome=true:=(List.mem_filter.mp hm).2
  rw[n]at q;simp at q
theorem Zp     (e:(hidT h H).get? b=some o):h.get? b=some o/\H b=none:=by
 have e':h.get? b=some o:=PySem.W.of_hideAll (trk h H) e
 refine⟨e',?_⟩
 cases q:H b with
 |none=>rfl
 |some x=>
  have hm:b∈trk h H:=List.mem_filter.mpr ⟨List.mem_range.mpr (Heap.lt_size e'),by simp[q]⟩
  have z:(hidT h H).get? b=none:=PySem.W.hideAll_none (trk h H) hm
  rw[z]at e;cases e
noncomputable def Zq (g h:Heap)(L:Addr):List (Addr×Obj):=(List.range h.objs.size).filterMap fun a=>if a=L\/(g.get? a).isSome=true then none else (h.get? a).map fun o=>(a,o)
noncomputable def rest (g h:Heap)(L d:Addr):List (Addr×Obj):=(Zq g h L).filter fun p=>decide (p.1≠d)
end L2
namespace L2
open PySem PySem.Spec PyProof.Rows
structure Mod (K:PySem.W.Frag)(mg:Str->Option Value)(base:Heap):Prop where
 kin:K.In base
 glob:base.Ns mainGlobals mg
 blt:∃mb,base.Ns builtinsNs mb/\∀x:Str,x ≠ "__name__" -> mb x=bootBuiltins x
 nolimit:base.NoLimit
structure Cx where
 prog:Program
 w:World
 K:PySem.W.Frag
 mg:Str->Option Value
 base:Heap
 A:Around
 N:List Str
 s₀:Shared
 H₀:Hp
 env:Env
 outer:List Env
 stack:List Env
 ex:List Addr
 fn:Str->Bool
 calm:Bool
 pn:List (Addr×Obj)
 xe:Value->Shared->Prop
noncomputable def frs (l:List Env):List Addr:=l.filterMap (·.frame)
noncomputable abbrev Cx.fs (X:Cx):List Addr:=frs X.outer
noncomputable def Vis (sc:Scope)(x:Str):Prop:=sc.names.lookup x=some .local\/sc.names.lookup x=some .cell\/sc.names.lookup x=some .free
noncomputable def Loc (sc:Scope)(x:Str):Prop:=sc.names.lookup x=some .local\/sc.names.lookup x=some .cell
noncomputable def Look (env:Env)(h:Heap)(m:Str->Option Value)(x:Str)(u:Value):Prop:=
 (env.kindOf x=some .local/\m x=some u)\/((env.kindOf x=some .cell\/env.kindOf x=some .free)/\∃c,env.cells.lookup x=some c/\h.IsCell c (some u))
structure Cx.Ok (X:Cx):Prop where
 mod:Mod X.K X.mg X.base
 kind:X.env.scope.kind=.function
 glob:X.env.globals=mainGlobals
 blt:X.env.builtins=builtinsNs
 above:X.s₀.heap.objs.size<=X.env.locals
 inj:∀x y c,X.env.cells.lookup x=some c->X.env.cells.lookup y=some c->x=y
 has:∀x,(X.env.kindOf x=some .cell\/X.env.kindOf x=some .free)->∃c,X.env.cells.lookup x=some c
 cab:∀x c,X.fn x=true->X.env.cells.lookup x=some c->X.s₀.heap.objs.size<=c
 hd:X.calm=true->X.A.handled=none
 frames:X.A.frames=some X.stack
 stk:X.stack=X.outer\/(X.stack=X.env::X.outer/\X.env.frame=some X.env.locals)
 exf:∀b∈X.ex,b≠X.env.locals/\∀x c,X.env.cells.lookup x=some c->c≠b
 bs:∀b o,X.base.get? b=some o->X.s₀.heap.get? b=some o/\X.H₀ b=none
 bsz:X.base.objs.size<=X.s₀.heap.objs.size
 noex:∀b o,X.base.get? b=some o->b∉X.ex
 exfs:∀b∈X.ex,b∉X.fs
 funs:X.s₀.heap.FunFrames X.base X.outer
 frf:∀b∈X.fs,X.H₀ b=none
structure Inv (X:Cx)(af:List (Addr×Obj))(σ:List (Option V))(H:Hp)(s:Shared):Prop where
 ok:X.Ok
 os:s.os=X.s₀.os
 bare:AllBare s.gens
 base:Un X.fs X.ex X.H₀ H X.s₀.heap s.heap
 loc:∃m,s.heap.Ns X.env.locals m/\∀(i:Nat) (x:Str) (v:V),X.N[i]?=some x->σ[i]?=some (some v)->Vis X.env.scope x->∃u,RelV v u/\Look X.env s.heap m x u
 cell:∀x c,X.env.cells.lookup x=some c->∃v,s.heap.IsCell c v
 free:H X.env.locals=none
 freeC:∀x c,X.env.cells.lookup x=some c->H c=none
 pin:∀p∈X.pn++af,s.heap.get? p.1=some p.2/\H p.1=none/\p.1≠X.env.locals/\p.1∉X.fs/\∀v,p.2.data ≠ .cell v
 hok:HOk X.prog X.w H s.heap
 len:σ.length=X.N.length
section
variable {X:Cx} {af:List (Addr×Obj)} {σ:List (Option V)} {H H':Hp} {s:Shared} {h':Heap}
theorem Cx.Ok.nofr (ok:X.Ok)   (e:X.base.get? b=some o):b∉X.fs:=fun hb=>by
 have:=(ok.funs.mem hb).1
 rw[e]at this;cases this
theorem Inv.bs (I:Inv X af σ H s):∀b o,X.base.get? b=some o->s.heap.get? b=some o/\H b=none:=fun b o e=>
 ⟨I.base.keep b o (I.ok.bs b o e).1 (I.ok.bs b o e).2 (I.ok.nofr e) (I.ok.noex b o e),I.base.free b o (I.ok.bs b o e).1 (I.ok.bs b o e).2 (I.ok.noex b o e)⟩
theorem Inv.bk (I:Inv X af σ H s):∀b o,X.base.get? b=some o->s.heap.get? b=some o:=fun b o e=>(I.bs b o e).1
theorem Inv.mod (I:Inv X af σ H s):Mod X.K X.mg X.base:=I.ok.mod
theorem Inv.kIn (I:Inv X af σ H s):X.K.In s.heap:=I.ok.mod.kin.keeps I.bk
theorem Inv.lt (I:Inv X af σ H s):X.env.locals<s.heap.objs.size:=let ⟨_,hn,_⟩:=I.loc;hn.lt
theorem Inv.sz (I:Inv X af σ H s):X.s₀.heap.objs.size<=s.heap.objs.size:=Nat.le_trans I.ok.above (Nat.le_of_lt I.lt)
theorem Inv.nofs (I:Inv X af σ H s)  (h:s.heap.objs.size<=a):a∉X.fs:=fun hb=>by
 obtain⟨_,o,ho,_⟩:=I.ok.funs.mem hb
 exact absurd (Nat.lt_of_lt_of_le (Heap.lt_size ho) (Nat.le_trans I.sz h)) (Nat.lt_irrefl _)
theorem Inv.cne (I:Inv X af σ H s):∀x c,X.env.cells.lookup x=some c->c≠X.env.locals:=fun x c e z=>by
 obtain⟨v,o,ho,hd⟩:=I.cell x c e
 obtain⟨m,⟨o',es,ep,cO,cq,_⟩,_⟩:=I.loc
 rw[z,cO]at ho;cases ho;rw[cq]at hd;cases hd
theorem Inv.funs (I:Inv X af σ H s):s.heap.FunFrames X.base X.outer:=by
 have all:∀(l:List Env),(∀b∈frs l,b∈X.fs)->X.s₀.heap.FunFrames X.base l->s.heap.FunFrames X.base l:=by
  intro l
  induction l with
  |nil=>intro _ _;trivial
  |cons env r ih=>
   intro hs hl
   obtain⟨hk,⟨L,o,hf,hn,ho,hd⟩,hr⟩:=hl
   have hL:L∈X.fs:=hs L (by unfold frs;rw[List.filterMap_cons,hf];exact List.mem_cons_self)
   obtain⟨sl,e⟩:=I.base.slot L o ho (I.ok.frf L hL) hL fun z=>I.ok.exfs L z hL
   exact⟨hk,⟨L,_,hf,hn,e,hd⟩,ih (fun b hb=>hs b (by unfold frs;rw[List.filterMap_cons,hf];exact List.mem_cons_of_mem _ hb)) hr⟩
 exact all X.outer (fun _ hb=>hb) I.ok.funs
theorem Inv.stack (I:Inv X af σ H s):s.heap.FunFrames X.base X.stack:=by
 rcases I.ok.stk with e|⟨e,hf⟩
 ·rw[e];exact I.funs
 ·rw[e]
  obtain⟨m,hn,_⟩:=I.loc
  refine .cons (by rw[I.ok.kind];decide) hf hn ?_ I.funs
  exact Heap.get?_none_of_le (Nat.le_trans I.ok.bsz I.ok.above)
theorem Inv.stkSub (I:Inv X af σ H s):∀b∈frs X.stack,b∈X.env.locals::X.fs:=fun b hb=>by
 rcases I.ok.stk with e|⟨e,hf⟩
 ·rw[e]at hb;exact List.mem_cons_of_mem _ hb
 ·rw[e]at hb
  unfold frs at hb
  rw[List.filterMap_cons,hf]at hb
  exact hb
theorem Inv.stkFree (I:Inv X af σ H s):∀b∈frs X.stack,H b=none:=fun b hb=>by
 rcases List.mem_cons.mp (I.stkSub b hb) with e|hb
 ·rw[e];exact I.free
 ·obtain⟨_,o,ho,_⟩:=I.ok.funs.mem hb
  exact I.base.free b o ho (I.ok.frf b hb) fun z=>I.ok.exfs b z hb
theorem Inv.step {g':Array GenState}{t':Nat}{d':Drawn}{ch:List Addr}(I:Inv X af σ H s)
  (fG:∀b∈ch,(b∈X.ex\/X.s₀.heap.objs.size<=b)/\b≠X.env.locals/\(∀x c,X.env.cells.lookup x=some c->c≠b)/\∀p∈X.pn++af,p.1≠b)
  (keep:∀b o,b≠X.env.locals->b∉X.fs->b∉ch->s.heap.get? b=some o->H b=none->h'.get? b=some o)
  (slot:∀b o,b≠X.env.locals->b∈X.fs->b∉ch->s.heap.get? b=some o->H b=none->∃sl,h'.get? b=some {o with slots:=sl}) (free:∀b o,b∉ch->s.heap.get? b=some o->H b=none->H' b=none)
  (there:∀b o,b∉ch->s.heap.get? b=some o->∃o',h'.get? b=some o')
  (tups:∀b xs,H b=some (.tup xs)->H' b=some (.tup xs)) (frzs:∀b o u,H b=some (.frz o u)->H' b=some (.frz o u)) (tbls:∀b ps,H b=some (.tbl ps)->∃more,H' b=some (.tbl (ps++more)))
  (ns:∀m,s.heap.Ns X.env.locals m->h'.Ns X.env.locals m) (hok:HOk X.prog X.w H' h') (hg:AllBare g'):
  Inv X af σ H' {s with heap:=h',gens:=g',drawn:=d',toks:=t' }:=by
 have neL:∀b o,X.s₀.heap.get? b=some o->b≠X.env.locals:=fun b o e=>Nat.ne_of_lt (Nat.lt_of_lt_of_le (Heap.lt_size e) I.ok.above)
 have ll:∀b o,X.s₀.heap.get? b=some o->b∉X.ex->b∉ch:=fun b o e hx hb=>by
  rcases (fG b hb).1 with z|z
  ·exact hx z
  ·exact absurd (Nat.lt_of_lt_of_le (Heap.lt_size e) z) (Nat.lt_irrefl _)
 have cellK:∀x c,X.env.cells.lookup x=some c->∀v,s.heap.IsCell c v->h'.IsCell c v:=fun x c e v ⟨o,ho,hd⟩=>by
  have ef:c∉ch:=fun z=>(fG c z).2.2.1 x c e rfl
  by_cases hc:c∈X.fs
  ·obtain⟨sl,q⟩:=slot c o (I.cne x c e) hc ef ho (I.freeC x c e)
   exact⟨_,q,hd⟩
  ·exact⟨o,keep c o (I.cne x c e) hc ef ho (I.freeC x c e),hd⟩
 refine⟨I.ok,I.os,hg,⟨fun b o e n hb hx=>?_,fun b o e n hb hx=>?_,fun b o e n hx=>?_,fun b o e hx=>?_,fun b xs e=>tups b xs (I.base.tups b xs e),fun b o xs e=>frzs b o xs (I.base.frzs b o xs e),fun b ps e=>?_⟩,?_,fun x c e=>?_,?_,fun x c e=>?_,fun p hp=>?_,hok,I.len⟩
 ·exact keep b o (neL b o e) hb (ll b o e hx) (I.base.keep b o e n hb hx) (I.base.free b o e n hx)
 ·obtain⟨sl,e1⟩:=I.base.slot b o e n hb hx
  obtain⟨j0,e2⟩:=slot b _ (neL b o e) hb (ll b o e hx) e1 (I.base.free b o e n hx)
  exact⟨j0,e2⟩
 ·obtain⟨o',e1⟩:=I.base.there b o e hx
  exact free b o' (ll b o e hx) e1 (I.base.free b o e n hx)
 ·obtain⟨o',e1⟩:=I.base.there b o e hx
  exact there b o' (ll b o e hx) e1
 ·obtain⟨m1,e1⟩:=I.base.tbls b ps e
  obtain⟨m2,e2⟩:=tbls b _ e1
  exact⟨m1++m2,by rw[e2,Array.append_assoc]⟩
 ·obtain⟨m,hn,hl⟩:=I.loc
  refine⟨m,ns m hn,fun i x v e1 e2 e3=>?_⟩
  obtain⟨u,r,l⟩:=hl i x v e1 e2 e3
  refine⟨u,r,?_⟩
  rcases l with l|⟨k,c,e,z⟩
  ·exact .inl l
  ·exact .inr ⟨k,c,e,cellK x c e _ z⟩
 ·obtain⟨v,z⟩:=I.cell x c e
  exact⟨v,cellK x c e v z⟩
 ·obtain⟨m,⟨o,_,_,ho,_⟩,_⟩:=I.loc
  exact free _ o (fun z=>(fG _ z).2.1 rfl) ho I.free
 ·obtain⟨v,o,ho,hd⟩:=I.cell x c e
  exact free c o (fun z=>(fG c z).2.2.1 x c e rfl) ho (I.freeC x c e)
 ·obtain⟨e,n,ne,nf,d⟩:=I.pin p hp
  have ef:p.1∉ch:=fun z=>(fG p.1 z).2.2.2 p hp rfl
  exact⟨keep p.1 p.2 ne nf ef e n,free p.1 p.2 ef e n,ne,nf,d⟩
theorem Inv.un  (I:Inv X af σ H s)(u:Un X.fs [] H H' s.heap h')(hok:HOk X.prog X.w H' h'):Inv X af σ H' {s with heap:=h',toks:=t' }:=by
 obtain⟨m,⟨o,es,ep,ho,r⟩,_⟩:=id I.loc
 obtain⟨sl,hL⟩:=u.any ho I.free (by simp)
 exact I.step (g':=s.gens) (d':=s.drawn) (ch:=[]) (fun _ z=>nomatch z) (fun b o _ hb _ e n=>u.keep b o e n hb (by simp)) (fun b o _ hb _ e n=>u.slot b o e n hb (by simp)) (fun b o _ e n=>u.free b o e n (by simp)) (fun b o _ e=>u.there b o e (by simp)) u.tups u.frzs u.tbls (fun m' hm=>by
  obtain⟨o',mD,mE,cO,r'⟩:=hm
  rw[ho]at cO;cases cO
  exact⟨_,mD,mE,hL,r'⟩) hok I.bare
theorem Inv.call     (I:Inv X af σ H s)(u:Un (frs X.stack) ch H H' s.heap h')(hok:HOk X.prog X.w H' h')(hg:AllBare g')
  (fG:∀b∈ch,(b∈X.ex\/X.s₀.heap.objs.size<=b)/\b≠X.env.locals/\(∀x c,X.env.cells.lookup x=some c->c≠b)/\∀p∈X.pn++af,p.1≠b):
  Inv X af σ H' {s with heap:=h',gens:=g',drawn:=d',toks:=t' }:=by
 obtain⟨m,⟨o,es,ep,ho,r⟩,_⟩:=id I.loc
 obtain⟨sl,hL⟩:=u.any ho I.free fun z=>(fG _ z).2.1 rfl
 exact I.step (ch:=ch) fG (fun b o hL hb hc e n=>u.keep b o e n (fun z=>(List.mem_cons.mp (I.stkSub b z)).elim hL hb) hc) (fun b o _ _ hc e n=>u.any e n hc) (fun b o hc e n=>u.free b o e n hc) (fun b o hc e=>u.there b o e hc) u.tups u.frzs u.tbls (fun m' hm=>by
  obtain⟨o',mD,mE,cO,r'⟩:=hm
  rw[ho]at cO;cases cO
  exact⟨_,mD,mE,hL,r'⟩) hok hg
theorem Inv.turned  {it:Addr}(I:Inv X af σ H s)(k:∀b o,b≠it->s.heap.get? b=some o->h'.get? b=some o)(hn:H it=none)(hL:it≠X.env.locals)
  (h1:it∈X.ex\/X.s₀.heap.objs.size<=it) (h2:∀x c,X.env.cells.lookup x=some c->c≠it) (h3:∀p∈X.pn++af,p.1≠it):Inv X af σ H {s with heap:=h',toks:=t' }:=by
 have nit:∀b u,H b=some u->b≠it:=fun b u e z=>by rw[z,hn]at e;cases e
 refine I.step (g':=s.gens) (d':=s.drawn) (ch:=[it]) (fun b hb=>?_) (fun b o _ _ hc e _=>k b o (fun z=>hc (by simp[z])) e) (fun b o _ _ hc e _=>⟨o.slots,k b o (fun z=>hc (by simp[z])) e⟩) (fun _ _ _ _ n=>n)
  (fun b o hc e=>⟨o,k b o (fun z=>hc (by simp[z])) e⟩) (fun _ _ e=>e) (fun _ _ _ e=>e) (fun b ps e=>⟨#[],by rw[e];simp⟩) (fun m hm=>?_) (fun b u e=>?_) I.bare
 ·have e:b=it:=by simpa using hb
  subst e
  exact⟨h1,hL,h2,h3⟩
 ·obtain⟨o,es,ep,ho,r⟩:=hm
  exact⟨o,es,ep,k _ o (Ne.symm hL) ho,r⟩
 ·refine (I.hok b u e).stay (fun c v hc q=>k c v ?_ q) (fun _ q=>q) fun _ _ q=>q
  rcases hc with z|z
  ·rw[z];exact nit b u e
  ·exact nit c _ z
theorem Inv.tok (I:Inv X af σ H s)(t:Nat):Inv X af σ H {s with toks:=t}:=I.un (h':=s.heap) (t':=t) Un.refl I.hok
theorem Inv.kept  (I:Inv X af σ H s)(k:∀b u,s.heap.get? b=some u->h'.get? b=some u):Inv X af σ H {s with heap:=h',toks:=t' }:=I.un (Un.kept k) (I.hok.kept k)
theorem Inv.laid    (I:Inv X af σ H s)(k:∀b u,s.heap.get? b=some u->h'.get? b=some u)(hp:s.heap.objs.size<=a)(new:Cz X.prog X.w (upd H a o) h' a o):
  Inv X af σ (upd H a o) {s with heap:=h',toks:=t' }:=I.un (Un.laid k hp (I.hok.fresh hp)) (I.hok.laid k hp new)
theorem Inv.write    (I:Inv X af σ H s)(mu:Mut (H x))(he:e=x\/H e=some (.own x))(k:∀b u,b≠e->s.heap.get? b=some u->h'.get? b=some u)(gE:∃u,h'.get? e=some u)
  (new:Cz X.prog X.w (upd H x o) h' x o):Inv X af σ (upd H x o) {s with heap:=h',toks:=t' }:=I.un (Un.write mu he k gE) (I.hok.write mu he k gE new)
theorem Inv.pins_of  (I:Inv X af σ H s)(h:∀p∈bP,s.heap.get? p.1=some p.2/\H p.1=none/\p.1≠X.env.locals/\p.1∉X.fs/\∀v,p.2.data ≠ .cell v):Inv X bP σ H s:=
 ⟨I.ok,I.os,I.bare,I.base,I.loc,I.cell,I.free,I.freeC,fun p hp=>(List.mem_append.mp hp).elim (fun z=>I.pin p (List.mem_append_left _ z)) (h p),I.hok,I.len⟩
theorem R0 {N:List Str}(hN:N.Nodup){i j:Nat}{x:Str}(a:N[i]?=some x)(b:N[j]?=some x):i=j:=by
 obtain⟨h1,e1⟩:=List.getElem?_eq_some_iff.mp a
 obtain⟨h2,e2⟩:=List.getElem?_eq_some_iff.mp b
 exact (List.getElem_inj hN).mp (e1.trans e2.symm)
theorem OW         (I:Inv X af σ H s)(hN:X.N.Nodup)(hi:X.N[i]?=some x)(hx:Loc X.env.scope x)(r:RelV v u)
  (h:∀s',Inv X af (σ.set i (some v)) H s'->(∃a,Heap.SameBut a s.heap s'.heap/\(a=X.env.locals\/X.env.cells.lookup x=some a))->Q () s') (hf:X.fn x=true\/X.env.scope.names.lookup x=some .local:=by first|exact .inl rfl|exact .inr rfl|assumption):wpAny M A (storeName X.env x u) Q E s:=by
 obtain⟨m,hn,hl⟩:=id I.loc
 have hV:(X.env.scope.kind == .class||(X.env.scope.kind == .module&&X.env.locals != X.env.globals))=false:=by rw[I.ok.kind];rfl
 have hiσ:i<σ.length:=by rw[I.len];exact (List.getElem?_eq_some_iff.mp hi).1
 have cne:=I.cne
 have tracked:∀{a:Addr} {h':Heap},(∃o,s.heap.get? a=some o/\H a=none)->Heap.SameBut a s.heap h'->HOk X.prog X.w H h':=fun {a h'} ha hs b ob e=>by
  obtain⟨_,_,hfree⟩:=ha
  refine (I.hok b ob e).stay (fun c w' hc q=>(hs.2 c ?_).trans q) (fun _ q=>q) fun _ _ q=>q
  rintro rfl
  rcases hc with rfl|hc
  ·rw[hfree]at e;cases e
  ·rw[hfree]at hc;cases hc
 rcases hx with hk|hk
 ·refine wpAny_storeName_local hk hn (fun h' hX hs=>?_) hV
  obtain⟨oL,_,_,mF,_⟩:=id hn
  refine h _ ⟨I.ok,I.os,I.bare,⟨fun b o e n hb hx=>?_,fun b o e n hb hx=>?_,I.base.free,fun b o e hx=>?_,I.base.tups,I.base.frzs,I.base.tbls⟩,⟨_,hX,fun j y v' e1 e2 e3=>?_⟩,fun y c e=>?_,I.free,I.freeC,fun p hp=>?_,tracked ⟨oL,mF,I.free⟩ hs,by simpa using I.len⟩ ⟨_,hs,.inl rfl⟩
  ·exact (hs.2 b (Nat.ne_of_lt (Nat.lt_of_lt_of_le (Heap.lt_size e) I.ok.above))).trans (I.base.keep b o e n hb hx)
  ·obtain⟨sl,e1⟩:=I.base.slot b o e n hb hx
   exact⟨sl,(hs.2 b (Nat.ne_of_lt (Nat.lt_of_lt_of_le (Heap.lt_size e) I.ok.above))).trans e1⟩
  ·obtain⟨o',e1⟩:=I.base.there b o e hx
   exact⟨o',(hs.2 b (Nat.ne_of_lt (Nat.lt_of_lt_of_le (Heap.lt_size e) I.ok.above))).trans e1⟩
  ·by_cases hj:j=i
   ·subst hj
    rw[hi]at e1;cases e1
    rw[List.getElem?_set_self hiσ]at e2
    cases e2
    exact⟨u,r,.inl ⟨hk,by simp⟩⟩
   ·rw[List.getElem?_set_ne (Ne.symm hj)]at e2
    obtain⟨u',r',q⟩:=hl j y v' e1 e2 e3
    refine⟨u',r',?_⟩
    rcases q with ⟨k,e⟩|⟨k,c,e,z⟩
    ·refine .inl ⟨k,?_⟩
     have:y≠x:=fun e=>hj (R0 hN e1 (e ▸ hi))
     simp[this,e]
    ·exact .inr ⟨k,c,e,z.sameBut hs (cne y c e)⟩
  ·obtain⟨w',z⟩:=I.cell y c e
   exact⟨w',z.sameBut hs (cne y c e)⟩
  ·obtain⟨e,n,ne,nf,d⟩:=I.pin p hp
   exact⟨(hs.2 p.1 ne).trans e,n,ne,nf,d⟩
 ·have mG:X.fn x=true:=by
   rcases hf with z|z
   ·exact z
   ·rw[z]at hk;cases hk
  obtain⟨c,hc⟩:=I.ok.has x (.inl hk)
  obtain⟨w',z⟩:=I.cell x c hc
  refine wpAny_storeName_cell I.ok.kind hk hc z (fun h' fH hs=>?_)
  obtain⟨oc,eK,hocd⟩:=id z
  refine h {s with heap:=h' } ⟨I.ok,I.os,I.bare,⟨fun b o e n hb hx=>?_,fun b o e n hb hx=>?_,I.base.free,fun b o e hx=>?_,I.base.tups,I.base.frzs,I.base.tbls⟩,⟨m,hn.sameBut hs (Ne.symm (cne x c hc)),fun j y v' e1 e2 e3=>?_⟩,fun y c' e=>?_,I.free,I.freeC,fun p hp=>?_,tracked ⟨oc,eK,I.freeC x c hc⟩ hs,by simpa using I.len⟩ ⟨c,hs,.inr hc⟩
  ·exact (hs.2 b (Nat.ne_of_lt (Nat.lt_of_lt_of_le (Heap.lt_size e) (I.ok.cab x c mG hc)))).trans (I.base.keep b o e n hb hx)
  ·obtain⟨sl,e1⟩:=I.base.slot b o e n hb hx
   exact⟨sl,(hs.2 b (Nat.ne_of_lt (Nat.lt_of_lt_of_le (Heap.lt_size e) (I.ok.cab x c mG hc)))).trans e1⟩
  ·obtain⟨o',e1⟩:=I.base.there b o e hx
   exact⟨o',(hs.2 b (Nat.ne_of_lt (Nat.lt_of_lt_of_le (Heap.lt_size e) (I.ok.cab x c mG hc)))).trans e1⟩
  ·by_cases hj:j=i
   ·subst hj
    rw[hi]at e1;cases e1
    rw[List.getElem?_set_self hiσ]at e2
    cases e2
    exact⟨u,r,.inr ⟨.inl hk,c,hc,fH⟩⟩
   ·rw[List.getElem?_set_ne (Ne.symm hj)]at e2
    obtain⟨u',r',q⟩:=hl j y v' e1 e2 e3
    refine⟨u',r',?_⟩
    rcases q with q|⟨k,c',e,z'⟩
    ·exact .inl q
    ·refine .inr ⟨k,c',e,z'.sameBut hs ?_⟩
     rintro rfl
     exact hj (R0 hN e1 (I.ok.inj _ _ _ e hc ▸ hi))
  ·by_cases hcc:c'=c
   ·subst hcc;exact⟨_,fH⟩
   ·obtain⟨w2,z2⟩:=I.cell y c' e
    exact⟨w2,z2.sameBut hs hcc⟩
  ·obtain⟨e,n,ne,nf,d⟩:=I.pin p hp
   refine⟨(hs.2 p.1 ?_).trans e,n,ne,nf,d⟩
   intro q
   rw[q,eK]at e
   have q':oc=p.2:=Option.some.inj e
   exact d w' (by rw[<-q'];exact hocd)
theorem Nj         (I:Inv X af σ H s)(hN:X.N.Nodup)(hi:X.N[i]?=some x)(hx:Loc X.env.scope x)(r:RelV v u)
  (h:∀s',Inv X af (σ.set i (some v)) H s'->Q () s') (hf:X.fn x=true\/X.env.scope.names.lookup x=some .local:=by first|exact .inl rfl|exact .inr rfl|assumption):wpAny M A (storeName X.env x u) Q E s:=
 OW I hN hi hx r (fun s' I' _=>h s' I') hf
theorem Inv.call'   (I:Inv X af σ H s)(ho:s'.os=s.os)(u:Un (frs X.stack) ch H H' s.heap s'.heap)(hok:HOk X.prog X.w H' s'.heap)(hg:AllBare s'.gens)
  (fG:∀b∈ch,(b∈X.ex\/X.s₀.heap.objs.size<=b)/\b≠X.env.locals/\(∀x c,X.env.cells.lookup x=some c->c≠b)/\∀p∈X.pn++af,p.1≠b):Inv X af σ H' s':=by
 obtain⟨h',g',d',t',o'⟩:=s'
 have e:o'=s.os:=ho
 subst e
 exact I.call (g':=g') (t':=t') (d':=d') u hok hg fG
end
noncomputable abbrev XK:=Value->Option Addr->Hp->Prop
noncomputable abbrev St:=List (Option V)
noncomputable abbrev VK:=V->Hp->Prop
noncomputable abbrev TE:=St->Hp->VK->Prop
noncomputable abbrev TT:=St->Hp->(Bool->Hp->Prop)->Prop
noncomputable abbrev TA:=St->Hp->(List V->Hp->Prop)->Prop
structure Ends where
 nx:St->Hp->Prop
 rt:VK
 bk:St->Hp->Prop:=fun _ _=>False
 ct:St->Hp->Prop:=fun _ _=>False
noncomputable abbrev TS:=Ends->St->Hp->Prop
noncomputable def EP (X:Cx)(af:List (Addr×Obj))(σ:St)(Q:VK)(u:Value)(s':Shared):Prop:=∃v H',Inv X af σ H' s'/\RelV v u/\Q v H'
noncomputable def TP (X:Cx)(af:List (Addr×Obj))(σ:St)(Q:Bool->Hp->Prop)(b:Bool)(s':Shared):Prop:=∃H',Inv X af σ H' s'/\Q b H'
noncomputable def AP (X:Cx)(af:List (Addr×Obj))(σ:St)(Q:List V->Hp->Prop)(us:List Value)(s':Shared):Prop:=∃vs H',Inv X af σ H' s'/\Vals vs us/\Q vs H'
noncomputable def SP (X:Cx)(af:List (Addr×Obj))(D:Ends)(f:Flow)(s':Shared):Prop:=
 match f with
 |.next=>∃ah H',Inv X af ah H' s'/\D.nx ah H'
 |.brk=>∃ah H',Inv X af ah H' s'/\D.bk ah H'
 |.cont=>∃ah H',Inv X af ah H' s'/\D.ct ah H'
 |.ret u=>∃v ah H',Inv X af ah H' s'/\RelV v u/\D.rt v H'
noncomputable def PE (X:Cx)(e:Expr)(t:TE):Prop:=
 ∀(af:List (Addr×Obj)) (s:Shared) (σ:St) (H:Hp) (Q:VK),Inv X af σ H s->t σ H Q->wpAny (model X.prog X.w) X.A (eval e X.env) (EP X af σ Q) X.xe s
noncomputable def PT (X:Cx)(e:Expr)(t:TT):Prop:=
 ∀(af:List (Addr×Obj)) (s:Shared) (σ:St) (H:Hp) (Q:Bool->Hp->Prop),Inv X af σ H s->t σ H Q->wpAny (model X.prog X.w) X.A (isTrue e X.env (eval e X.env)) (TP X af σ Q) X.xe s
noncomputable def PW (X:Cx)(e:Expr)(t:TT):Prop:=
 ∀(dj:Sem Value) (af:List (Addr×Obj)) (s:Shared) (σ:St) (H:Hp) (Q:Bool->Hp->Prop),Inv X af σ H s->t σ H Q->wpAny (model X.prog X.w) X.A (isTrue e X.env dj) (TP X af σ Q) X.xe s
theorem PW.pt    (h:PW X e t):PT X e t:=h _
noncomputable def PA (X:Cx)(es:List Expr)(t:TA):Prop:=
 ∀(pos:Pos) (af:List (Addr×Obj)) (s:Shared) (σ:St) (H:Hp) (Q:List V->Hp->Prop),Inv X af σ H s->t σ H Q->wpAny (model X.prog X.w) X.A (spliced (backTo pos (starEach es X.env))) (AP X af σ Q) X.xe s
noncomputable def PS (X:Cx)(st:Stmt)(t:TS):Prop:=
 ∀(af:List (Addr×Obj)) (s:Shared) (σ:St) (H:Hp) (D:Ends),Inv X af σ H s->t D σ H->wpAny (model X.prog X.w) X.A (exec st X.env) (SP X af D) X.xe s
noncomputable def PSs (X:Cx)(st:List Stmt)(t:TS):Prop:=
 ∀(af:List (Addr×Obj)) (s:Shared) (σ:St) (H:Hp) (D:Ends),Inv X af σ H s->t D σ H->wpAny (model X.prog X.w) X.A (execs st X.env) (SP X af D) X.xe s
theorem thn        (h:wpAny M A t Q E s)(hQ:∀a s,Q a s->Q' a s):wpAny M A t Q' E s:=wpAny_mono h hQ fun _ _ x=>x
end L2
namespace L2
open PySem PySem.Spec PyProof.Rows
section
variable {X:Cx}
noncomputable def tVar (i:Nat):TE:=fun σ H Q=>∃v,σ[i]?=some (some v)/\Q v H
noncomputable def tC (v:V):TE:=fun _ H Q=>Q v H
theorem AH_    (hN:X.N[i]?=some x)(hv:Vis X.env.scope x)(hd:(x==("__debug__" : Str))=false:=by decide)(bo:(x==("__classdict__" : Str))=false:=by decide):PE X (.Name x pos) (tVar i):=by
 intro af s σ H Q I h
 obtain⟨v,e,h⟩:=h
 obtain⟨m,hn,hl⟩:=I.loc
 obtain⟨u,r,l⟩:=hl i x v hN e hv
 have fin:EP X af σ Q u s:=⟨v,H,I,r,h⟩
 rcases l with ⟨hk,hm⟩|⟨hk,c,hc,dk⟩
 ·exact wpAny_Name (wpAny_loadName_local I.ok.kind hk hn hm fin) hd
 ·rcases hk with hk|hk
  ·exact wpAny_Name (wpAny_loadName_cell I.ok.kind hk hc dk fin) hd
  ·exact wpAny_Name (wpAny_loadName_free I.ok.kind hk hc dk fin bo) hd
theorem Ae {i j pos}:PE X (.Constant (.int i) j pos) (tC (.int i)):=fun _ _ _ H _ I h=>wpAny_Constant_int ⟨.int i,H,I.tok _,⟨_,rfl⟩,h⟩
theorem AI_ {b j pos}:PE X (.Constant (.bool b) j pos) (tC (.bl b)):=fun _ _ _ H _ I h=>Constant_bool ⟨.bl b,H,I,rfl,h⟩
theorem AJ_ {j pos}:PE X (.Constant .none j pos) (tC .non):=fun _ _ _ H _ I h=>Constant_none ⟨.non,H,I,rfl,h⟩
theorem AK_ {x j pos}:PE X (.Constant (.str x) j pos) (tC (.str x)):=fun _ _ _ H _ I h=>Calls.Constant_str ⟨.str x,H,I.tok _,⟨_,rfl⟩,h⟩
noncomputable def Gl (X:Cx)(x:Str):Prop:=X.env.kindOf x=some .globalImplicit
theorem UH          (I:Inv X af σ H s)(hg:Gl X x)(hm:X.mg x=some u)(h:Q u s)
  (hd:(x==("__debug__" : Str))=false:=by decide):wpAny (model X.prog X.w) X.A (eval (.Name x pos) X.env) Q E s:=
 Calls.Name_function_global I.ok.kind hg (Calls.loadGlobal_global (by rw[I.ok.glob];exact I.mod.glob.keeps I.bk) hm h) hd
theorem He          (I:Inv X af σ H s)(hg:Gl X x)(hm:X.mg x=none)(hv:bootBuiltins x=some u)(h:Q u s)
  (hn:x ≠ "__name__" := by decide) (hd:(x==("__debug__" : Str))=false:=by decide):wpAny (model X.prog X.w) X.A (eval (.Name x pos) X.env) Q E s:=by
 obtain⟨mb,h1,h2⟩:=I.mod.blt
 exact Calls.Name_function_global I.ok.kind hg (Calls.loadGlobal_builtin (by rw[I.ok.glob];exact I.mod.glob.keeps I.bk) hm (by rw[I.ok.blt];exact h1.keeps I.bk) ((h2 x hn).trans hv) h) hd
variable {a b:Expr} {ta tb:TE} {pos:Pos}
noncomputable def PC (X:Cx)(op:CmpOp)(a b:Expr)(t:TE):Prop:=
 ∀(af:List (Addr×Obj)) (s:Shared) (σ:St) (H:Hp) (Q:VK),Inv X af σ H s->t σ H Q ->
  wpAny (model X.prog X.w) X.A (eval a X.env) (fun v s₁=>wpAny (model X.prog X.w) X.A (eval b X.env) (fun u a7=>wpAny (model X.prog X.w) X.A (compareOp op v u) (EP X af σ Q) X.xe a7) X.xe s₁) X.xe s
theorem WK (b:Expr)  (h:op ≠ .In)(h2:op ≠ .NotIn):behindInMarks op b=false:=by
 have e1:(op==CmpOp.In)=false:=by cases op<;>first|rfl|exact absurd rfl h
 have e2:(op==CmpOp.NotIn)=false:=by cases op<;>first|rfl|exact absurd rfl h2
 cases b<;>simp[behindInMarks,e1,e2]
noncomputable def tB (t:TE):TT:=fun σ H Q=>t σ H fun x H1=>∃c,x=.bl c/\Q c H1
theorem Ye   (h:PC X op a b t)(h1:behindInMarks op b=false:=by first|exact WK _ (by decide) (by decide)|rfl):PT X (.Compare a [op] [b] pos) (tB t):=by
 intro af s σ H Q I hw
 refine wpAny_isTrue_Compare1 (thn (h af s σ H _ I hw) fun v s1 h1=>thn h1 fun u s2 h2=>thn h2 fun c s3 ⟨x,H1,I1,r1,q1⟩=>?_) h1
 obtain⟨d,rfl,q⟩:=q1
 cases r1
 exact wpAny_truthy_bool ⟨H1,I1,q⟩
theorem AL_   (h:PE X e t)(he:∀dj,isTrue e X.env dj=(do let v <- dj;standAt e.pos;holding [v] (truthy v)):=by intro _;rfl):PT X e (tB t):=by
 intro af s σ H Q I hw
 refine isTrue_plain (thn (h af s σ H _ I hw) fun v s1 ⟨x,H1,I1,r1,q1⟩=>?_) (he _)
 obtain⟨d,rfl,q⟩:=q1
 cases r1
 exact wpAny_truthy_bool ⟨H1,I1,q⟩
variable {tA lq:TT} {rest:List Expr}
noncomputable def tAnd (t u:TT):TT:=fun σ H Q=>t σ H fun c H1=>if c=true then u σ H1 Q else Q false H1
noncomputable def tOr (t u:TT):TT:=fun σ H Q=>t σ H fun c H1=>if c=true then Q true H1 else u σ H1 Q
noncomputable def tNot (t:TT):TT:=fun σ H Q=>t σ H fun c H1=>Q (!c) H1
theorem F9 (ha:PT X a tA):PW X (.BoolOp .And [a] pos) tA:=by
 intro wh af s σ H Q I h
 refine isTrue_and (thn (ha af s σ H Q I h) fun c s1 e=>?_)
 cases c with
 |true=>exact isTrue_and_nil e
 |false=>exact e
theorem UI (ha:PT X a tA):PW X (.BoolOp .Or [a] pos) tA:=by
 intro wh af s σ H Q I h
 refine isTrue_or (thn (ha af s σ H Q I h) fun c s1 e=>?_)
 cases c with
 |false=>exact isTrue_or_nil e
 |true=>exact e
theorem Ju (ha:PT X a tA)(hb:PW X (.BoolOp .And (b::rest) pos) lq):PW X (.BoolOp .And (a::b::rest) pos) (tAnd tA lq):=by
 intro wh af s σ H Q I h
 refine isTrue_and (thn (ha af s σ H _ I h) fun c s1 ⟨H1,I1,q1⟩=>?_)
 cases c with
 |true=>exact hb wh af s1 σ H1 Q I1 q1
 |false=>exact⟨H1,I1,q1⟩
theorem Zr (ha:PT X a tA)(hb:PW X (.BoolOp .Or (b::rest) pos) lq):PW X (.BoolOp .Or (a::b::rest) pos) (tOr tA lq):=by
 intro wh af s σ H Q I h
 refine isTrue_or (thn (ha af s σ H _ I h) fun c s1 ⟨H1,I1,q1⟩=>?_)
 cases c with
 |true=>exact⟨H1,I1,q1⟩
 |false=>exact hb wh af s1 σ H1 Q I1 q1
theorem AM_ (ha:PT X a tA):PT X (.UnaryOp .Not a pos) (tNot tA):=by
 intro af s σ H Q I h
 exact isTrue_not (ha af s σ H (fun c H1=>Q (!c) H1) I h)
noncomputable def AN_ (ta tb:TE):TE:=fun σ H Q=>ta σ H fun x H1=>∃c,x=.bl c/\if c=true then tb σ H1 Q else Q (.bl false) H1
theorem AO_ {op}  (h:PE X a t):PE X (.BoolOp op [a] pos) t:=fun af s σ H Q I hw=>BoolOp_one (h af s σ H Q I hw)
theorem AP_ (ha:PE X a ta)(hb:PE X (.BoolOp .And (b::rest) pos) tb):PE X (.BoolOp .And (a::b::rest) pos) (AN_ ta tb):=by
 intro af s σ H Q I h
 refine BoolOp_and (thn (ha af s σ H _ I h) fun v s1 ⟨x,H1,I1,r1,q1⟩=>?_)
 obtain⟨c,rfl,q1⟩:=q1
 cases r1
 refine wpAny_truthy_bool ?_
 cases c with
 |true=>exact hb af s1 σ H1 Q I1 q1
 |false=>exact⟨.bl false,H1,I1,rfl,q1⟩
end
end L2
namespace L2
open PySem PySem.Spec PyProof.Rows
noncomputable def SqL (K:PySem.W.Frag)(H:Hp)(a:Addr)(xs:List V):Prop:=
 Rd H a (.lst xs) \/
  ∃(o:Obj) (its:Array Value) (n:Nat),K.lookup a=some o/\o.cls=.type "list" /\ o.dict=none/\o.data=.seq its n/\its.size<=sizeLine/\Vals xs its.toList
noncomputable def SqT (K:PySem.W.Frag)(H:Hp)(a:Addr)(xs:List V):Prop:=
 Rd H a (.tup xs) \/
  ∃(o:Obj) (its:Array Value) (n:Nat),K.lookup a=some o/\o.cls=.type "tuple" /\ o.data=.seq its n/\its.size<=sizeLine/\Vals xs its.toList
noncomputable def absV:Value->Option V
 |.none=>some .non
 |.bool b=>some (.bl b)
 |.int i _=>some (.int i)
 |.str x _=>some (.str x)
 |.bytes b _=>some (.byt b)
 |.float b _=>some (.flt b)
 |.ref a=>some (.ref a)
 |.type n=>some (.ty n)
 |_=>none
theorem RelV.abs   (r:RelV x u):absV u=some x:=by
 cases x with
 |non=>cases r;rfl
 |bl _=>cases r;rfl
 |int _=>obtain⟨t,rfl⟩:=r;rfl
 |str _=>obtain⟨t,rfl⟩:=r;rfl
 |byt _=>obtain⟨t,rfl⟩:=r;rfl
 |flt _=>obtain⟨t,rfl⟩:=r;rfl
 |ref _=>cases r;rfl
 |ty _=>cases r;rfl
theorem RelV.inj   (r:RelV x u)(q:RelV y u):x=y:=Option.some.inj (r.abs.symm.trans q.abs)
theorem Vals.inj:∀{xs ys:List V} {us:List Value},Vals xs us->Vals ys us->xs=ys
 |_,_,_,.nil,.nil=>rfl
 |_,_,_,.cons r t,.cons r' t'=>by rw[r.inj r',Vals.inj t t']
section
variable {X:Cx} {af:List (Addr×Obj)} {σ:St} {H:Hp} {s:Shared} {a:Addr} {xs ys:List V}
theorem SqL.of {K:PySem.W.Frag}(h:H a=some (.lst xs)):SqL K H a xs:=.inl (.inl h)
theorem SqT.of {K:PySem.W.Frag}(h:H a=some (.tup xs)):SqT K H a xs:=.inl (.inl h)
theorem Inv.list (I:Inv X af σ H s)(h:SqL X.K H a xs):∃its:List Value,Vals xs its/\PlainL s.heap a its.toArray/\xs.length<=sizeLine:=by
 rcases h with h|⟨o,its,n,hk,hc,hd,hs,hz,r⟩
 ·obtain⟨z,its,n,r,e⟩:=h.ok I.hok
  exact⟨its,r,⟨_,n,e,rfl,rfl,rfl⟩,z⟩
 ·refine⟨its.toList,r,⟨o,n,I.kIn a o hk,hc,hd,by simpa using hs⟩,?_⟩
  have e:=r.length
  simp only[Array.length_toList]at e
  lia
theorem Inv.tuple (I:Inv X af σ H s)(h:SqT X.K H a xs):∃its:List Value,Vals xs its/\IsTup s.heap a its.toArray/\xs.length<=sizeLine:=by
 rcases h with h|⟨o,its,n,hk,hc,hs,hz,r⟩
 ·obtain⟨z,its,r,p⟩:=h.ok I.hok
  exact⟨its,r,p,z⟩
 ·refine⟨its.toList,r,⟨o,I.kIn a o hk,hc,n,by simpa using hs⟩,?_⟩
  have e:=r.length
  simp only[Array.length_toList]at e
  lia
theorem Inv.list_inj (I:Inv X af σ H s)(h:SqL X.K H a xs)(h':SqL X.K H a ys):xs=ys:=by
 obtain⟨its,r,⟨o,n,e,_,_,d⟩,_⟩:=I.list h
 obtain⟨its',r',⟨o',n',e',_,_,d'⟩,_⟩:=I.list h'
 rw[e]at e';cases e'
 rw[d]at d'
 injection d' with d1 _
 have:its=its':=by simpa using congrArg Array.toList d1
 subst this
 exact r.inj r'
theorem Inv.tuple_inj (I:Inv X af σ H s)(h:SqT X.K H a xs)(h':SqT X.K H a ys):xs=ys:=by
 obtain⟨its,r,⟨o,e,_,n,d⟩,_⟩:=I.tuple h
 obtain⟨its',r',⟨o',e',_,n',d'⟩,_⟩:=I.tuple h'
 rw[e]at e';cases e'
 rw[d]at d'
 injection d' with d1 _
 have:its=its':=by simpa using congrArg Array.toList d1
 subst this
 exact r.inj r'
end
noncomputable abbrev Cx.wish (X:Cx)(E:Value->Shared->Prop):Cx:={X with xe:=E}
noncomputable abbrev Cx.nox (X:Cx):Cx:=X.wish fun _ _=>False
theorem Cx.Ok.wish {X:Cx}(ok:X.Ok)(E:Value->Shared->Prop):(X.wish E).Ok:=
 ⟨ok.mod,ok.kind,ok.glob,ok.blt,ok.above,ok.inj,ok.has,ok.cab,ok.hd,ok.frames,ok.stk,ok.exf,ok.bs,ok.bsz,ok.noex,ok.exfs,ok.funs,ok.frf⟩
theorem Cx.Ok.unwish {X:Cx}{E:Value->Shared->Prop}(ok:(X.wish E).Ok):X.Ok:=
 ⟨ok.mod,ok.kind,ok.glob,ok.blt,ok.above,ok.inj,ok.has,ok.cab,ok.hd,ok.frames,ok.stk,ok.exf,ok.bs,ok.bsz,ok.noex,ok.exfs,ok.funs,ok.frf⟩
section
variable {X:Cx} {af:List (Addr×Obj)} {σ:St} {H:Hp} {s:Shared} {E:Value->Shared->Prop}
theorem Inv.wish (I:Inv X af σ H s)(E:Value->Shared->Prop):Inv (X.wish E) af σ H s:=⟨I.ok.wish E,I.os,I.bare,I.base,I.loc,I.cell,I.free,I.freeC,I.pin,I.hok,I.len⟩
theorem Inv.unwish (I:Inv (X.wish E) af σ H s):Inv X af σ H s:=⟨I.ok.unwish,I.os,I.bare,I.base,I.loc,I.cell,I.free,I.freeC,I.pin,I.hok,I.len⟩
theorem SP.unwish    (h:SP (X.wish E) af D f s'):SP X af D f s':=by
 cases f with
 |next=>obtain⟨ah,H',I,q⟩:=h;exact⟨ah,H',I.unwish,q⟩
 |brk=>obtain⟨ah,H',I,q⟩:=h;exact⟨ah,H',I.unwish,q⟩
 |cont=>obtain⟨ah,H',I,q⟩:=h;exact⟨ah,H',I.unwish,q⟩
 |ret u=>obtain⟨v,ah,H',I,r,q⟩:=h;exact⟨v,ah,H',I.unwish,r,q⟩
theorem PSs.nox {st:List Stmt}  (h:PSs X.nox st t):PSs X st t:=fun af s σ H D I hw=>
 wpAny_mono (h af s σ H D (I.wish _) hw) (fun _ _ q=>q.unwish) fun _ _ z=>False.elim z
end
section
variable {X:Cx} {st:Stmt} {rest:List Stmt} {t u:TS} {e:Expr} {te:TE} {pos:Pos}
noncomputable def AQ_:TS:=fun D σ H=>D.nx σ H
noncomputable def tSeq (t u:TS):TS:=fun D σ H=>t {D with nx:=u D} σ H
theorem Bg:PSs X [] AQ_:=fun _ _ σ H _ I h=>wpAny_execs_nil ⟨σ,H,I,h⟩
theorem Ac (h1:PS X st t)(h2:PSs X rest u):PSs X (st::rest) (tSeq t u):=by
 intro af s σ H D I h
 refine wpAny_execs_cons (thn (h1 af s σ H {D with nx:=u D} I h) fun f s1 q=>?_)
 cases f with
 |next=>
  obtain⟨ah,H',I',q⟩:=q
  exact h2 af s1 ah H' D I' q
 |ret v=>exact q
 |brk=>exact q
 |cont=>exact q
theorem Ag (h1:PS X st t):PSs X [st] t:=by
 intro af s σ H D I h
 refine wpAny_execs_cons (thn (h1 af s σ H D I h) fun f s1 q=>?_)
 cases f with
 |next=>exact wpAny_execs_nil q
 |ret v=>exact q
 |brk=>exact q
 |cont=>exact q
theorem Inv.quiet     (I:Inv X af σ H s):interactive X.env=false:=by simp[interactive,I.ok.kind]
noncomputable def AR_ (te:TE):TS:=fun D σ H=>te σ H fun _ H1=>D.nx σ H1
theorem Bv (he:PE X e te)(hs:swapsWith e none pos.line X.env=pure false:=by rfl):PS X (.Expr e pos) (AR_ te):=by
 intro af s σ H D I h
 exact wpAny_Expr_any (thn (he af s σ H _ I h) fun v s1 ⟨x,H1,I1,r1,q1⟩=>⟨σ,H1,I1,q1⟩) I.quiet hs
noncomputable def tRet (te:TE):TS:=fun D σ H=>te σ H D.rt
theorem A0 (he:PE X e te):PS X (.Return (some e) pos) (tRet te):=by
 intro af s σ H D I h
 exact wpAny_Return_some (thn (he af s σ H _ I h) fun v s1 ⟨x,H1,I1,r1,q1⟩=>⟨x,σ,H1,I1,r1,q1⟩)
noncomputable def tIfS (c:TT)(t u:TS):TS:=fun D σ H=>c σ H fun b H1=>if b=true then t D σ H1 else u D σ H1
theorem DE    (hc:PT X c tc)(ha:PSs X a t)(hb:PSs X b u):PS X (.If c a b pos) (tIfS tc t u):=by
 intro af s σ H D I h
 refine wpAny_If (thn (hc af s σ H _ I h) fun d s1 ⟨H1,I1,q1⟩=>?_)
 cases d with
 |true=>exact ha af s1 σ H1 D I1 q1
 |false=>exact hb af s1 σ H1 D I1 q1
end
noncomputable abbrev TG:=V->St->Hp->(St->Hp->Prop)->Prop
noncomputable abbrev TGs:=List V->St->Hp->(St->Hp->Prop)->Prop
noncomputable def PG (X:Cx)(bz:Expr)(t:TG):Prop:=
 ∀(af:List (Addr×Obj)) (s:Shared) (σ:St) (H:Hp) (v:V) (u:Value) (Q:St->Hp->Prop),Inv X af σ H s->RelV v u->t v σ H Q ->
  wpAny (model X.prog X.w) X.A (assign bz X.env u) (fun _ s'=>∃ah H',Inv X af ah H' s'/\Q ah H') X.xe s
noncomputable def PGs (X:Cx)(ts:List Expr)(t:TGs):Prop:=
 ∀(af:List (Addr×Obj)) (s:Shared) (σ:St) (H:Hp) (vs:List V) (us:List Value) (Q:St->Hp->Prop),Inv X af σ H s->Vals vs us->t vs σ H Q ->
  wpAny (model X.prog X.w) X.A (assignInOrder ((assignEach ts X.env).map (·.2)) us) (fun _ s'=>∃ah H',Inv X af ah H' s'/\Q ah H') X.xe s
noncomputable abbrev TSet:=V->V->V->Hp->(Hp->Prop)->Prop
noncomputable def PSet (X:Cx)(t:TSet):Prop:=
 ∀(af:List (Addr×Obj)) (s:Shared) (σ:St) (H:Hp) (o i v:V) (ov iv u:Value) (Q:Hp->Prop),Inv X af σ H s->RelV o ov->RelV i iv->RelV v u->t o i v H Q ->
  wpAny (model X.prog X.w) X.A (setItem ov iv u) (fun _ s'=>∃H',Inv X af σ H' s'/\Q H') X.xe s
noncomputable abbrev TIp:=V->V->Hp->VK->Prop
noncomputable def PIp (X:Cx)(op:Operator)(t:TIp):Prop:=
 ∀(af:List (Addr×Obj)) (s:Shared) (σ:St) (H:Hp) (x y:V) (v u:Value) (Q:VK),Inv X af σ H s->RelV x v->RelV y u->t x y H Q ->
  wpAny (model X.prog X.w) X.A (inplaceOp op v u) (EP X af σ Q) X.xe s
section
variable {X:Cx} {pos:Pos}
noncomputable def Mb (i:Nat):TG:=fun v σ H Q=>Q (σ.set i (some v)) H
theorem Ar   (hN:X.N.Nodup)(hi:X.N[i]?=some x)(hx:Loc X.env.scope x)(hf:X.fn x=true\/X.env.scope.names.lookup x=some .local:=by first|exact .inl rfl|exact .inr rfl|assumption):PG X (.Name x pos) (Mb i):=by
 intro af s σ H v u Q I r h
 exact wpAny_assign_Name (Nj I hN hi hx r (fun s' I'=>⟨_,H,I',h⟩) hf)
noncomputable def gNil:TGs:=fun vs σ H Q=>vs=[]/\Q σ H
noncomputable def AS_ (t:TG)(u:TGs):TGs:=fun vs σ H Q=>∃v r,vs=v::r/\t v σ H fun ah H'=>u r ah H' Q
theorem UJ:PGs X [] gNil:=by
 intro af s σ H vs us Q I r h
 obtain⟨e,h⟩:=h
 subst e
 cases r
 exact assignInOrder_nil ⟨σ,H,I,h⟩
theorem Kl     (h1:PG X e t)(h2:PGs X es u)
  (hs:(assignEach (e::es) X.env).map (·.2)=assign e X.env::(assignEach es X.env).map (·.2):=by rfl):PGs X (e::es) (AS_ t u):=by
 intro af s σ H vs us Q I r h
 obtain⟨v,vr,e1,h⟩:=h
 subst e1
 cases r with
 |cons r rr=>
  rw[hs]
  refine assignInOrder_cons (thn (h1 af s σ H _ _ _ I r h) fun _ s1 ⟨h8,H1,I1,q1⟩=>?_)
  exact h2 af s1 h8 H1 _ _ Q I1 rr q1
noncomputable def gTup (K:PySem.W.Frag)(n:Nat)(t:TGs):TG:=fun v σ H Q=>∃a xs,v=.ref a/\SqT K H a xs/\xs.length=n/\t xs σ H Q
theorem Yf     (hc:X.calm=true)(h:PGs X es t)
  (hn:(assignEach es X.env).length=n:=by rfl) (ju:(assignEach es X.env).findIdx? (·.1)=none:=by rfl):PG X (.Tuple es k pos) (gTup X.K n t):=by
 intro af s σ H v u Q I r hw
 obtain⟨a,xs,e1,hq,hl,hw⟩:=hw
 subst e1
 cases r
 obtain⟨its,rv,ht,hz⟩:=I.tuple hq
 refine assign_Tuple_tuple (I.ok.hd hc) ht (by simp[hn,<-hl,rv.length]) ju fun h' hx=>?_
 have I1:Inv X af σ H {s with heap:=h' }:=I.kept (t':=s.toks) fun b o e=>hx b o (Nat.ne_of_lt (Heap.lt_size e)) e
 exact h af _ σ H xs _ Q I1 (by simpa using rv) hw
noncomputable def gSub (to ti:TE)(t:TSet):TG:=fun v σ H Q=>to σ H fun o H1=>ti σ H1 fun i H2=>t o i v H2 fun H3=>Q σ H3
theorem UK    (ho:PE X o to)(hi:PE X i ti)(hs:PSet X t)
  (ha:∀v,assign (.Subscript o i pos) X.env v=(do
   let ov <- holding [v] (eval o X.env)
   let iv <- holding [v,ov] (eval i X.env)
   standAt pos
   holding [v,ov,iv] (setItem ov iv v)
   release [v,ov,iv] []):=by intro _;rfl):PG X (.Subscript o i pos) (gSub to ti t):=by
 intro af s σ H v u Q I r h
 rw[ha]
 refine wpAny_bind (wpAny_holding (thn (ho af s σ H _ I h) fun ov s1 ⟨x,H1,I1,r1,q1⟩=>?_))
 refine wpAny_bind (wpAny_holding (thn (hi af s1 σ H1 _ I1 q1) fun iv s2 ⟨y,H2,I2,r2,q2⟩=>?_))
 refine wpAny_bind (wpAny_standAt (wpAny_bind (wpAny_holding (thn (hs af s2 σ H2 x y v ov iv u _ I2 r1 r2 r q2) fun _ s3 ⟨H3,I3,q3⟩=>?_))))
 exact wpAny_release ⟨σ,H3,I3,q3⟩
noncomputable def tAsg (te:TE)(g:TG):TS:=fun D σ H=>te σ H fun x H1=>g x σ H1 D.nx
theorem UL    (he:PE X e te)(hg:PG X tg g)(hs:swapsWithSole [tg] e pos.line X.env=pure false:=by rfl)(hw:swappedStores [tg] e X.env=pure none:=by rfl)
  (h1:(assignEach [tg] X.env).map (·.2)=[assign tg X.env]:=by rfl):PS X (.Assign [tg] e pos) (tAsg te g):=by
 intro af s σ H D I h
 refine wpAny_Assign_stores (thn (he af s σ H _ I h) fun v s1 ⟨x,H1,I1,r1,q1⟩=>?_) hs hw
 rw[h1]
 exact thn (hg af s1 σ H1 x v _ I1 r1 q1) fun _ s2 q=>q
theorem CG      (hN:X.N.Nodup)(hi:X.N[i]?=some x)(hx:Loc X.env.scope x)(he:PE X e te)(hs:swapsWith e (some (.Name x bK)) pos.line X.env=pure false:=by rfl)(hf:X.fn x=true\/X.env.scope.names.lookup x=some .local:=by first|exact .inl rfl|exact .inr rfl|assumption):
  PS X (.Assign [.Name x bK] e pos) (tAsg te (Mb i)):=by
 intro af s σ H D I h
 refine wpAny_Assign_Name (thn (he af s σ H _ I h) fun v s1 ⟨y,H1,I1,r1,q1⟩=>?_) hs
 exact Nj I1 hN hi hx r1 (fun s2 I2=>⟨_,H1,I2,q1⟩) hf
noncomputable def tAug (i:Nat)(te:TE)(ti:TIp):TS:=fun D σ H=>∃x,σ[i]?=some (some x)/\te σ H fun y H1=>ti x y H1 fun z H2=>D.nx (σ.set i (some z)) H2
theorem UM        (hN:X.N.Nodup)(hi:X.N[i]?=some x)(hx:Loc X.env.scope x)(he:PE X e te)(ho:PIp X op ti)(hf:X.fn x=true\/X.env.scope.names.lookup x=some .local:=by first|exact .inl rfl|exact .inr rfl|assumption):
  PS X (.AugAssign (.Name x bK) op e pos) (tAug i te ti):=by
 intro af s σ H D I h
 obtain⟨v,e1,h⟩:=h
 obtain⟨m,hn,hl⟩:=I.loc
 have mH:Vis X.env.scope x:=by rcases hx with k|k;exact .inl k;exact .inr (.inl k)
 obtain⟨u,r,l⟩:=hl i x v hi e1 mH
 refine wpAny_AugAssign_Name ?_
 have go:wpAny (model X.prog X.w) X.A (eval e X.env) (fun w a7=>wpAny (model X.prog X.w) X.A (inplaceOp op u w) (fun r bL=>wpAny (model X.prog X.w) X.A (storeName X.env x r) (fun _=>SP X af D .next) X.xe bL) X.xe a7) X.xe s:=by
  refine thn (he af s σ H _ I h) fun w s1 ⟨y,H1,I1,r1,q1⟩=>?_
  refine thn (ho af s1 σ H1 v y u w _ I1 r r1 q1) fun z s2 ⟨zv,H2,I2,r2,q2⟩=>?_
  exact Nj I2 hN hi hx r2 (fun s3 I3=>⟨_,H2,I3,q2⟩) hf
 rcases l with ⟨hk,hm⟩|⟨hk,c,hc,dk⟩
 ·exact wpAny_loadName_local I.ok.kind hk hn hm go
 ·rcases hk with hk|hk
  ·exact wpAny_loadName_cell I.ok.kind hk hc dk go
  ·rcases hx with k|k
   ·have:X.env.scope.names.lookup x=some .free:=hk
    rw[k]at this;cases this
   ·have:X.env.scope.names.lookup x=some .free:=hk
    rw[k]at this;cases this
noncomputable def ipI (f:Int->Int->Int):TIp:=fun x y H Q=>∃i j,x=.int i/\y=.int j/\Q (.int (f i j)) H
theorem Yg:PIp X .Add (ipI fun i j=>i+j):=by
 intro af s σ H x y v u Q I r1 r2 h
 obtain⟨i,j,e1,e2,q⟩:=h
 subst e1;subst e2
 obtain⟨t,rfl⟩:=r1
 obtain⟨t',rfl⟩:=r2
 exact iadd_int ⟨.int _,H,I.tok _,⟨_,rfl⟩,q⟩
theorem AT_:PIp X .Sub (ipI fun i j=>i-j):=by
 intro af s σ H x y v u Q I r1 r2 h
 obtain⟨i,j,e1,e2,q⟩:=h
 subst e1;subst e2
 obtain⟨t,rfl⟩:=r1
 obtain⟨t',rfl⟩:=r2
 exact isub_int ⟨.int _,H,I.tok _,⟨_,rfl⟩,q⟩
end
section
variable {X:Cx} {pos:Pos}
noncomputable def Yh (c:TT)(tb:TS):TS:=fun D σ H=>∃W:Nat->St->Hp->Prop,(∃m,W m σ H)/\∀m σ H,W m σ H ->
 c σ H fun b H1=>if b=true then ∃N:St->Hp->Prop,(∀ah H',N ah H'->∃m',m'<m/\W m' ah H')/\tb {D with nx:=N,ct:=N,bk:=D.nx} σ H1 else D.nx σ H1
theorem GL     (hp:PassesOwn (model X.prog X.w) X.A X.env X.xe)(hc:PT X c tc)(hb:PSs X body tb):PS X (.While c body [] pos) (Yh tc tb):=by
 intro af s σ H D I h
 obtain⟨W,⟨m0,w0⟩,turn⟩:=h
 refine wpAny_While (codeAny_whileLoop (fun n s'=>∃ah H',Inv X af ah H' s'/\W n ah H') ?_ m0 ⟨σ,H,I,w0⟩)
 rintro n s1 ⟨h8,H1,I1,w1⟩
 refine wpAny_passesOwn hp (thn (hc af s1 h8 H1 _ I1 (turn n h8 H1 w1)) fun b s2 ⟨H2,I2,q2⟩=>?_)
 cases b with
 |true=>
  obtain⟨N,hN,q2⟩:=q2
  rw[if_pos rfl]
  refine wpAny_passesOwn hp (thn (hb af s2 h8 H2 _ I2 q2) fun f s3 q3=>?_)
  cases f with
  |next=>
   obtain⟨aH,H3,I3,n3⟩:=q3
   obtain⟨m',hm,w3⟩:=hN aH H3 n3
   exact⟨m',hm,aH,H3,I3,w3⟩
  |cont=>
   obtain⟨aH,H3,I3,n3⟩:=q3
   obtain⟨m',hm,w3⟩:=hN aH H3 n3
   exact⟨m',hm,aH,H3,I3,w3⟩
  |brk=>exact q3
  |ret v=>exact q3
 |false=>
  rw[if_neg Bool.false_ne_true]
  exact wpAny_execs_nil ⟨h8,H2,I2,q2⟩
end
structure It where
 go:Nat->Hp->Prop
 yld:Nat->Hp->V->Hp->Prop
 stop:Nat->Hp->Prop
noncomputable def FpOk (X:Cx)(af:List (Addr×Obj))(H:Hp)(b:Addr):Prop:=
 H b=none/\b≠X.env.locals/\b∉X.fs/\(b∈X.ex\/X.s₀.heap.objs.size<=b)/\(∀x c,X.env.cells.lookup x=some c->c≠b)/\∀p∈X.pn++af,p.1≠b
theorem Inv.fpOk       (I:Inv X af σ H s)(hb:s.heap.objs.size<=b)(hn:H' b=none):FpOk X af H' b:=by
 refine⟨hn,Nat.ne_of_gt (Nat.lt_of_lt_of_le I.lt hb),I.nofs hb,.inr (Nat.le_trans I.sz hb),fun x c e z=>?_,fun p hp z=>?_⟩
 ·obtain⟨v,q⟩:=I.cell x c e
  exact absurd (Nat.lt_of_lt_of_le q.lt (by rw[z];exact hb)) (Nat.lt_irrefl _)
 ·exact absurd (Nat.lt_of_lt_of_le (Heap.lt_size (I.pin p hp).1) (by rw[z];exact hb)) (Nat.lt_irrefl _)
structure Turn (P:Program)(w:World)(K:PySem.W.Frag)(tg:Expr)(J:It)(fp:List Addr)(it:Addr)(tn:Nat->Heap->Prop):Prop where
 mem:it∈fp
 obj:∀i h,tn i h->∀b∈fp,∃o,h.get? b=some o/\∀v,o.data ≠ .cell v
 keep:∀i h h',tn i h->(∀b∈fp,∀o,h.get? b=some o->h'.get? b=some o)->tn i h'
 item:∀(X:Cx),X.prog=P->X.w=w->X.K=K->X.calm=true->∀(i:Nat) (af:List (Addr×Obj)) (s:Shared) (σ:St) (H:Hp) (E:Value->Shared->Prop),Inv X af σ H s->(∀b∈fp,FpOk X af H b)->tn i s.heap->J.go i H ->
  wpAny (model P w) X.A (pyNext (.ref it)) (fun r s1=>∃u,r=some u /\
   wpAny (model P w) X.A (letOwnedTupleGo tg (.ref it) u) (fun _ s2=>∃x H',Inv X af σ H' s2/\RelV x u/\J.yld i H x H'/\tn (i+1) s2.heap/\∀b∈fp,H' b=none) E s1) E s
 done:∀(X:Cx),X.prog=P->X.w=w->X.K=K->X.calm=true->∀(i:Nat) (af:List (Addr×Obj)) (s:Shared) (σ:St) (H:Hp) (E:Value->Shared->Prop),Inv X af σ H s->(∀b∈fp,FpOk X af H b)->tn i s.heap->J.stop i H ->
  wpAny (model P w) X.A (pyNext (.ref it)) (fun r s1=>r=none/\Inv X af σ H s1) E s
 self:∀(A:Around) (i:Nat) (s:Shared) (Q:Value->Shared->Prop) (E:Value->Shared->Prop),tn i s.heap->Q (.ref it) s->wpAny (model P w) A (pyIter (.ref it)) Q E s
noncomputable abbrev TI:=St->Hp->(It->Hp->Prop)->Prop
noncomputable def PIE (X:Cx)(af:List (Addr×Obj))(σ:St)(tg:Expr)(R:It->Hp->Prop)(lr:Value)(s2:Shared):Prop:=
 ∃(it:Addr) (fp:List Addr) (tn:Nat->Heap->Prop) (J:It) (H':Hp),lr=.ref it/\Inv X af σ H' s2/\Turn X.prog X.w X.K tg J fp it tn/\tn 0 s2.heap/\(∀b∈fp,FpOk X af H' b)/\R J H'
noncomputable def PI (X:Cx)(tg iter:Expr)(wi:TI):Prop:=
 ∀(af:List (Addr×Obj)) (s:Shared) (σ:St) (H:Hp) (R:It->Hp->Prop),Inv X af σ H s->wi σ H R ->
  wpAny (model X.prog X.w) X.A (eval iter X.env) (fun v s1=>wpAny (model X.prog X.w) X.A (pyIter v) (PIE X af σ tg R) X.xe s1) X.xe s
theorem Zs      {it:Addr}      (ho:s.heap.get? it=some o)(hc:o.cls=.type n)(hd:o.data=.fields vs)
    (hn:["enumerate","zip","dict_itemiterator","dict_reverseitemiterator","odict_iterator","itertools.zip_longest","itertools.pairwise"].contains n=false) (hQ:Q () s):wpAny M A (letOwnedTupleGo tg (.ref it) u) Q E s:=by
  unfold letOwnedTupleGo
  cases tg<;>first
    | exact wpAny_pure hQ
    | (cases u<;>first
        | exact wpAny_pure hQ
        | (refine wpAny_bind (wpAny_load ho ?_)
           rw[hc,hd]
           show wpAny M A (if (["enumerate","zip","dict_itemiterator","dict_reverseitemiterator","odict_iterator","itertools.zip_longest","itertools.pairwise"].contains n&&vs[0]? == some (rawInt _))=true then _ else _) Q E s
           rw[if_neg (by intro h;rw[hn,Bool.false_and]at h;cases h)]
           exact wpAny_pure hQ))
noncomputable def Itl (K:PySem.W.Frag)(a:Addr):It:=
 ⟨fun i H=>∃xs x,SqL K H a xs/\xs[i]?=some x,fun i H x H'=>H'=H/\∀xs,SqL K H a xs->xs[i]?=some x,fun i H=>∃xs,SqL K H a xs/\xs.length<=i⟩
noncomputable def Itt (K:PySem.W.Frag)(a:Addr):It:=
 ⟨fun i H=>∃xs x,SqT K H a xs/\xs[i]?=some x,fun i H x H'=>H'=H/\∀xs,SqT K H a xs->xs[i]?=some x,fun i H=>∃xs,SqT K H a xs/\xs.length<=i⟩
noncomputable def Itr (lo:Int)(n:Nat):It:=⟨fun i _=>i<n,fun i H x H'=>H'=H/\x=.int (lo+i),fun i _=>n<=i⟩
theorem OX {P:Program}{w:World}{K:PySem.W.Frag}{tg:Expr}(a it:Addr):Turn P w K tg (Itl K a) [it] it (fun i h=>h.IsListIter it a i) where
 mem:=by simp
 obj:=fun i h st b hb=>by
  have e:b=it:=by simpa using hb
  subst e
  obtain⟨o,e,c,d⟩:=st
  exact⟨o,e,fun v z=>by rw[d]at z;cases z⟩
 keep:=fun i h h' st k=>st.at fun o e=>k it (by simp) o e
 item:=by
  intro X hP hw hK hc i af s σ H E I hf st hg
  subst hP hw hK
  obtain⟨xs,x,hq,hx⟩:=hg
  obtain⟨its,rv,p,hz⟩:=I.list hq
  obtain⟨u,hu,ru⟩:=rv.get hx
  obtain⟨f0,f1,f2,f3,f4,f5⟩:=hf it (by simp)
  refine wpAny_pyNext_list_item st p.isList (x:=u) (by simpa using hu) fun h' ag sb=>?_
  have I1:Inv X af σ H {s with heap:=h' }:=I.turned (t':=s.toks) (fun b o hb e=>(sb.2 b hb).trans e) f0 f1 f3 f4 f5
  obtain⟨o,e,c,d⟩:=id ag
  exact⟨u,rfl,Zs (s:={s with heap:=h' }) e c d (by decide) ⟨x,H,I1,ru,⟨rfl,fun ys hy=>by rw[I.list_inj hy hq];exact hx⟩,ag,fun b hb=>(hf b hb).1⟩⟩
 done:=by
  intro X hP hw hK hc i af s σ H E I hf st hg
  subst hP hw hK
  obtain⟨xs,hq,hx⟩:=hg
  obtain⟨its,rv,p,hz⟩:=I.list hq
  obtain⟨f0,f1,f2,f3,f4,f5⟩:=hf it (by simp)
  have hl:=rv.length
  exact wpAny_pyNext_list_end (I.ok.hd hc) st p.isList (by simp;lia) fun h' eb=>⟨rfl,I.turned (t':=s.toks) (fun b o hb e=>eb b o hb e) f0 f1 f3 f4 f5⟩
 self:=fun _ _ _ _ _ st h=>wpAny_pyIter_listiter st h
theorem MG {P:Program}{w:World}{K:PySem.W.Frag}{tg:Expr}(a it:Addr):Turn P w K tg (Itt K a) [it] it (fun i h=>h.IsTupleIter it a i) where
 mem:=by simp
 obj:=fun i h st b hb=>by
  have e:b=it:=by simpa using hb
  subst e
  obtain⟨o,e,c,d⟩:=st
  exact⟨o,e,fun v z=>by rw[d]at z;cases z⟩
 keep:=fun i h h' st k=>st.at fun o e=>k it (by simp) o e
 item:=by
  intro X hP hw hK hc i af s σ H E I hf st hg
  subst hP hw hK
  obtain⟨xs,x,hq,hx⟩:=hg
  obtain⟨its,rv,p,hz⟩:=I.tuple hq
  obtain⟨u,hu,ru⟩:=rv.get hx
  obtain⟨f0,f1,f2,f3,f4,f5⟩:=hf it (by simp)
  refine wpAny_pyNext_tuple_item st (show s.heap.IsTuple a its.toArray from p) (x:=u) (by simpa using hu) fun h' ag sb=>?_
  have I1:Inv X af σ H {s with heap:=h' }:=I.turned (t':=s.toks) (fun b o hb e=>(sb.2 b hb).trans e) f0 f1 f3 f4 f5
  obtain⟨o,e,c,d⟩:=id ag
  exact⟨u,rfl,Zs (s:={s with heap:=h' }) e c d (by decide) ⟨x,H,I1,ru,⟨rfl,fun ys hy=>by rw[I.tuple_inj hy hq];exact hx⟩,ag,fun b hb=>(hf b hb).1⟩⟩
 done:=by
  intro X hP hw hK hc i af s σ H E I hf st hg
  subst hP hw hK
  obtain⟨xs,hq,hx⟩:=hg
  obtain⟨its,rv,p,hz⟩:=I.tuple hq
  obtain⟨f0,f1,f2,f3,f4,f5⟩:=hf it (by simp)
  have hl:=rv.length
  exact wpAny_pyNext_tuple_end (I.ok.hd hc) st (show s.heap.IsTuple a its.toArray from p) (by simp;lia) fun h' eb=>⟨rfl,I.turned (t':=s.toks) (fun b o hb e=>eb b o hb e) f0 f1 f3 f4 f5⟩
 self:=fun _ _ _ _ _ st h=>wpAny_pyIter_tupleiter st h
theorem S4 {P:Program}{w:World}{K:PySem.W.Frag}{tg:Expr}(it:Addr)(lo:Int)(n:Nat):Turn P w K tg (Itr lo n) [it] it (fun i h=>IsRangeIter h it (lo+(i:Nat)*1) ((n:Int)-(i:Nat)) 1) where
 mem:=by simp
 obj:=fun i h st b hb=>by
  have e:b=it:=by simpa using hb
  subst e
  exact⟨_,st,fun v z=>by
   have z':Data.fields _=Data.cell v:=z
   cases z'⟩
 keep:=fun i h h' st k=>k it (by simp) _ st
 item:=by
  intro X hP hw hK hc i af s σ H E I hf st hg
  subst hP hw hK
  obtain⟨f0,f1,f2,f3,f4,f5⟩:=hf it (by simp)
  have W:=Walks.range (prog:=X.prog) (w:=X.w) (I.ok.hd hc) it lo 1 n
  refine W.item i s _ _ hg st fun v h' tk hv ag kk=>?_
  obtain⟨t,rfl⟩:=hv
  have I1:Inv X af σ H {s with heap:=h',toks:=tk}:=I.turned (fun b o hb e=>kk b o (by simpa using hb) e) f0 f1 f3 f4 f5
  refine⟨_,rfl,Zs (s:={s with heap:=h',toks:=tk}) (n := "range_iterator") ag rfl rfl (by decide) ⟨.int (lo+i),H,I1,⟨t,?_⟩,⟨rfl,rfl⟩,ag,fun b hb=>(hf b hb).1⟩⟩
  rw[Int.mul_one]
 done:=by
  intro X hP hw hK hc i af s σ H E I hf st hg
  subst hP hw hK
  obtain⟨f0,f1,f2,f3,f4,f5⟩:=hf it (by simp)
  exact wpAny_pyNext_range_end (I.ok.hd hc) st (by have:n<=i:=hg;lia) fun h' eb=>⟨rfl,I.turned (t':=s.toks) (fun b o hb e=>eb b o hb e) f0 f1 f3 f4 f5⟩
 self:=fun _ _ _ _ _ st h=>wpAny_pyIter_rangeiter st h
end L2
namespace L2
open PySem PySem.Spec PyProof.Rows
section
variable {X:Cx} {tg:Expr}
noncomputable def AU_ (K:PySem.W.Frag)(tl:TE):TI:=fun σ H R=>tl σ H fun x H1=>∃a,x=.ref a/\(∃xs,SqL K H1 a xs)/\R (Itl K a) H1
noncomputable def iTup (K:PySem.W.Frag)(tl:TE):TI:=fun σ H R=>tl σ H fun x H1=>∃a,x=.ref a/\(∃xs,SqT K H1 a xs)/\R (Itt K a) H1
theorem Cf   (hl:PE X l tl):PI X tg l (AU_ X.K tl):=by
 intro af s σ H R I h
 refine thn (hl af s σ H _ I h) fun v s1 ⟨x,H1,I1,r1,q1⟩=>?_
 obtain⟨a,e,⟨xs,hq⟩,q⟩:=q1
 subst e
 cases r1
 obtain⟨its,rv,p,hz⟩:=I1.list hq
 refine wpAny_pyIter_list p.isList ?_
 refine⟨s1.heap.objs.size,[s1.heap.objs.size],_,_,H1,rfl,I1.kept (t':=s1.toks) fun b o e=>Heap.get?_push_of_some _ e,OX a _,⟨_,Heap.get?_push_size _ rfl,rfl,rfl⟩,fun b hb=>?_,q⟩
 have e:b=s1.heap.objs.size:=by simpa using hb
 subst e
 exact I1.fpOk (Nat.le_refl _) (I1.hok.fresh (Nat.le_refl _))
theorem HS   (hl:PE X l tl):PI X tg l (iTup X.K tl):=by
 intro af s σ H R I h
 refine thn (hl af s σ H _ I h) fun v s1 ⟨x,H1,I1,r1,q1⟩=>?_
 obtain⟨a,e,⟨xs,hq⟩,q⟩:=q1
 subst e
 cases r1
 obtain⟨its,rv,p,hz⟩:=I1.tuple hq
 refine wpAny_pyIter_tuple (show s1.heap.IsTuple a its.toArray from p) ?_
 refine⟨s1.heap.objs.size,[s1.heap.objs.size],_,_,H1,rfl,I1.kept (t':=s1.toks) fun b o e=>Heap.get?_push_of_some _ e,MG a _,⟨_,Heap.get?_push_size _ rfl,rfl,rfl⟩,fun b hb=>?_,q⟩
 have e:b=s1.heap.objs.size:=by simpa using hb
 subst e
 exact I1.fpOk (Nat.le_refl _) (I1.hok.fresh (Nat.le_refl _))
theorem WL       {lo hi:Int}   (I:Inv X af σ H s)(h1 : -(2 ^ 62)<=lo)(h2:lo<2 ^ 62)(h3 : -(2 ^ 62)<=hi)(h4:hi<2 ^ 62)
  (q:R (Itr lo (hi-lo).toNat) H):wpAny (model X.prog X.w) X.A (pyIter (.ref s.heap.objs.size)) (PIE X af σ tg R) E {s with heap:=s.heap.push {cls:=.type "range",data:=.fields #[.int lo t,.int hi u,.int 1 v]},toks:=tk}:=by
 refine wpAny_pyIter_range (IsRange.new ..) (small_one h1 h2 h3 h4) ?_
 have I1:Inv X af σ H {s with heap:=s.heap.push {cls:=.type "range",data:=.fields #[.int lo t,.int hi u,.int 1 v]},toks:=tk}:=I.kept fun b o e=>Heap.get?_push_of_some _ e
 refine⟨(s.heap.push {cls:=.type "range",data:=.fields #[.int lo t,.int hi u,.int 1 v]}).objs.size,[(s.heap.push {cls:=.type "range",data:=.fields #[.int lo t,.int hi u,.int 1 v]}).objs.size],_,_,H,rfl,
  I1.kept (t':=tk) fun b o e=>Heap.get?_push_of_some _ e,S4 _ lo (hi-lo).toNat,?_,fun b hb=>?_,q⟩
 ·have e1:lo+((0:Nat):Int)*1=lo:=by simp
  have e2:(((hi-lo).toNat:Nat):Int)-((0:Nat):Int)=Builtin.Range.rangeSize lo hi 1:=by rw[rangeSize_one];split<;>lia
  show IsRangeIter _ _ (lo+((0:Nat):Int)*1) ((((hi-lo).toNat:Nat):Int)-((0:Nat):Int)) 1
  rw[e1,e2]
  exact Heap.get?_push_size _ rfl
 ·have e:b=(s.heap.push {cls:=.type "range",data:=.fields #[.int lo t,.int hi u,.int 1 v]}).objs.size:=by simpa using hb
  subst e
  exact I1.fpOk (Nat.le_refl _) (I1.hok.fresh (Nat.le_refl _))
noncomputable def AV_ (ta:TA):TI:=fun σ H R=>ta σ H fun vs H1=>∃j:Int,vs=[.int j] /\ -(2 ^ 62)<=j/\j<2 ^ 62/\R (Itr 0 j.toNat) H1
theorem BN    (hg:Gl X "range")(hm:X.mg "range"=none)(ha:PA X [a] ta)(hs:starEach [a] X.env=[(false,eval a X.env)]:=by rfl):PI X tg (.Call (.Name "range" p) [a] [] pos) (AV_ ta):=by
 intro af s σ H R I h
 refine Call_ (He I hg hm boot_range (PyProof.Rows.callWith_type1 (thn (ha pos af s σ H _ I h) fun us s1 ⟨vs,H1,I1,r1,q1⟩=>?_) hs rfl))
 obtain⟨j,e,q1,q2,q⟩:=q1
 subst e
 cases r1 with
 |cons r rr=>
  cases rr
  obtain⟨t,rfl⟩:=r
  exact call_range_1 (WL I1 s!"" s!"" q1 q2 (by simpa using q))
noncomputable def tFor (wi:TI)(g:TG)(tb:TS):TS:=fun D σ H=>wi σ H fun J H1=>∃W:Nat->Nat->St->Hp->Prop,(∃m,W 0 m σ H1)/\∀i m σ H,W i m σ H ->
 (J.stop i H/\D.nx σ H)\/(J.go i H/\∃N:St->Hp->Prop,(∀ah H',N ah H'->∃m',m'<m/\W (i+1) m' ah H')/\∀x H',J.yld i H x H'->g x σ H' fun aj H2=>tb {D with nx:=N,ct:=N,bk:=D.nx} aj H2)
noncomputable def OY (fp:List Addr)(h:Heap):List (Addr×Obj):=fp.filterMap fun b=>(h.get? b).map fun o=>(b,o)
theorem GN     (hb:b∈fp)(e:h.get? b=some o):(b,o)∈OY fp h:=List.mem_filterMap.mpr ⟨b,hb,by rw[e];rfl⟩
theorem UN    (hp:p∈OY fp h):p.1∈fp/\h.get? p.1=some p.2:=by
 obtain⟨b,hb,e⟩:=List.mem_filterMap.mp hp
 cases q:h.get? b with
 |none=>rw[q]at e;cases e
 |some o=>
  rw[q]at e
  have e':(b,o)=p:=Option.some.inj e
  subst e'
  exact⟨hb,q⟩
theorem Inv.pinned      (I:Inv X af σ H s)(hf:∀b∈fp,FpOk X af H b)(ho:∀b∈fp,∃o,s.heap.get? b=some o/\∀v,o.data ≠ .cell v):Inv X (af++OY fp s.heap) σ H s:=
 I.pins_of fun p hp=>(List.mem_append.mp hp).elim (fun z=>I.pin p (List.mem_append_right _ z)) fun z=>by
  obtain⟨hb,e⟩:=UN z
  obtain⟨f0,f1,f2,_⟩:=hf p.1 hb
  obtain⟨o,e',d⟩:=ho p.1 hb
  rw[e]at e';cases e'
  exact⟨e,f0,f1,f2,d⟩
theorem Inv.unpinned     (I:Inv X (af++pl) σ H s):Inv X af σ H s:=I.pins_of fun p hp=>I.pin p (List.mem_append_right _ (List.mem_append_left _ hp))
theorem CH {iter:Expr}  {wi:TI}    (hp:PassesOwn (model X.prog X.w) X.A X.env X.xe)(hc:X.calm=true)(hi:PI X tg iter wi)(hg:PG X tg g)(hb:PSs X body tb)
  (hs:∀x,foldedSetIterable iter X.env x=pure x:=by intro _;rfl):PS X (.For tg iter body [] pos) (tFor wi g tb):=by
 intro af s σ H D I h
 refine wpAny_For (thn (hi af s σ H _ I h) fun v s1 h1=>thn h1 fun lr s2 h2=>?_) hs
 obtain⟨it,fp,tn,J,H2,e,I2,T,aM,f2,W,⟨m0,w0⟩,turn⟩:=h2
 subst e
 -- what stays true of the iterator's objects through the loop
 have dI:∀{H':Hp},(∀b∈fp,H' b=none)->∀b∈fp,FpOk X af H' b:=fun hn b hb=>⟨hn b hb,(f2 b hb).2⟩
 refine codeAny_forLoop_any (fun n s'=>∃i ah H',Inv X af ah H' s'/\tn i s'.heap/\(∀b∈fp,H' b=none)/\W i n ah H') ?_ m0 ⟨0,σ,H2,I2,aM,fun b hb=>(f2 b hb).1,w0⟩
 rintro n s3 ⟨i,aH,H3,I3,dJ,lu,w3⟩
 rcases turn i n aH H3 w3 with ⟨stop,qn⟩|⟨go,N,hN,step⟩
 ·refine wpAny_passesOwn hp (thn (T.done X rfl rfl rfl hc i af s3 aH H3 X.xe I3 (dI lu) dJ stop) fun r s4 ⟨hr,I4⟩=>?_)
  subst hr
  exact wpAny_execs_nil ⟨aH,H3,I4,qn⟩
 ·refine wpAny_passesOwn hp (thn (T.item X rfl rfl rfl hc i af s3 aH H3 X.xe I3 (dI lu) dJ go) fun r s4 ⟨u,hr,h4⟩=>?_)
  subst hr
  refine wpAny_passesOwn hp (thn h4 fun _ s5 ⟨x,H5,I5,r5,y5,a8,mI⟩=>?_)
  have mJ:=I5.pinned (dI mI) (T.obj _ _ a8)
  refine wpAny_passesOwn hp (thn (hg _ s5 aH H5 x u _ mJ r5 (step x H5 y5)) fun _ s6 ⟨fI,H6,I6,q6⟩=>?_)
  refine wpAny_passesOwn hp (thn (hb _ s6 fI H6 _ I6 q6) fun f s7 q7=>?_)
  have again:∀{cP:St} {H7:Hp},Inv X (af++OY fp s5.heap) cP H7 s7->N cP H7->∃m,m<n/\∃i ah H',Inv X af ah H' s7/\tn i s7.heap/\(∀b∈fp,H' b=none)/\W i m ah H':=fun {cP H7} I7 n7=>by
   obtain⟨m',hm,w7⟩:=hN cP H7 n7
   refine⟨m',hm,i+1,cP,H7,I7.unpinned,T.keep _ _ _ a8 fun b hb o e=>(I7.pin (b,o) (List.mem_append_right _ (List.mem_append_right _ (GN hb e)))).1,fun b hb=>?_,w7⟩
   obtain⟨o,e,d⟩:=T.obj _ _ a8 b hb
   exact (I7.pin (b,o) (List.mem_append_right _ (List.mem_append_right _ (GN hb e)))).2.1
  cases f with
  |next=>obtain⟨cP,H7,I7,n7⟩:=q7;exact again I7 n7
  |cont=>obtain⟨cP,H7,I7,n7⟩:=q7;exact again I7 n7
  |brk=>obtain⟨cP,H7,I7,q7⟩:=q7;exact⟨cP,H7,I7.unpinned,q7⟩
  |ret v=>obtain⟨x7,cP,H7,I7,r7,q7⟩:=q7;exact⟨x7,cP,H7,I7.unpinned,r7,q7⟩
end
theorem WM {K:PySem.W.Frag}{a:Addr}{xs:List V}{g:TG}{tb:TS}{D:Ends}{σ:St}{H:Hp}(Pv:Nat->St->Hp->Prop)(h0:Pv 0 σ H)(hl:∀i σ H,i<=xs.length->Pv i σ H->SqL K H a xs)
  (hs:∀i x σ H,xs[i]?=some x->Pv i σ H->g x σ H fun aj H2=>tb {D with nx:=Pv (i+1),ct:=Pv (i+1),bk:=D.nx} aj H2) (hd:∀σ H,Pv xs.length σ H->D.nx σ H):
  ∃W:Nat->Nat->St->Hp->Prop,(∃m,W 0 m σ H)/\∀i m σ H,W i m σ H ->
   ((Itl K a).stop i H/\D.nx σ H)\/((Itl K a).go i H/\∃N:St->Hp->Prop,(∀ah H',N ah H'->∃m',m'<m/\W (i+1) m' ah H')/\∀x H',(Itl K a).yld i H x H'->g x σ H' fun aj H2=>tb {D with nx:=N,ct:=N,bk:=D.nx} aj H2):=by
 refine⟨fun i m σ H=>m=xs.length-i/\i<=xs.length/\Pv i σ H,⟨xs.length,by simp,Nat.zero_le _,h0⟩,?_⟩
 rintro i m σ H ⟨rfl,hi,p⟩
 have q:=hl i σ H hi p
 by_cases ar:i<xs.length
 ·refine .inr ⟨⟨xs,xs[i],q,by simp[ar]⟩,Pv (i+1),fun ah H' p'=>⟨xs.length-(i+1),by lia,rfl,ar,p'⟩,fun x H' y=>?_⟩
  obtain⟨e,y⟩:=y
  subst e
  exact hs i x σ _ (y xs q) p
 ·have e:i=xs.length:=by lia
  subst e
  exact .inl ⟨⟨xs,q,Nat.le_refl _⟩,hd σ H p⟩
theorem Zt {K:PySem.W.Frag}{a:Addr}{xs:List V}{g:TG}{tb:TS}{D:Ends}{σ:St}{H:Hp}(Pv:Nat->St->Hp->Prop)(h0:Pv 0 σ H)(hl:∀i σ H,i<=xs.length->Pv i σ H->SqT K H a xs)
  (hs:∀i x σ H,xs[i]?=some x->Pv i σ H->g x σ H fun aj H2=>tb {D with nx:=Pv (i+1),ct:=Pv (i+1),bk:=D.nx} aj H2) (hd:∀σ H,Pv xs.length σ H->D.nx σ H):
  ∃W:Nat->Nat->St->Hp->Prop,(∃m,W 0 m σ H)/\∀i m σ H,W i m σ H ->
   ((Itt K a).stop i H/\D.nx σ H)\/((Itt K a).go i H/\∃N:St->Hp->Prop,(∀ah H',N ah H'->∃m',m'<m/\W (i+1) m' ah H')/\∀x H',(Itt K a).yld i H x H'->g x σ H' fun aj H2=>tb {D with nx:=N,ct:=N,bk:=D.nx} aj H2):=by
 refine⟨fun i m σ H=>m=xs.length-i/\i<=xs.length/\Pv i σ H,⟨xs.length,by simp,Nat.zero_le _,h0⟩,?_⟩
 rintro i m σ H ⟨rfl,hi,p⟩
 have q:=hl i σ H hi p
 by_cases ar:i<xs.length
 ·refine .inr ⟨⟨xs,xs[i],q,by simp[ar]⟩,Pv (i+1),fun ah H' p'=>⟨xs.length-(i+1),by lia,rfl,ar,p'⟩,fun x H' y=>?_⟩
  obtain⟨e,y⟩:=y
  subst e
  exact hs i x σ _ (y xs q) p
 ·have e:i=xs.length:=by lia
  subst e
  exact .inl ⟨⟨xs,q,Nat.le_refl _⟩,hd σ H p⟩
theorem UO {lo:Int}{n:Nat}{g:TG}{tb:TS}{D:Ends}{σ:St}{H:Hp}(Pv:Nat->St->Hp->Prop)(h0:Pv 0 σ H)
  (hs:∀i σ H,i<n->Pv i σ H->g (.int (lo+i)) σ H fun aj H2=>tb {D with nx:=Pv (i+1),ct:=Pv (i+1),bk:=D.nx} aj H2) (hd:∀σ H,Pv n σ H->D.nx σ H):
  ∃W:Nat->Nat->St->Hp->Prop,(∃m,W 0 m σ H)/\∀i m σ H,W i m σ H ->
   ((Itr lo n).stop i H/\D.nx σ H)\/((Itr lo n).go i H/\∃N:St->Hp->Prop,(∀ah H',N ah H'->∃m',m'<m/\W (i+1) m' ah H')/\∀x H',(Itr lo n).yld i H x H'->g x σ H' fun aj H2=>tb {D with nx:=N,ct:=N,bk:=D.nx} aj H2):=by
 refine⟨fun i m σ H=>m=n-i/\i<=n/\Pv i σ H,⟨n,by simp,Nat.zero_le _,h0⟩,?_⟩
 rintro i m σ H ⟨rfl,hi,p⟩
 by_cases ar:i<n
 ·refine .inr ⟨ar,Pv (i+1),fun ah H' p'=>⟨n-(i+1),by lia,rfl,ar,p'⟩,fun x H' y=>?_⟩
  obtain⟨e,y⟩:=y
  subst e y
  exact hs i σ _ ar p
 ·have e:i=n:=by lia
  subst e
  exact .inl ⟨Nat.le_refl _,hd σ H p⟩
end L2
namespace L2
open PySem PySem.Spec PyProof.Rows
noncomputable abbrev R2:=V->V->Hp->VK->Prop
noncomputable def OpR (X:Cx)(f:Value->Value->Sem Value)(r:R2):Prop:=
 ∀(af:List (Addr×Obj)) (s:Shared) (σ:St) (H:Hp) (x y:V) (v u:Value) (Q:VK),Inv X af σ H s->RelV x v->RelV y u->r x y H Q ->
  wpAny (model X.prog X.w) X.A (f v u) (EP X af σ Q) X.xe s
noncomputable def UnR (X:Cx)(f:Value->Sem Value)(r:V->Hp->VK->Prop):Prop:=
 ∀(af:List (Addr×Obj)) (s:Shared) (σ:St) (H:Hp) (x:V) (v:Value) (Q:VK),Inv X af σ H s->RelV x v->r x H Q ->
  wpAny (model X.prog X.w) X.A (f v) (EP X af σ Q) X.xe s
noncomputable def EG (X:Cx)(f:Value)(r:List V->Hp->VK->Prop):Prop:=
 ∀(af:List (Addr×Obj)) (s:Shared) (σ:St) (H:Hp) (xs:List V) (us:List Value) (Q:VK),Inv X af σ H s->Vals xs us->r xs H Q ->
  wpAny (model X.prog X.w) X.A (call f us) (EP X af σ Q) X.xe s
noncomputable def tOp (r:R2)(ta tb:TE):TE:=fun σ H Q=>ta σ H fun x H1=>tb σ H1 fun y H2=>r x y H2 Q
noncomputable def tUn (r:V->Hp->VK->Prop)(ta:TE):TE:=fun σ H Q=>ta σ H fun x H1=>r x H1 Q
noncomputable def rI (C:Int->Int->Prop)(g:Int->Int->V):R2:=fun x y H Q=>∃i j,x=.int i/\y=.int j/\C i j/\Q (g i j) H
noncomputable def rI0 (g:Int->Int->V):R2:=fun x y H Q=>∃i j,x=.int i/\y=.int j/\Q (g i j) H
noncomputable def rU (g:Int->V):V->Hp->VK->Prop:=fun x H Q=>∃i,x=.int i/\Q (g i) H
section
variable {X:Cx} {a b c:Expr} {ta tb tc:TE} {pos:Pos}
theorem binT (ha:PE X a ta)(hb:PE X b tb){af:List (Addr×Obj)}{s:Shared}{σ:St}{H:Hp}{R:V->V->Hp->Prop}(I:Inv X af σ H s)
  (h:ta σ H fun x H1=>tb σ H1 fun y H2=>R x y H2) {Q:Value->Shared->Prop} {f:Value->Value->Sem Value}
  (hf:∀v u s2 x y H2,Inv X af σ H2 s2->RelV x v->RelV y u->R x y H2->wpAny (model X.prog X.w) X.A (f v u) Q X.xe s2):
  wpAny (model X.prog X.w) X.A (eval a X.env) (fun v s₁=>wpAny (model X.prog X.w) X.A (eval b X.env) (fun u a7=>wpAny (model X.prog X.w) X.A (f v u) Q X.xe a7) X.xe s₁) X.xe s:=by
 refine thn (ha af s σ H _ I h) fun v s1 ⟨x,H1,I1,r1,q1⟩=>?_
 refine thn (hb af s1 σ H1 _ I1 q1) fun u s2 ⟨y,H2,I2,r2,q2⟩=>?_
 exact hf v u s2 x y H2 I2 r1 r2 q2
theorem As   (ho:OpR X (binaryOp op) r)(ha:PE X a ta)(hb:PE X b tb):PE X (.BinOp a op b pos) (tOp r ta tb):=by
 intro af s σ H Q I h
 exact wpAny_BinOp (binT ha hb I h fun v u s2 x y H2 I2 rx ry q=>ho af s2 σ H2 x y v u Q I2 rx ry q)
theorem AW_   (ho:UnR X (unaryOp op) r)(ha:PE X a ta):PE X (.UnaryOp op a pos) (tUn r ta):=by
 intro af s σ H Q I h
 exact UnaryOp_ (thn (ha af s σ H _ I h) fun v s1 ⟨x,H1,I1,r1,q1⟩=>ho af s1 σ H1 x v Q I1 r1 q1)
theorem opI {f:Value->Value->Sem Value}{C:Int->Int->Prop}{g:Int->Int->Int}
  (rule:∀(i j:Int) (t u:Tok) (s:Shared) (Q:Value->Shared->Prop) (E:Value->Shared->Prop),C i j->Q (.int (g i j) s.toks) {s with toks:=s.toks+1}->wpAny (model X.prog X.w) X.A (f (.int i t) (.int j u)) Q E s):
  OpR X f (rI C fun i j=>.int (g i j)):=by
 intro af s σ H x y v u Q I rx ry h
 obtain⟨i,j,rfl,rfl,hc,q⟩:=h
 obtain⟨t,rfl⟩:=rx
 obtain⟨t',rfl⟩:=ry
 exact rule i j t t' s _ _ hc ⟨.int (g i j),H,I.tok _,⟨_,rfl⟩,q⟩
theorem opI0 {f:Value->Value->Sem Value}{g:Int->Int->Int}
  (rule:∀(i j:Int) (t u:Tok) (s:Shared) (Q:Value->Shared->Prop) (E:Value->Shared->Prop),Q (.int (g i j) s.toks) {s with toks:=s.toks+1}->wpAny (model X.prog X.w) X.A (f (.int i t) (.int j u)) Q E s):
  OpR X f (rI0 fun i j=>.int (g i j)):=by
 intro af s σ H x y v u Q I rx ry h
 obtain⟨i,j,rfl,rfl,q⟩:=h
 obtain⟨t,rfl⟩:=rx
 obtain⟨t',rfl⟩:=ry
 exact rule i j t t' s _ _ ⟨.int (g i j),H,I.tok _,⟨_,rfl⟩,q⟩
theorem opB0 {f:Value->Value->Sem Value}{g:Int->Int->Bool}
  (rule:∀(i j:Int) (t u:Tok) (s:Shared) (Q:Value->Shared->Prop) (E:Value->Shared->Prop),Q (.bool (g i j)) s->wpAny (model X.prog X.w) X.A (f (.int i t) (.int j u)) Q E s):
  OpR X f (rI0 fun i j=>.bl (g i j)):=by
 intro af s σ H x y v u Q I rx ry h
 obtain⟨i,j,rfl,rfl,q⟩:=h
 obtain⟨t,rfl⟩:=rx
 obtain⟨t',rfl⟩:=ry
 exact rule i j t t' s _ _ ⟨.bl (g i j),H,I,rfl,q⟩
noncomputable def CDiv (i j:Int):Prop:=0<j/\j<1073741824
noncomputable def CMul (i j:Int):Prop:=(-(2 ^ 64)<i/\i<2 ^ 64)\/(-(2 ^ 64)<j/\j<2 ^ 64)
theorem CMul.ok  (h:CMul i j):IntMulOk i j:=by
 rcases h with ⟨h1,h2⟩|⟨h1,h2⟩
 ·exact .of_left (intBits_le_64 h1 h2)
 ·exact .of_right (intBits_le_64 h1 h2)
theorem B8:OpR X (binaryOp .Add) (rI0 fun i j=>.int (i+j)):=opI0 fun _ _ _ _ _ _ _ q=>add_int q
theorem EU:OpR X (binaryOp .Sub) (rI0 fun i j=>.int (i-j)):=opI0 fun _ _ _ _ _ _ _ q=>sub_int q
theorem Kz:OpR X (binaryOp .Mult) (rI CMul fun i j=>.int (i*j)):=opI fun _ _ _ _ _ _ _ hc q=>mul_int q hc.ok
theorem Ga:OpR X (binaryOp .FloorDiv) (rI CDiv fun i j=>.int (i / j)):=opI fun i j _ _ _ _ _ hc q=>by
 have h1:(0:Int)<j:=hc.1
 have h2:j<1073741824:=hc.2
 exact floordiv_int s!"" (by rw[Int.fdiv_eq_ediv_of_nonneg i s!""];exact q) (.inl (PyProof.noPylong_small s!""))
theorem Bu:OpR X (binaryOp .Mod) (rI (fun _ j=>0<j) fun i j=>.int (i%j)):=opI fun i j _ _ _ _ _ hc q=>by
 have h1:(0:Int)<j:=hc
 exact mod_int' s!"" (by rw[Int.fmod_eq_emod_of_nonneg i s!""];exact q)
theorem unI {f:Value->Sem Value}{g:Int->Int}
  (rule:∀(i:Int) (t:Tok) (s:Shared) (Q:Value->Shared->Prop) (E:Value->Shared->Prop),Q (.int (g i) s.toks) {s with toks:=s.toks+1}->wpAny (model X.prog X.w) X.A (f (.int i t)) Q E s):
  UnR X f (rU fun i=>.int (g i)):=by
 intro af s σ H x v Q I rx h
 obtain⟨i,rfl,q⟩:=h
 obtain⟨t,rfl⟩:=rx
 exact rule i t s _ _ ⟨.int (g i),H,I.tok _,⟨_,rfl⟩,q⟩
theorem Yi:UnR X (unaryOp .USub) (rU fun i=>.int (-i)):=unI fun _ _ _ _ _ q=>neg_int q
end
noncomputable def scal:V->V->Bool
 |.non,.non=>true | .non,.int _=>true | .int _,.non=>true | .non,.bl _=>true | .bl _,.non=>true | .non,.str _=>true | .str _,.non=>true
 |.int _,.int _=>true | .bl _,.bl _=>true | .str _,.str _=>true | .byt _,.byt _=>true
 |.int _,.str _=>true | .str _,.int _=>true | .bl _,.str _=>true | .str _,.bl _=>true
 |_,_=>false
noncomputable def rEq:R2:=fun x y H Q=>scal x y=true/\Q (.bl (decide (x=y))) H
theorem Zu  : decide (V.int i=V.int j)=(i==j):=by
 rw[Bool.eq_iff_iff]
 simp
theorem AX_  : decide (V.bl i=V.bl j)=(i==j):=by
 rw[Bool.eq_iff_iff]
 simp
theorem Zv  : decide (V.str i=V.str j)=(i==j):=by
 rw[Bool.eq_iff_iff]
 simp
theorem Zw  : decide (V.byt i=V.byt j)=(i.toList==j.toList):=by
 rw[Bool.eq_iff_iff]
 cases i
 cases j
 simp
section
variable {X:Cx} {a b c:Expr} {ta tb tc:TE} {pos:Pos}
theorem Ec       (I:Inv X af σ H s)(q:Q (.bl k) H)(e:k=k'):EP X af σ Q (.bool k') s:=by
 subst e
 exact⟨.bl k,H,I,rfl,q⟩
theorem DW:OpR X (compareOp .Eq) rEq:=by
 intro af s σ H x y v u Q I rx ry h
 obtain⟨hs,q⟩:=h
 cases x with
 |non=>
  cases rx
  cases y with
  |non=>cases ry;exact PySem.EqNone.eq_none_none (Ec I q (by simp))
  |bl j=>cases ry;exact PySem.EqNone.eq_none_bool (Ec I q (by simp))
  |int j=>obtain⟨t',rfl⟩:=ry;exact PySem.EqNone.eq_none_int (Ec I q (by simp))
  |str j=>obtain⟨t',rfl⟩:=ry;exact PySem.EqNone.eq_none_str (Ec I q (by simp))
  |_=>exact absurd (show false=true from hs) Bool.false_ne_true
 |bl i=>
  cases rx
  cases y with
  |non=>cases ry;exact PySem.EqNone.eq_bool_none (Ec I q (by simp))
  |bl j=>cases ry;exact eq_bool (Ec I q AX_)
  |str j=>obtain⟨t',rfl⟩:=ry;exact PySem.EqMixed.eq_bool_str (Ec I q (by simp))
  |_=>exact absurd (show false=true from hs) Bool.false_ne_true
 |int i=>
  obtain⟨t,rfl⟩:=rx
  cases y with
  |non=>cases ry;exact PySem.EqNone.eq_int_none (Ec I q (by simp))
  |int j=>obtain⟨t',rfl⟩:=ry;exact eq_int (Ec I q Zu)
  |str j=>obtain⟨t',rfl⟩:=ry;exact PySem.EqMixed.eq_int_str (Ec I q (by simp))
  |_=>exact absurd (show false=true from hs) Bool.false_ne_true
 |str i=>
  obtain⟨t,rfl⟩:=rx
  cases y with
  |non=>cases ry;exact PySem.EqNone.eq_str_none (Ec I q (by simp))
  |bl j=>cases ry;exact PySem.EqMixed.eq_str_bool (Ec I q (by simp))
  |int j=>obtain⟨t',rfl⟩:=ry;exact PySem.EqMixed.eq_str_int (Ec I q (by simp))
  |str j=>obtain⟨t',rfl⟩:=ry;exact eq_str (Ec I q Zv)
  |_=>exact absurd (show false=true from hs) Bool.false_ne_true
 |byt i=>
  obtain⟨t,rfl⟩:=rx
  cases y with
  |byt j=>obtain⟨t',rfl⟩:=ry;exact PySem.W.eq_bytes (Ec I q Zw)
  |_=>exact absurd (show false=true from hs) Bool.false_ne_true
 |_=>cases y<;>exact absurd (show false=true from hs) Bool.false_ne_true
theorem Mc:OpR X (compareOp .Lt) (rI0 fun i j=>.bl (decide (i<j))):=opB0 fun _ _ _ _ _ _ _ q=>lt_int q
theorem AY_:OpR X (compareOp .LtE) (rI0 fun i j=>.bl (decide (i<=j))):=opB0 fun _ _ _ _ _ _ _ q=>le_int q
theorem Zx:OpR X (compareOp .Gt) (rI0 fun i j=>.bl (decide (j<i))):=opB0 fun _ _ _ _ _ _ _ q=>gt_int q
theorem AY (b:Expr)  (h:op ≠ .In:=by decide)(h2:op ≠ .NotIn:=by decide):behindInMarks op b=false:=by
 have e1:(op==CmpOp.In)=false:=by cases op<;>first|rfl|exact absurd rfl h
 have e2:(op==CmpOp.NotIn)=false:=by cases op<;>first|rfl|exact absurd rfl h2
 cases b<;>simp[behindInMarks,e1,e2]
theorem UP   (ho:OpR X (compareOp op) r)(ha:PE X a ta)(hb:PE X b tb)(hm:behindInMarks op b=false):PE X (.Compare a [op] [b] pos) (tOp r ta tb):=by
 intro af s σ H Q I h
 exact wpAny_Compare1 (binT ha hb I h fun v u s2 x y H2 I2 rx ry q=>ho af s2 σ H2 x y v u Q I2 rx ry q) hm
noncomputable def WN (t:TE):TT:=fun σ H Q=>t σ H fun x H'=>∃k,x=.bl k/\Q k H'
theorem AB   (ho:OpR X (compareOp op) r)(ha:PE X a ta)(hb:PE X b tb)(hm:behindInMarks op b=false):PT X (.Compare a [op] [b] pos) (WN (tOp r ta tb)):=by
 intro af s σ H Q I h
 refine wpAny_isTrue_Compare1 (thn (ha af s σ H _ I h) fun v s1 ⟨x,H1,I1,r1,q1⟩=>thn (hb af s1 σ H1 _ I1 q1) fun u s2 ⟨y,H2,I2,r2,q2⟩ =>
  thn (ho af s2 σ H2 x y v u _ I2 r1 r2 q2) fun c s3 ⟨z,H3,I3,r3,k,e,q3⟩=>?_) hm
 subst e
 cases r3
 exact wpAny_truthy_bool ⟨H3,I3,q3⟩
noncomputable def Yj (r r':R2)(ta tb tc:TE):TE:=fun σ H Q=>ta σ H fun x H1=>tb σ H1 fun y H2=>r x y H2 fun z H3=>∃k,z=.bl k /\
 (if k=true then tc σ H3 fun w' H4=>r' y w' H4 Q else Q (.bl false) H3)
theorem WO   (ho:OpR X (compareOp op) r)(cO:OpR X (compareOp op') r')(ha:PE X a ta)(hb:PE X b tb)(hc:PE X c tc)
  (hm:lastMarks [op,op'] [b,c]=false:=by with_unfolding_all rfl):PE X (.Compare a [op,op'] [b,c] pos) (Yj r r' ta tb tc):=by
 intro af s σ H Q I h
 refine Compare_chain (thn (ha af s σ H _ I h) fun v s1 ⟨x,H1,I1,r1,q1⟩=>chain_link (thn (hb af s1 σ H1 _ I1 q1) fun u s2 ⟨y,H2,I2,r2,q2⟩ =>
  thn (ho af s2 σ H2 x y v u _ I2 r1 r2 q2) fun d s3 ⟨z,H3,I3,r3,k,e,q3⟩=>?_)) hm
 subst e
 cases r3
 refine wpAny_truthy_bool ?_
 cases k with
 |false=>exact ite_ff ⟨.bl false,H3,I3,rfl,q3⟩
 |true=>exact ite_tt (chain_last (thn (hc af s3 σ H3 _ I3 q3) fun w' s4 ⟨z',H4,I4,r4,q4⟩=>cO af s4 σ H4 y z' u w' Q I4 r2 r4 q4))
theorem OZ:(sizeLine:Nat)<2 ^ 63:=by rw[sizeLine_eq];decide
theorem vals1   (r:Vals [x] us):∃u,us=[u]/\RelV x u:=by
 cases r with
 |cons r1 r2=>cases r2;exact⟨_,rfl,r1⟩
theorem vals2   (r:Vals [x,y] us):∃u w',us=[u,w']/\RelV x u/\RelV y w':=by
 cases r with
 |cons r1 r2=>
  cases r2 with
  |cons r3 r4=>cases r4;exact⟨_,_,rfl,r1,r3⟩
theorem UQ (hc:X.calm=true):EG X (.builtin "min") (fun xs H Q=>∃i j,xs=[.int i,.int j]/\Q (.int (if j<i then j else i)) H):=by
 intro af s σ H xs us Q I r h
 obtain⟨i,j,rfl,q⟩:=h
 obtain⟨u,w',rfl,⟨t,rfl⟩,⟨t',rfl⟩⟩:=vals2 r
 refine min_two_ints (I.ok.hd hc) fun h' tk k=>⟨_,H,I.kept k,?_,q⟩
 by_cases hj:j<i
 ·rw[if_pos hj,if_pos hj];exact⟨_,rfl⟩
 ·rw[if_neg hj,if_neg hj];exact⟨_,rfl⟩
end
end L2
namespace L2
open PySem PySem.Spec PyProof.Rows
theorem RelO.some_of   (r:RelO (some v) o):∃u,o=some u/\RelV v u:=by
 cases o with
 |none=>exact (show False from r).elim
 |some u=>exact⟨u,rfl,r⟩
structure Room (k:Nat)(A:Around):Prop where
 hd:A.handled=none
 dp:A.depth+3*k+5<recursionLimit
 un:A.units+16*k+200<cLine
theorem Room.mono   (r:Room k A)(h:j<=k):Room j A:=⟨r.hd,by have:=r.dp;lia,by have:=r.un;lia⟩
theorem Room.deeper   (r:Room (k+1) A)(env:Env):Room k (A.deeper env):=
 ⟨r.hd,by have:=r.dp;show A.depth+1+3*k+5<_;lia,by have:=r.un;show A.units+3+16*k+200<_;lia⟩
theorem Room.in1   (r:Room (k+1) A):Room k A.in1:=
 ⟨r.hd,by have:=r.dp;show A.depth+3*k+5<_;lia,by have:=r.un;show A.units+1+16*k+200<_;lia⟩
theorem Room.depth   (r:Room k A):A.depth<recursionLimit:=by have:=r.dp;lia
theorem Room.units   (r:Room k A):A.units+64<cLine:=by have:=r.un;lia
noncomputable def tNil:TA:=fun _ H Q=>Q [] H
noncomputable def AZ_ (ta:TE)(tr:TA):TA:=fun σ H Q=>ta σ H fun x H1=>tr σ H1 fun xs H2=>Q (x::xs) H2
section
variable {X:Cx} {e:Expr} {es:List Expr} {te:TE} {t:TA} {pos:Pos}
theorem Ad:PA X [] tNil:=fun _ _ _ _ H Q I h=>Calls.spliced_nil ⟨[],H,I,.nil,h⟩
theorem Aa (ha:PE X e te)(hr:PA X es t)(hs:starEach (e::es) X.env=(false,eval e X.env)::starEach es X.env:=by rfl):PA X (e::es) (AZ_ te t):=by
 intro pos af s σ H Q I h
 rw[hs]
 show wpAny _ _ (spliced ((false,eval e X.env)::backTo pos (starEach es X.env))) _ _ s
 refine Calls.spliced_cons (thn (ha af s σ H _ I h) fun u s1 ⟨x,H1,I1,r1,q1⟩=>?_)
 exact thn (hr pos af s1 σ H1 _ I1 q1) fun us s2 ⟨xs,H2,I2,r2,q2⟩=>⟨x::xs,H2,I2,.cons r1 r2,q2⟩
noncomputable def tTup (t:TA):TE:=fun σ H Q=>t σ H fun xs H1=>xs.length<=sizeLine/\∀p,H1 p=none->Q (.ref p) (upd H1 p (.tup xs))
noncomputable def tLst (t:TA):TE:=fun σ H Q=>t σ H fun xs H1=>xs.length<=sizeLine/\∀p,H1 p=none->Q (.ref p) (upd H1 p (.lst xs))
theorem Dx {x1}(h:PA X es t):PE X (.Tuple es x1 pos) (tTup t):=by
 intro af s σ H Q I hq
 refine wpAny_Tuple_spliced (thn (h pos af s σ H _ I hq) fun us s1 ⟨xs,H1,I1,r,z,q⟩=>⟨by rw[<-r.length];exact z,?_⟩)
 have hf:H1 s1.heap.objs.size=none:=I1.hok.fresh (Nat.le_refl _)
 refine⟨.ref s1.heap.objs.size,upd H1 s1.heap.objs.size (.tup xs),I1.laid (t':=s1.toks) (fun b u e=>Heap.get?_push_of_some _ e) (Nat.le_refl _) ?_,rfl,q _ hf⟩
 exact⟨z,us,r,⟨_,Heap.get?_push_size _ rfl,rfl,_,rfl⟩⟩
theorem B9 (h:PA X es t):PE X (.List es pos) (tLst t):=by
 intro af s σ H Q I hq
 refine wpAny_List_spliced (thn (h pos af s σ H _ I hq) fun us s1 ⟨xs,H1,I1,r,z,q⟩=>⟨by rw[<-r.length];exact z,?_⟩)
 have hf:H1 s1.heap.objs.size=none:=I1.hok.fresh (Nat.le_refl _)
 refine⟨.ref s1.heap.objs.size,upd H1 s1.heap.objs.size (.lst xs),I1.laid (t':=s1.toks) (fun b u e=>Heap.get?_push_of_some _ e) (Nat.le_refl _) ?_,rfl,q _ hf⟩
 exact⟨z,us,0,r,Heap.get?_push_size _ rfl⟩
end
noncomputable abbrev Sp:=List V->Hp->VK->XK->Prop
noncomputable abbrev CXT:=List Env->Hp->Shared->XK->Value->Shared->Prop
structure Env0 (P:Program)(w:World)(K:PySem.W.Frag)(mg:Str->Option Value)(base:Heap)(A:Around)(outer:List Env)(s:Shared)(H:Hp):Prop where
 frames:A.frames=some outer
 mod:Mod K mg base
 bs:∀b o,base.get? b=some o->s.heap.get? b=some o/\H b=none
 bsz:base.objs.size<=s.heap.objs.size
 funs:s.heap.FunFrames base outer
 frf:∀b∈frs outer,H b=none
 hok:HOk P w H s.heap
 bare:AllBare s.gens
noncomputable def CE (outer:List Env)(P:Program)(w:World)(H:Hp)(s:Shared)(Q:VK)(u:Value)(s':Shared):Prop:=
 ∃v H',s'.os=s.os/\AllBare s'.gens/\Un (frs outer) [] H H' s.heap s'.heap/\HOk P w H' s'.heap/\RelV v u/\Q v H'
noncomputable def CR (CX:CXT)(outer:List Env)(P:Program)(w:World)(H:Hp)(s:Shared)(Q:VK)(E:XK)(r:Result)(s':Shared):Prop:=
 match r with
 |.ok (.ret u)=>CE outer P w H s Q u s'
 |.ok _=>False
 |.error e=>CX outer H s E e s'
structure FnOk (P:Program)(w:World)(K:PySem.W.Frag)(mg:Str->Option Value)(base:Heap)(CX:CXT)(k:Nat)(f:Addr)(fd:FuncData)(ps:List Str)(sp:Sp):Prop where
 len:∀vs H Q E,sp vs H Q E->vs.length=ps.length
 run:∀(A:Around) (outer:List Env) (s:Shared) (H:Hp) (args:Args) (us:List Value) (vs:List V) (Q:VK) (E:XK),Room k A->Env0 P w K mg base A outer s H->BindsTo s fd args (ps.zip us)->Vals vs us->sp vs H Q E ->
  codeAny (model P w) A (.call (.ref f) args) (CR CX outer P w H s Q E) s
theorem Env0.in1   {K:PySem.W.Frag}       (e:Env0 P w K mg base A outer s H):
  Env0 P w K mg base A.in1 outer s H:=⟨e.frames,e.mod,e.bs,e.bsz,e.funs,e.frf,e.hok,e.bare⟩
section
variable {X:Cx} {af:List (Addr×Obj)} {σ:St} {H:Hp} {s s':Shared}
theorem Inv.env0 (I:Inv X af σ H s):Env0 X.prog X.w X.K X.mg X.base X.A X.stack s H:=
 ⟨I.ok.frames,I.ok.mod,I.bs,Nat.le_trans I.ok.bsz I.sz,I.stack,I.stkFree,I.hok,I.bare⟩
theorem Inv.after   (I:Inv X af σ H s)(h:CE X.stack X.prog X.w H s Q u s'):EP X af σ Q u s':=by
 obtain⟨v,H',os,bare,un,hok,r,q⟩:=h
 obtain⟨hh,g,d,t,os'⟩:=s'
 obtain rfl:os'=s.os:=os
 exact⟨v,H',I.call (h':=hh) (g':=g) (d':=d) (t':=t) (ch:=[]) un hok bare (fun b z=>absurd z (by simp)),r,q⟩
end
noncomputable def Ba_ (sp:Sp)(fJ:List V)(E:XK)(t:TA):TE:=fun σ H Q=>t σ H fun vs H1=>sp (vs++fJ) H1 Q E
noncomputable def Bj (K:PySem.W.Frag)(fd:FuncData)(ps:List Str)(ds:List Value):Prop:=
 ∀(s:Shared) (us:List Value),K.In s.heap->(us++ds).length=ps.length->BindsTo s fd ⟨us,[]⟩ (ps.zip (us++ds))
theorem Bj.all {K:PySem.W.Frag}   (h:∀us:List Value,us.length=ps.length->bindArgs fd ⟨us,[]⟩=pure (ps.zip us)):Bj K fd ps []:=fun s us _ hl=>by
 rw[List.append_nil]at hl ⊢
 exact .of_eq (h us hl)
noncomputable def O0 (CX:CXT)(X:Cx)(E:XK):Prop:=∀(af:List (Addr×Obj)) (σ:St) (H:Hp) (s:Shared) (e:Value) (s':Shared),Inv X af σ H s->CX X.stack H s E e s'->X.xe e s'
section
variable {X:Cx} {CX:CXT} {k:Nat} {f C:Addr} {fd:FuncData} {ps:List Str} {sp:Sp} {fJ:List V} {ds:List Value} {E:XK} {x m:Str} {p pos aW:Pos} {e o:Expr} {es:List Expr} {ta:TE} {t:TA}
theorem Bb_        (F:FnOk X.prog X.w X.K X.mg X.base CX k f fd ps sp)(hr:Room k X.A)(hb:Bj X.K fd ps ds)(hd:Vals fJ ds)(hx:O0 CX X E)
  (I:Inv X af σ H s) (r:Vals vs us) (h:sp (vs++fJ) H Q E):wpAny (model X.prog X.w) X.A (call (.ref f) us) (EP X af σ Q) X.xe s:=by
 have r2:Vals (vs++fJ) (us++ds):=r.append hd
 have hl:(us++ds).length=ps.length:=by rw[<-r2.length];exact F.len _ _ _ _ h
 refine wpAny_call (codeAny_mono (F.run X.A X.stack s H ⟨us,[]⟩ (us++ds) (vs++fJ) Q E hr I.env0 (hb s us I.kIn hl) r2 h) fun r s' hq=>?_)
 cases r with
 |error e=>exact hx af σ H s e s' I hq
 |ok fl=>
  cases fl with
  |ret u=>exact I.after hq
  |next=>exact False.elim hq
  |brk=>exact False.elim hq
  |cont=>exact False.elim hq
theorem Am (F:FnOk X.prog X.w X.K X.mg X.base CX k f fd ps sp)(hr:Room k X.A)(hg:Gl X x)(hm:X.mg x=some (.ref f))(hk:PySem.W.keepIn X.K (.ref f)=true)(hb:Bj X.K fd ps ds)(hd:Vals fJ ds)(hx:O0 CX X E)
  (ha:PA X (e::es) t) (j3:(x==("__debug__" : Str))=false:=by decide) (he:starEach (e::es) X.env=(false,eval e X.env)::starEach es X.env:=by rfl) (gF:(backTo pos (starEach es X.env)).any (·.1)=false:=by rfl):
  PE X (.Call (.Name x p) (e::es) [] pos) (Ba_ sp fJ E t):=by
 intro af s σ H Q I h
 refine wpAny_Call_Name_kw (UH I hg hm ?_ j3)
 refine PySem.W.callWith_K (h₀:=X.base) I.ok.mod.kin hk (thn (ha pos af s σ H _ I h) fun us s1 ⟨vs,H1,I1,r,q⟩=>⟨I1.kIn,?_⟩) he gF
 exact Bb_ F hr hb hd hx I1 r q
end
structure FnScope (N P:List Str)(sc:Scope):Prop where
 kind:sc.kind=.function
 co:sc.isCoroutine=false
 gen:sc.isGenerator=false
 nd:N.Nodup
 pre:N.take P.length=P
 par:∀x∈P,sc.names.lookup x=some .local\/sc.names.lookup x=some .cell
 nofree:∀y∈sc.names,y.2 ≠ .free
theorem O1 {kindOf:Str->Option NameKind}{x:Str}:∀{binds:List (Str×Value)} {m:Str->Option Value},(∀v,(x,v)∉binds)->bindL kindOf binds m x=m x
 |[],_,_=>rfl
 | (n,v)::r,m,h=>by
  unfold bindL
  rw[O1 fun w hw=>h w (List.mem_cons_of_mem _ hw)]
  split
  ·have:x≠n:=by rintro rfl;exact h v List.mem_cons_self
   simp[this]
  ·rfl
theorem O2 {kindOf:Str->Option NameKind}{x:Str}:∀{binds:List (Str×Value)} {m:Str->Option Value},(∀v,(x,v)∉binds)->bindC kindOf binds m x=m x
 |[],_,_=>rfl
 | (n,v)::r,m,h=>by
  unfold bindC
  rw[O2 fun w hw=>h w (List.mem_cons_of_mem _ hw)]
  split
  ·rfl
  ·have:x≠n:=by rintro rfl;exact h v List.mem_cons_self
   simp[this]
theorem O3 {kindOf:Str->Option NameKind}{x:Str}{v:Value}:∀{P:List Str} {vs:List Value} {i:Nat} {m:Str->Option Value},P.Nodup->P[i]?=some x->vs[i]?=some v->kindOf x=some .local ->
  bindL kindOf (P.zip vs) m x=some v
 |[],_,_,_,_,h,_,_=>by simp at h
 |_::_,[],_,_,_,_,h,_=>by simp at h
 |p::P,w::vs,0,m,nd,h1,h2,hk=>by
  simp at h1 h2;subst h1;subst h2
  show bindL kindOf ((p,w)::P.zip vs) m p=_
  unfold bindL
  rw[O1 fun v hv=>(List.nodup_cons.mp nd).1 (List.of_mem_zip hv).1,if_pos hk]
  simp
 |p::P,w::vs,i+1,m,nd,h1,h2,hk=>by
  show bindL kindOf ((p,w)::P.zip vs) m x=_
  unfold bindL
  exact O3 (i:=i) (List.nodup_cons.mp nd).2 (by simpa using h1) (by simpa using h2) hk
theorem O4 {kindOf:Str->Option NameKind}{x:Str}{v:Value}:∀{P:List Str} {vs:List Value} {i:Nat} {m:Str->Option Value},P.Nodup->P[i]?=some x->vs[i]?=some v->kindOf x≠some .local ->
  bindC kindOf (P.zip vs) m x=some v
 |[],_,_,_,_,h,_,_=>by simp at h
 |_::_,[],_,_,_,_,h,_=>by simp at h
 |p::P,w::vs,0,m,nd,h1,h2,hk=>by
  simp at h1 h2;subst h1;subst h2
  show bindC kindOf ((p,w)::P.zip vs) m p=_
  unfold bindC
  rw[O2 fun v hv=>(List.nodup_cons.mp nd).1 (List.of_mem_zip hv).1,if_neg hk]
  simp
 |p::P,w::vs,i+1,m,nd,h1,h2,hk=>by
  show bindC kindOf ((p,w)::P.zip vs) m x=_
  unfold bindC
  exact O4 (i:=i) (List.nodup_cons.mp nd).2 (by simpa using h1) (by simpa using h2) hk
noncomputable def start (N:List Str)(vs:List V):St:=vs.map some++List.replicate (N.length-vs.length) none
noncomputable def cxOf (CX:CXT)(P:Program)(w:World)(K:PySem.W.Frag)(mg:Str->Option Value)(base:Heap)(N:List Str)(qual:Str)(scope:Scope)(f:Addr)(cd:Value)(A:Around)(outer:List Env)(s:Shared)(H:Hp)(E:XK):Cx where
 prog:=P
 w:=w
 K:=K
 mg:=mg
 base:=base
 A:=A.deeper (envOfC qual scope s.heap.objs.size f cd)
 N:=N
 s₀:=s
 H₀:=H
 env:=envOfC qual scope s.heap.objs.size f cd
 outer:=outer
 stack:=envOfC qual scope s.heap.objs.size f cd::outer
 ex:=[]
 calm:=true
 fn:=fun _=>true
 pn:=[]
 xe:=fun e s'=>wpAny (model P w) (A.deeper (envOfC qual scope s.heap.objs.size f cd)) (leaving (envOfC qual scope s.heap.objs.size f cd) e) (fun _ ic=>CX outer H s E e ic) (fun e' ic=>CX outer H s E e' ic) s'
theorem R1 {sc:Scope}{n:Nat}{x:Str}(h:sc.names.lookup x=some .cell):∃c,(cellsFrom n sc.names []).lookup x=some c:=by
 have q:=PySem.W.cellsFrom_some sc.names n [] (.inl h)
 exact Option.isSome_iff_exists.mp q
theorem O5    {K:PySem.W.Frag}
  (S:FnScope N ps scope) (hd:A.handled=none) (e0:Env0 P w K mg base A outer s H) (hl:vs.length=ps.length) (r:Vals vs us)
  (x:InCallC s s.heap.objs.size (bindL (envOfC qual scope s.heap.objs.size f cd).kindOf (ps.zip us) fun _=>none) (cellsFrom (s.heap.objs.size+1) scope.names []) (bindC (envOfC qual scope s.heap.objs.size f cd).kindOf (ps.zip us) fun _=>none) s1):
  Inv (cxOf CX P w K mg base N qual scope f cd A outer s H E) [] (start N vs) H s1:=by
 have gF:ps.length<=N.length:=by have:=congrArg List.length S.pre;rw[List.length_take]at this;lia
 obtain⟨h1,tk,rfl,hk⟩:=x.done
 have mK:∀b:Addr,b∉(cxOf CX P w K mg base N qual scope f cd A outer s H E).ex:=fun b z=>absurd (show b∈([]:List Addr) from z) (by simp)
 refine⟨⟨e0.mod,S.kind,rfl,rfl,Nat.le_refl _,fun y z c h1 h2=>?_,fun y hy=>?_,fun y c _ h=>?_,fun _=>hd,Around.frames_deeper e0.frames,.inr ⟨rfl,rfl⟩,fun b z=>absurd z (mK b),e0.bs,e0.bsz,fun b _ _=>mK b,fun b z=>absurd z (mK b),e0.funs,e0.frf⟩,
  rfl,e0.bare,Un.kept hk,⟨_,x.toInCall.ns,fun i y v h1 h2 h3=>?_⟩,fun y c h=>⟨_,x.cell y c h⟩,e0.hok.fresh (Nat.le_refl _),fun y c h=>?_,fun p hp=>absurd (show p∈([]:List (Addr×Obj)) from hp) (by simp),e0.hok.kept hk,?_⟩
 ·exact name_of_addr x.apart (PySem.mem_of_lookup h1) (PySem.mem_of_lookup h2)
 ·have hy:scope.names.lookup y=some .cell\/scope.names.lookup y=some .free:=hy
  rcases hy with hy|hy
  ·exact R1 hy
  ·exact absurd rfl (S.nofree _ (PySem.mem_of_lookup hy))
 ·exact Nat.le_of_lt (x.above y c (PySem.mem_of_lookup h))
 ·have hi:i<vs.length:=by
   unfold start at h2
   by_cases hi:i<vs.length
   ·exact hi
   ·rw[List.getElem?_append_right (by simpa using hi)]at h2
    rw[List.getElem?_replicate]at h2
    split at h2<;>cases h2
  have ha:vs[i]?=some v:=by
   unfold start at h2
   rw[List.getElem?_append_left (by simpa using hi),List.getElem?_map]at h2
   cases e:vs[i]? with
   |none=>rw[e]at h2;cases h2
   |some a=>rw[e]at h2;cases h2;rfl
  obtain⟨u,hu,rv⟩:=r.get ha
  have hp:ps[i]?=some y:=by
   rw[<-S.pre,List.getElem?_take_of_lt s!""];exact h1
  have ndP:ps.Nodup:=by rw[<-S.pre];exact S.nd.sublist (List.take_sublist _ _)
  refine⟨u,rv,?_⟩
  rcases S.par y (List.mem_of_getElem? hp) with k|k
  ·exact .inl ⟨k,O3 ndP hp hu k⟩
  ·obtain⟨c,e⟩:=R1 (n:=s.heap.objs.size+1) k
   refine .inr ⟨.inl k,c,e,?_⟩
   have q:=x.cell y c e
   rw[O4 ndP hp hu (by show scope.names.lookup y≠_;rw[k];decide)]at q
   exact q
 ·exact e0.hok.fresh (Nat.le_of_lt (x.above y c (PySem.mem_of_lookup h)))
 ·unfold start
  show _=N.length
  rw[List.length_append,List.length_map,List.length_replicate]
  lia
theorem Zy    {K:PySem.W.Frag}         {dV kV bp pm aB ct oc:Value}
       (lk:K.lookup f=some ⟨oc,od,.func (PySem.W.fnOf name qual params body scope dV kV bp pm an aB ct),eg⟩) (bo:PySem.W.codeIn K aB qual=true) (S:FnScope N ps scope)
    (len:∀vs H Q E,sp vs H Q E->vs.length=ps.length)
    (bA:∀(A:Around) (outer:List Env) (s:Shared) (H:Hp) (vs:List V) (Q:VK) (E:XK),Room k (A.deeper (envOfC qual scope s.heap.objs.size f aB))->sp vs H Q E ->
      ∃t,PSs (cxOf CX P w K mg base N qual scope f aB A outer s H E) body t/\t {nx:=fun _ H'=>Q .non H',rt:=Q} (start N vs) H):
    FnOk P w K mg base CX (k+1) f (PySem.W.fnOf name qual params body scope dV kV bp pm an aB ct) ps sp:=by
  refine⟨len,fun A outer s H args us vs Q E hr e0 hb r cQ=>?_⟩
  have hl:=len _ _ _ _ cQ
  have KX:K.In s.heap:=e0.mod.kin.keeps fun b o e=>(e0.bs b o e).1
  have mL:s.heap.NoLimit:=e0.mod.nolimit.keeps fun b o e=>(e0.bs b o e).1
  have eL:∀y∈ps.zip us,scope.names.lookup y.1=some .local\/(scope.names.lookup y.1=some .cell/\((cellsFrom (s.heap.objs.size+1) scope.names []).lookup y.1).isSome=true):=fun ⟨n,v⟩ hy=>by
    rcases S.par n (List.of_mem_zip hy).1 with q|q
    . exact .inl q
    . exact .inr ⟨q,PySem.W.cellsFrom_some _ _ _ (.inl q)⟩
  refine codeAny_call_function hr.depth (KX _ _ lk) rfl S.co S.gen rfl (PySem.W.codeRec_of KX bo) (hb _ _ _ _ ?_)
  refine wpAny_newFunctionEnv_cells S.kind eL fun env he s1 x=>?_
  subst he
  refine⟨mL.keeps x.toInCall.keep,codeAny_func ?_⟩
  obtain⟨t,ht,hq⟩:=bA A outer s H vs Q E (hr.deeper _) cQ
  have I:Inv (cxOf CX P w K mg base N qual scope f aB A outer s H E) [] (start N vs) H s1:=O5 S hr.hd e0 hl r x
  refine wpAny_mono (ht [] s1 (start N vs) H _ I hq) (fun fl s' hs=>?_) fun e s' hs=>hs
  have fin:∀{ah:St} {H':Hp} {v:V} {u:Value},Inv (cxOf CX P w K mg base N qual scope f aB A outer s H E) [] ah H' s'->RelV v u->Q v H'->CE outer P w H s Q u s' :=
    fun {ah H' v u} J rv q=>⟨v,H',J.os,J.bare,J.base,J.hok,rv,q⟩
  cases fl with
  |ret u=>
    obtain⟨v,ah,H',J,rv,q⟩:=hs
    exact fin J rv q
  |next=>
    obtain⟨ah,H',J,q⟩:=hs
    exact fin (v:=V.non) (u:=Value.none) J rfl q
  |brk=>
    obtain⟨_,_,_,q⟩:=hs
    exact False.elim q
  |cont=>
    obtain⟨_,_,_,q⟩:=hs
    exact False.elim q
end L2
namespace L2
open PySem PySem.Spec PyProof.Rows
section
variable {X:Cx} {x:Str} {p pos:Pos} {e:Expr} {es:List Expr} {t:TA} {id T:String} {r:List V->Hp->VK->Prop}
noncomputable def tCB (r:List V->Hp->VK->Prop)(t:TA):TE:=fun σ H Q=>t σ H fun vs H1=>r vs H1 Q
theorem Av (hc:EG X (.builtin id) r)(hg:Gl X x)(hm:X.mg x=none)(hv:bootBuiltins x=some (.builtin id))(ha:PA X (e::es) t)(hn:x ≠ "__name__" := by decide)(j3:(x==("__debug__" : Str))=false:=by decide)
  (he:starEach (e::es) X.env=(false,eval e X.env)::starEach es X.env:=by rfl) (gF:(backTo pos (starEach es X.env)).any (·.1)=false:=by rfl):PE X (.Call (.Name x p) (e::es) [] pos) (tCB r t):=by
 intro af s σ H Q I h
 refine wpAny_Call_Name_kw (He I hg hm hv ?_ hn j3)
 exact PyProof.Rows.callWith_builtin1 (thn (ha pos af s σ H _ I h) fun us s1 ⟨vs,H1,I1,r1,q1⟩=>hc af s1 σ H1 vs us Q I1 r1 q1) he gF
theorem AZ (hc:EG X (.type T) r)(hg:Gl X x)(hm:X.mg x=none)(hv:bootBuiltins x=some (.type T))(ha:PA X (e::es) t)(hn:x ≠ "__name__" := by decide)(j3:(x==("__debug__" : Str))=false:=by decide)
  (he:starEach (e::es) X.env=(false,eval e X.env)::starEach es X.env:=by rfl) (gF:(backTo pos (starEach es X.env)).any (·.1)=false:=by rfl):PE X (.Call (.Name x p) (e::es) [] pos) (tCB r t):=by
 intro af s σ H Q I h
 refine wpAny_Call_Name_kw (He I hg hm hv ?_ hn j3)
 exact PyProof.Rows.callWith_type1 (thn (ha pos af s σ H _ I h) fun us s1 ⟨vs,H1,I1,r1,q1⟩=>hc af s1 σ H1 vs us Q I1 r1 q1) he gF
end
end L2
namespace HT
open PySem PyProof.Rows
noncomputable def lexLt:List Int->List Int->Bool
 |[],[]=>false
 |[],_::_=>true
 |_::_,[]=>false
 |x::xs,y::ys=>if x=y then lexLt xs ys else decide (x<y)
theorem lexLt_cons (x y:Int)(xs ys:List Int):lexLt (x::xs) (y::ys)=if x=y then lexLt xs ys else decide (x<y):=rfl
theorem Nk:lexLt [] []=false:=rfl
theorem Md (y:Int)(ys:List Int):lexLt [] (y::ys)=true:=rfl
theorem Me (x:Int)(xs:List Int):lexLt (x::xs) []=false:=rfl
theorem WQ (A:Around)(s:Shared)(a:Int)(t:Tok)(c:Int)(u:Tok):∃e,SeqAt.EqAt A s (.int a t) (.int c u) e/\(e=true↔a=c):=
 ⟨(a==c),SeqAt.EqAt.int_int a t c u,by simp⟩
theorem WR (A:Around)(s:Shared)(a:Int)(t:Tok)(c:Int)(u:Tok)(prog:Program)(w:World)(E:Value->Shared->Prop)(Q:Value->Shared->Prop)(h:Q (.bool (decide (a<c))) s):
  wpAny (model prog w) A (richCompare .Lt (.int a t) (.int c u)) Q E s:=
 (PyProof.Rows.lt_int h:wpAny (model prog w) A (compareOp .Lt (.int a t) (.int c u)) Q E s)
section
open PySem.SeqAt
open PySem.AutoSeq1 (wpAny_loadPart')
open PySem.MeetsSeq PySem.MeetsSeq2 PySem.MeetsSeq3
theorem Nl (l b:Addr)(items aO:Array Value)(n n2:Nat)(dd gG:Option Addr)(sl fK:Array (Option Value))(ns ms:List Int)(hi:IntsAre items.toList ns)(hj:IntsAre aO.toList ms):
  Meets (Builtin.«tuple.__lt__» ⟨[.ref l,.ref b],[]⟩)
   (fun _ R s=>s.heap.get? l=some {cls:=.type "tuple",dict:=dd,data:=.seq items n,slots:=sl}/\s.heap.get? b=some {cls:=.type "tuple",dict:=gG,data:=.seq aO n2,slots:=fK} /\
    R (.ok (.ret (.bool (lexLt ns ms)))) s):=
 .of_wp fun prog w A R s h=>by
  obtain⟨hp,g,d,tk,os⟩:=s;obtain⟨hl,hb,h⟩:=h
  have f2:=AutoSeq1.sub_tuple_tuple
  have z1:items.size=ns.length:=by rw[<-hi.length];simp
  have z2:aO.size=ms.length:=by rw[<-hj.length];simp
  wp_walk using wpAny_loadPart' hl,wpAny_loadPart' hb,wpAny_forIn_list _ (fun rest b s'=>b.1=none/\s'=⟨hp,g,d,tk,os⟩/\∃(vs ws:List Value) (jv jw:List Int),rest=vs.zip ws /\
   IntsAre vs jv/\IntsAre ws jw/\jv.length+aO.size=jw.length+items.size/\R (.ok (.ret (.bool (lexLt jv jw)))) ⟨hp,g,d,tk,os⟩) _
  case turn=>
   rintro⟨y,x⟩ rest b s' ⟨fU,rfl,vs,ws,jv,jw,hz,cG,fL,ak,hR⟩
   cases cG with
   |nil=>rw[List.zip_nil_left]at hz;cases hz
   |cons a t hvi' =>
    cases fL with
    |nil=>rw[List.zip_nil_right]at hz;cases hz
    |cons c u hwi' =>
     rw[List.zip_cons_cons]at hz
     injection hz with j4 hrest
     injection j4 with hy hx
     subst hy hx
     rw[lexLt_cons]at hR
     simp only[List.length_cons]at ak
     obtain⟨e,he,dM⟩:=WQ A.in1 ⟨hp,g,d,tk,os⟩ a t c u
     refine wpAny_bind (he prog w _ _ ?_)
     cases e with
     |true=>
      rw[if_pos (dM.mp rfl)]at hR
      wp_walk
      exact⟨rfl,rfl,_,_,_,_,hrest,hvi',hwi',by lia,hR⟩
     |false=>
      rw[if_neg (fun q=>absurd (dM.mpr q) Bool.false_ne_true)]at hR
      have fV:=WR A.in1 ⟨hp,g,d,tk,os⟩ a t c u prog w
      wp_walk using fV
      exact⟨_,rfl,by simpa using hR⟩
  case fin=>
   rintro⟨b1,b2⟩ s' ⟨fU,rfl,vs,ws,jv,jw,hz,cG,fL,ak,hR⟩
   simp only at fU
   subst fU
   have hv:lexLt jv jw=decide (items.size<aO.size):=by
    cases cG with
    |nil=>
     cases fL with
     |nil=>
      simp only[List.length_nil]at ak
      rw[Nk]
      exact (decide_eq_false s!"").symm
     |cons c u hw=>
      simp only[List.length_nil,List.length_cons]at ak
      rw[Md]
      exact (decide_eq_true s!"").symm
    |cons a t hv=>
     cases fL with
     |nil=>
      simp only[List.length_nil,List.length_cons]at ak
      rw[Me]
      exact (decide_eq_false s!"").symm
     |cons c u hw=>
      rw[List.zip_cons_cons]at hz
      cases hz
   rw[hv]at hR
   wp_walk
   exact⟨_,rfl,by simpa [Builtin.Tuple.tupleCompareSizes] using hR⟩
  case h=>
   exact⟨rfl,rfl,items.toList,aO.toList,ns,ms,rfl,hi,hj,by lia,h⟩
end
section
variable {prog:Program} {w:World} {A:Around} {E:Value->Shared->Prop} {s:Shared}
theorem lt_tupInts     (hl:IsTup s.heap l items)(hb:IsTup s.heap b aO)(hi:IntsAre items.toList ns)(hj:IntsAre aO.toList ms)
  (hu:A.units<cLine) (h:Q (.bool (lexLt ns ms)) s):wpAny (model prog w) A (compareOp .Lt (.ref l) (.ref b)) Q E s:=by
 obtain⟨⟨cls,dd,data,sl⟩,ho,hc,n,hd⟩:=id hl
 obtain⟨⟨cls2,gG,data2,fK⟩,fM,cH,n2,eN⟩:=id hb
 simp only at hc hd cH eN
 subst hc hd cH eN
 exact richCompare_meets_room (op:=.Lt) ⟨_,ho,rfl⟩ ⟨_,fM,rfl⟩ PySem.F.slot_tuple_lt PySem.F.entry_tuple_lt (PySem.F.args_tuple_lt_2 _ _) (Nl l b items aO n n2 dd gG sl fK ns ms hi hj)
  ⟨ho,fM,show Value.bool (lexLt ns ms)≠Value.notImplemented/\Q (.bool (lexLt ns ms)) s from ⟨(fun x=>nomatch x),h⟩⟩ hu
theorem cat_tup    (ht:IsTup s.heap t vs.toArray)(hb:IsTup s.heap b ws.toArray)(hv:vs ≠ [])
  (h1:ws=[]->Q (.ref t) s) (h2:ws ≠ []->Q (.ref s.heap.objs.size) {s with heap:=s.heap.push {cls:=.type "tuple",data:=.seq (vs++ws).toArray} })
  (hsz:vs.length+ws.length<=sizeLine):wpAny (model prog w) A (binaryOp .Add (.ref t) (.ref b)) Q E s:=by
 obtain⟨⟨cls,dd,data,sl⟩,ho,hc,n,hd⟩:=id ht
 obtain⟨⟨cls2,gG,data2,fK⟩,fM,cH,n2,eN⟩:=id hb
 simp only at hc hd cH eN
 subst hc hd cH eN
 have e:vs.toArray++ws.toArray=(vs++ws).toArray:=by simp
 by_cases hw:ws=[]
 ·exact concat_meets ⟨_,ho,rfl⟩ ⟨_,fM,rfl⟩ noFill_tuple_add seq_tuple_add PySem.F.slot_tuple_add PySem.F.entry_tuple_add (PySem.F.args_tuple_add_2 _ _)
   (tuple_addW1 t b vs.toArray ws.toArray n n2 dd gG sl fK (by simpa using hv) (by simp[hw])) ⟨ho,fM,h1 hw⟩
 ·refine concat_meets ⟨_,ho,rfl⟩ ⟨_,fM,rfl⟩ noFill_tuple_add seq_tuple_add PySem.F.slot_tuple_add PySem.F.entry_tuple_add (PySem.F.args_tuple_add_2 _ _)
   (tuple_addW2 t b vs.toArray ws.toArray n n2 dd gG sl fK (by simpa using hv) (by simpa using hw) (by rw[List.size_toArray,List.size_toArray];exact hsz)) ⟨ho,fM,?_⟩
  rw[e]
  exact h2 hw
noncomputable def sIx (n d:Nat):Option Int->Nat
 |none=>d
 |some v=>if v<0 then (v+(n:Int)).toNat else min v.toNat n
theorem sIx_none (n d:Nat):sIx n d none=d:=rfl
theorem sIx_nat (n d k:Nat):sIx n d (some (k:Int))=min k n:=by
 show (if (k:Int)<0 then ((k:Int)+(n:Int)).toNat else min (k:Int).toNat n)=min k n
 rw[if_neg s!"",Int.toNat_natCast]
theorem Bc_ (n d:Nat)(hd:d<=n)(o:Option Int):sIx n d o<=n:=by
 cases o with
 |none=>exact hd
 |some v=>
  show (if v<0 then (v+(n:Int)).toNat else min v.toNat n)<=n
  by_cases hv:v<0
  ·rw[if_pos hv];lia
  ·rw[if_neg hv];exact Nat.min_le_right _ _
theorem UR (v:Int)(n d:Nat):(if v<0 then max (v+(n:Int)) 0 else min v (n:Int))=((sIx n d (some v):Nat):Int):=by
 show (if v<0 then max (v+(n:Int)) 0 else min v (n:Int))=(((if v<0 then (v+(n:Int)).toNat else min v.toNat n):Nat):Int)
 by_cases hv:v<0
 ·simp only[if_pos hv];lia
 ·simp only[if_neg hv];lia
theorem S5 (lo hi:Option Int)(n:Nat):Builtin.Slice.sliceAdjust lo hi 1 (n:Int)=(((sIx n 0 lo:Nat):Int),((sIx n n hi:Nat):Int)):=by
 have h1:¬ ((1:Int)<0):=by lia
 unfold Builtin.Slice.sliceAdjust
 simp only[h1,if_false]
 refine Prod.ext ?_ ?_
 ·cases lo with
  |none=>rfl
  |some v=>exact UR v n 0
 ·cases hi with
  |none=>rfl
  |some v=>exact UR v n n
theorem S6 (i j:Nat):Builtin.Slice.slicePlaces (i:Int) (j:Int) 1=j-i:=by
 unfold Builtin.Slice.slicePlaces
 have h1:(1:Int) > 0:=by lia
 simp only[h1,if_true,Int.ediv_one]
 split<;>lia
theorem MK    (p:IsPart v o)(h:Q o s):wpAny (model prog w) A (Builtin.Slice.slicePartIndex v) Q E s:=by
 cases p with
 |none=>exact slicePart_none h
 |int i t=>exact slicePart_int h
theorem JI {sl:Addr}{vl vu:Value}{lo hi:Option Int}{n:Nat}{Q:Int×Int×Nat->Shared->Prop}(hs:s.heap.IsSliceOf sl vl vu .none)(pl:IsPart vl lo)(pu:IsPart vu hi)
  (h:Q (((sIx n 0 lo:Nat):Int),1,sIx n n hi-sIx n 0 lo) s):wpAny (model prog w) A (Builtin.Slice.sliceApplied (.ref sl) (pure (n:Int))) Q E s:=by
 obtain⟨os,dN,hcs,lx⟩:=id hs
 unfold Builtin.Slice.sliceApplied Builtin.Slice.sliceFields
 refine wpAny_bind (wpAny_bind (wpAny_field dN lx (x:=vl) rfl (wpAny_bind (wpAny_field dN lx (x:=vu) rfl (wpAny_bind (wpAny_field dN lx (x:=.none) rfl (wpAny_pure ?_)))))))
 refine wpAny_bind (slicePart_none ?_)
 show wpAny _ _ (if ((1:Int)==0)=true then _ else _) _ _ s
 rw[if_neg (by decide)]
 refine wpAny_bind (MK pl (wpAny_bind (MK pu (wpAny_bind (wpAny_pure ?_)))))
 show wpAny _ _ (match Builtin.Slice.sliceAdjust lo hi 1 (n:Int) with|(lo,hi)=>pure (lo,(1:Int),Builtin.Slice.slicePlaces lo hi 1)) _ _ s
 rw[S5 lo hi n]
 show wpAny _ _ (pure (((sIx n 0 lo:Nat):Int),(1:Int),Builtin.Slice.slicePlaces ((sIx n 0 lo:Nat):Int) ((sIx n n hi:Nat):Int) 1)) _ _ s
 rw[S6]
 exact wpAny_pure h
theorem WT (xs:Array Value)(i k:Nat):((List.range k).filterMap fun (m:Nat)=>xs[((i:Int)+(m:Int)*1).toNat]?).toArray=((xs.toList.drop i).take k).toArray:=by
 have e:(fun (m:Nat)=>xs[((i:Int)+(m:Int)*1).toNat]?)=fun m=>xs[i+m]?:=by
  funext m
  have:((i:Int)+(m:Int)*1).toNat=i+m:=by lia
  rw[this]
 rw[e]
 have:=pick_run xs i k
 rw[List.filterMap_map]at this
 have e2:((fun x=>xs[x]?) ∘ fun x=>i+x)=fun m=>xs[i+m]?:=rfl
 rw[e2]at this
 rw[this]
theorem getItem_tuple_cut {t sl:Addr}   {lo hi:Option Int}  (ht:IsTup s.heap t items)(hs:s.heap.IsSliceOf sl vl vu .none)(pl:IsPart vl lo)(pu:IsPart vu hi)
  (hw:¬ (sIx items.size 0 lo=0/\sIx items.size items.size hi=items.size))
  (h:Q (.ref s.heap.objs.size) {s with heap:=s.heap.push {cls:=.type "tuple",data:=.seq ((items.toList.drop (sIx items.size 0 lo)).take (sIx items.size items.size hi-sIx items.size 0 lo)).toArray} })
  (hsz:items.size<=sizeLine):wpAny (model prog w) A (getItem (.ref t) (.ref sl)) Q E s:=by
 have dm:sizeOk (.seq ((items.toList.drop (sIx items.size 0 lo)).take (sIx items.size items.size hi-sIx items.size 0 lo)).toArray):=by
  show ((items.toList.drop (sIx items.size 0 lo)).take (sIx items.size items.size hi-sIx items.size 0 lo)).toArray.size<=sizeLine
  rw[List.size_toArray,List.length_take,List.length_drop,Array.length_toList]
  lia
 have hj:sIx items.size items.size hi<=items.size:=Bc_ _ _ (Nat.le_refl _) hi
 obtain⟨os,dN,hcs,lx⟩:=id hs
 have hTs:s.TypeIs (.ref sl) "slice" := ⟨os,dN,hcs⟩
 unfold getItem
 try with_reducible refine wpAny_holding ?_
 first|refine wpAny_bind (wpAny_pure ?_)|skip
 refine wpAny_bind (wpAny_sequenceKey ht.typeIs (by decide) ?_)
 refine wpAny_bind (wpAny_callSpecial?_slot (name:=Str.ofString "__getitem__") ht.typeIs PyProof.Rows.slot_tuple_getitem
  (wpAny_call_entry PyProof.Rows.slot_tuple_getitem ht.typeIs entry_tuple_getitem ?_ (args_tuple_getitem _ _)))
 show wpAny _ _ (Builtin.Tuple.tupleItemsOf (.ref t) >>= _) _ _ s
 refine wpAny_bind (tupleItemsOf_ ht ?_)
 refine wpAny_bind (wpAny_typeOf hTs ?_)
 rw[if_pos (by decide)]
 refine wpAny_bind (JI hs pl pu ?_)
 have ie:¬ ((((sIx items.size 0 lo:Nat):Int)==0&&(1:Int)==1&&(sIx items.size items.size hi-sIx items.size 0 lo)==items.size)=true):=by
  intro q
  rw[Bool.and_eq_true,Bool.and_eq_true]at q
  have q1:((sIx items.size 0 lo:Nat):Int)=0:=eq_of_beq q.1.1
  have q2:sIx items.size items.size hi-sIx items.size 0 lo=items.size:=eq_of_beq q.2
  exact hw ⟨by lia,by lia⟩
 show wpAny _ _ (if (((sIx items.size 0 lo:Nat):Int)==0&&(1:Int)==1&&(sIx items.size items.size hi-sIx items.size 0 lo)==items.size)=true then _ else _) _ _ s
 rw[if_neg ie,WT]
 first
  | exact wpAny_bind (m:=Builtin.Tuple.tupleExact _) (wpAny_newObj_type (wpAny_pure ⟨_,rfl,wpAny_pure h⟩) dm)
  | exact wpAny_bind (m:=Builtin.Tuple.tupleExact _) (wpAny_newObj_type (wpAny_bind (wpAny_pure (wpAny_pure ⟨_,rfl,wpAny_pure h⟩))) dm)
  | exact wpAny_bind (wpAny_bind (m:=Builtin.Tuple.tupleExact _) (wpAny_newObj_type (wpAny_pure (wpAny_pure ⟨_,rfl,wpAny_pure h⟩)) dm))
  | exact wpAny_bind (wpAny_bind (m:=Builtin.Tuple.tupleExact _) (wpAny_newObj_type (wpAny_pure ⟨_,rfl,wpAny_pure h⟩) dm))
end
end HT
namespace L2
open PySem PySem.Spec PyProof.Rows
noncomputable abbrev TO:=St->Hp->(Option Int->Hp->Prop)->Prop
noncomputable def PO (X:Cx)(e:Option Expr)(t:TO):Prop:=
 ∀(af:List (Addr×Obj)) (s:Shared) (σ:St) (H:Hp) (Q:Option Int->Hp->Prop),Inv X af σ H s->t σ H Q ->
  wpAny (model X.prog X.w) X.A (evalPart e X.env) (fun u s'=>∃o H',Inv X af σ H' s'/\IsPart u o/\Q o H') X.xe s
noncomputable def US:TO:=fun _ H Q=>Q none H
noncomputable def Bd_ (t:TE):TO:=fun σ H Q=>t σ H fun x H1=>∃i,x=.int i/\Q (some i) H1
theorem intsAre_of  : ∀{us:List Value},Vals (ns.map V.int) us->IntsAre us ns:=by
 induction ns with
 |nil=>intro us r;rw[List.map_nil]at r;cases r;exact .nil
 |cons n ns ih=>
  intro us r
  rw[List.map_cons]at r
  cases r with
  |cons r1 r2=>
   obtain⟨t,e⟩:=r1
   subst e
   exact .cons n t (ih r2)
section
variable {X:Cx} {e:Expr} {te:TE} {lo hi:Option Expr} {tl th:TO} {pos p2:Pos}
theorem Zz:PO X none US:=by
 intro af s σ H Q I h
 rw[evalPart_none]
 exact wpAny_pure ⟨none,H,I,.none,h⟩
theorem ZA (h:PE X e te):PO X (some e) (Bd_ te):=by
 intro af s σ H Q I hw
 rw[evalPart_some]
 refine thn (h af s σ H _ I hw) fun u s1 ⟨x,H1,I1,r1,q1⟩=>?_
 obtain⟨i,rfl,q⟩:=q1
 obtain⟨t,rfl⟩:=r1
 exact⟨some i,H1,I1,.int i t,q⟩
noncomputable def SlR (X:Cx)(r:V->Option Int->Option Int->Hp->VK->Prop):Prop:=
 ∀(af:List (Addr×Obj)) (s:Shared) (σ:St) (H:Hp) (x:V) (v vl vu:Value) (lo hi:Option Int) (sl:Addr) (Q:VK),Inv X af σ H s->RelV x v->s.heap.IsSliceOf sl vl vu .none->IsPart vl lo->IsPart vu hi->r x lo hi H Q ->
  ∃T id,typeLookup (.type T) "__getitem__"=pure (some (.builtin id))/\s.TypeIs v T/\wpAny (model X.prog X.w) X.A (getItem v (.ref sl)) (EP X af σ Q) X.xe s
noncomputable def tSl (r:V->Option Int->Option Int->Hp->VK->Prop)(te:TE)(tl th:TO):TE:=fun σ H Q=>te σ H fun x H1=>tl σ H1 fun l H2=>th σ H2 fun u H3=>r x l u H3 Q
theorem WU  (hr:SlR X r)(he:PE X e te)(hl:PO X lo tl)(hu:PO X hi th):PE X (.Subscript e (.Slice lo hi none p2) pos) (tSl r te tl th):=by
 intro af s σ H Q I h
 refine Subscript_ (thn (he af s σ H _ I h) fun v s1 ⟨x,H1,I1,r1,q1⟩=>?_)
 refine wpAny_Slice (thn (hl af s1 σ H1 _ I1 q1) fun vl s2 ⟨l,H2,I2,pl,q2⟩=>thn (hu af s2 σ H2 _ I2 q2) fun vu s3 ⟨u,H3,I3,pu,q3⟩=>?_)
 rw[evalPart_none]
 refine wpAny_pure ?_
 have I4:Inv X af σ H3 {s3 with heap:=s3.heap.push {cls:=.type "slice",data:=.fields #[vl,vu,.none]} }:=I3.kept (t':=s3.toks) fun b ob q=>Heap.get?_push_of_some _ q
 obtain⟨T,id,hT,ht,hg⟩:=hr af {s3 with heap:=s3.heap.push {cls:=.type "slice",data:=.fields #[vl,vu,.none]} } σ H3 x v vl vu l u s3.heap.objs.size Q I4 r1 (Heap.IsSliceOf.new ..) pl pu q3
 show wpAny (model X.prog X.w) X.A (subscriptTail e (.Slice lo hi none p2) v (.ref s3.heap.objs.size)) (EP X af σ Q) X.xe {s3 with heap:=s3.heap.push {cls:=.type "slice",data:=.fields #[vl,vu,.none]} }
 exact tail_any (ops:=[.ref s3.heap.objs.size,v]) ht hT hg (by with_unfolding_all rfl)
noncomputable def cutV (xs:List V)(lo hi:Option Int):List V:=(xs.drop (HT.sIx xs.length 0 lo)).take (HT.sIx xs.length xs.length hi-HT.sIx xs.length 0 lo)
theorem QC (xs:List V)(lo hi:Option Int):(cutV xs lo hi).length<=xs.length:=by
 unfold cutV
 rw[List.length_take,List.length_drop]
 lia
noncomputable def rSlT (K:PySem.W.Frag):V->Option Int->Option Int->Hp->VK->Prop:=fun x lo hi H Q=>∃a xs,x=.ref a/\SqT K H a xs /\
 ¬ (HT.sIx xs.length 0 lo=0/\HT.sIx xs.length xs.length hi=xs.length)/\∀p,H p=none->Q (.ref p) (upd H p (.tup (cutV xs lo hi)))
theorem Be_:SlR X (rSlT X.K):=by
 intro af s σ H x v vl vu lo hi sl Q I rx hs pl pu h
 obtain⟨a,xs,rfl,hx,hw,q⟩:=h
 cases rx
 obtain⟨its,r,ht,hz⟩:=I.tuple hx
 have ak:its.toArray.size=xs.length:=by rw[List.size_toArray];exact r.length.symm
 refine⟨"tuple",_,PyProof.Rows.slot_tuple_getitem.lookup,ht.typeIs,?_⟩
 refine HT.getItem_tuple_cut ht hs pl pu (by rw[ak];exact hw) ?_ (by rw[ak];exact hz)
 rw[ak]
 refine⟨.ref s.heap.objs.size,_,I.laid (t':=s.toks) (o:=.tup (cutV xs lo hi)) (fun b ob q=>Heap.get?_push_of_some _ q) (Nat.le_refl _) ?_,rfl,q _ (I.hok.fresh (Nat.le_refl _))⟩
 exact⟨Nat.le_trans (QC xs lo hi) hz,_,(r.drop (HT.sIx xs.length 0 lo)).take (HT.sIx xs.length xs.length hi-HT.sIx xs.length 0 lo),IsTup.new _ _⟩
noncomputable def CD_ (K:PySem.W.Frag):R2:=fun x y H Q=>∃a b xs ys,x=.ref a/\y=.ref b/\SqT K H a xs/\SqT K H b ys/\xs ≠ []/\xs.length+ys.length<=sizeLine /\
 (ys=[]->Q (.ref a) H)/\(ys ≠ []->∀p,H p=none->Q (.ref p) (upd H p (.tup (xs++ys))))
theorem Vals.nil_iff   (r:Vals xs us):us=[]↔xs=[]:=by
 cases r with
 |nil=>simp
 |cons _ _=>simp
theorem ZC:OpR X (binaryOp .Add) (CD_ X.K):=by
 intro af s σ H x y v u Q I rx ry h
 obtain⟨a,b,xs,ys,rfl,rfl,ha,hb,hx,hz,q1,q2⟩:=h
 cases rx
 cases ry
 obtain⟨its,r1,p1,_⟩:=I.tuple ha
 obtain⟨az,r2,p2,_⟩:=I.tuple hb
 refine HT.cat_tup p1 p2 (fun z=>hx (r1.nil_iff.mp z)) (fun z=>⟨.ref a,H,I,rfl,q1 (r2.nil_iff.mp z)⟩) (fun z=>?_) (by rw[<-r1.length,<-r2.length];exact hz)
 refine⟨.ref s.heap.objs.size,_,I.laid (t':=s.toks) (o:=.tup (xs++ys)) (fun b ob q=>Heap.get?_push_of_some _ q) (Nat.le_refl _) ?_,rfl,q2 (fun w=>z (r2.nil_iff.mpr w)) _ (I.hok.fresh (Nat.le_refl _))⟩
 exact⟨by rw[List.length_append];exact hz,_,r1.append r2,IsTup.new _ _⟩
end
end L2
namespace L2
open PySem PySem.Spec PyProof.Rows
noncomputable def ixN (n:Nat)(i:Int):Option Nat:=if 0<=i then (if i<n then some i.toNat else none) else if -(n:Int)<=i then some (i+n).toNat else none
noncomputable def atI {α:Type}(xs:List α)(i:Int):Option α:=(ixN xs.length i).bind fun j=>xs[j]?
theorem UT    (h:ixN n i=some j):seqIndex? i n=some j/\j<n /\ -(n:Int)<=i/\i<n:=by
 unfold ixN at h
 by_cases h0:0<=i
 ·rw[if_pos h0]at h
  by_cases h1:i<n
  ·rw[if_pos h1]at h
   have e:i.toNat=j:=Option.some.inj h
   exact⟨by rw[seqIndex_of h0 h1,e],by lia,by lia,h1⟩
  ·rw[if_neg h1]at h;cases h
 ·rw[if_neg h0]at h
  by_cases h1 : -(n:Int)<=i
  ·rw[if_pos h1]at h
   have e:(i+n).toNat=j:=Option.some.inj h
   exact⟨by rw[seqIndex_neg s!"" h1,e],by lia,h1,by lia⟩
  ·rw[if_neg h1]at h;cases h
theorem UU     (h:atI xs i=some v):∃j,seqIndex? i xs.length=some j/\xs[j]?=some v/\j<xs.length /\ -(xs.length:Int)<=i/\i<xs.length:=by
 unfold atI at h
 cases e:ixN xs.length i with
 |none=>rw[e]at h;cases h
 |some j=>
  rw[e]at h
  obtain⟨h1,h2,h3,h4⟩:=UT e
  exact⟨j,h1,h,h2,h3,h4⟩
theorem Gb {α:Type}{xs:List α}{j:Nat}{v:α}(h:xs[j]?=some v):atI xs (j:Int)=some v:=by
 have hj:j<xs.length:=(List.getElem?_eq_some_iff.mp h).1
 have e:ixN xs.length (j:Int)=some j:=by
  unfold ixN
  rw[if_pos s!"",if_pos s!""];simp
 unfold atI;rw[e];exact h
noncomputable def UW (b:Expr):Prop:=∀o i,subscripted b false o i=operate [o,i] (getItem o i)
noncomputable def IxR (X:Cx)(r:R2):Prop:=
 ∀(value aV:Expr) (af:List (Addr×Obj)) (s:Shared) (σ:St) (H:Hp) (x y:V) (v u:Value) (Q:VK),Inv X af σ H s->RelV x v->RelV y u->r x y H Q ->
  subscripted aV false v u=operate [v,u] (getItem v u)->wpAny (model X.prog X.w) X.A (subscriptTail value aV v u) (EP X af σ Q) X.xe s
noncomputable def MtR (X:Cx)(id:String)(r:V->List V->Hp->VK->Prop):Prop:=
 ∀(af:List (Addr×Obj)) (s:Shared) (σ:St) (H:Hp) (x:V) (xs:List V) (v:Value) (us:List Value) (Q:VK),Inv X af σ H s->RelV x v->Vals xs us->r x xs H Q ->
  wpAny (model X.prog X.w) X.A (call (.builtin id) (v::us)) (EP X af σ Q) X.xe s
section
variable {X:Cx} {a b:Expr} {ta tb:TE} {pos:Pos}
theorem IxR.or  (h:IxR X r)(h':IxR X r'):IxR X (fun x y H Q=>r x y H Q\/r' x y H Q):=by
 intro value aV af s σ H x y v u Q I rx ry q hs
 rcases q with q|q
 ·exact h value aV af s σ H x y v u Q I rx ry q hs
 ·exact h' value aV af s σ H x y v u Q I rx ry q hs
theorem Bf_  (hr:IxR X r)(ha:PE X a ta)(hb:PE X b tb)(hs:UW b):PE X (.Subscript a b pos) (tOp r ta tb):=by
 intro af s σ H Q I h
 exact Subscript_ (binT ha hb I h fun v u s2 x y H2 I2 rx ry q=>hr a b af s2 σ H2 x y v u Q I2 rx ry q (hs _ _))
noncomputable def rIxL (K:PySem.W.Frag):R2:=fun x y H Q=>∃p xs i v,x=.ref p/\y=.int i/\SqL K H p xs/\atI xs i=some v/\Q v H
noncomputable def rIxT (K:PySem.W.Frag):R2:=fun x y H Q=>∃p xs i v,x=.ref p/\y=.int i/\SqT K H p xs/\atI xs i=some v/\Q v H
theorem Bw:IxR X (rIxL X.K):=by
 intro value aV af s σ H x y v u Q I rx ry h hs
 obtain⟨p,xs,i,z,rfl,rfl,hq,he,q⟩:=h
 cases rx
 obtain⟨t,rfl⟩:=ry
 obtain⟨its,r,pl,hz⟩:=I.list hq
 obtain⟨j,h1,h2,h3,h4,h5⟩:=UU he
 obtain⟨w,ew,dO⟩:=r.get h2
 have hl:=r.length
 have hn:=OZ
 have fin:EP X af σ Q w s:=⟨z,H,I,dO,q⟩
 by_cases h0:0<=i
 ·have hj:i.toNat=j:=by
   rw[seqIndex_of h0 h5]at h1
   exact Option.some.inj h1
  exact item_listR pl.isList h0 s!"" (by rw[hj];simpa using ew) fin hs
 ·have hj:(i+(its.toArray.size:Int)).toNat=j:=by
   rw[seqIndex_neg s!"" h4]at h1
   rw[List.size_toArray,<-hl]
   exact Option.some.inj h1
  exact subscriptTail_builtinR (x:=w) pl.isList.typeIs slot_list_getitem.lookup
   (wpAny_getItem_list_neg (Q:=fun r s'=>r=w/\EP X af σ Q r s') pl.isList s!"" (by rw[List.size_toArray]<;>lia) s!"" (by rw[hj];simpa using ew) ⟨rfl,fin⟩) hs
theorem AI:IxR X (rIxT X.K):=by
 intro value aV af s σ H x y v u Q I rx ry h hs
 obtain⟨p,xs,i,z,rfl,rfl,hq,he,q⟩:=h
 cases rx
 obtain⟨t,rfl⟩:=ry
 obtain⟨its,r,pl,hz⟩:=I.tuple hq
 obtain⟨j,h1,h2,h3,h4,h5⟩:=UU he
 obtain⟨w,ew,dO⟩:=r.get h2
 have hl:=r.length
 have hn:=OZ
 have fin:EP X af σ Q w s:=⟨z,H,I,dO,q⟩
 exact subscriptTail_builtinR (x:=w) pl.typeIs slot_tuple_getitem.lookup
  (getItem_tuple (j:=j) (Q:=fun r s'=>r=w/\EP X af σ Q r s') pl s!"" s!"" (by rw[List.size_toArray,<-hl];exact h1) (by simpa using ew) ⟨rfl,fin⟩) hs
theorem S7 (its:List Value)(n j:Nat)(u:Value):Obj.mapSeq (·.setIfInBounds j u) {cls:=.type "list",data:=.seq its.toArray n}={cls:=.type "list",data:=.seq (its.set j u).toArray n}:=by
 simp[Obj.mapSeq]
theorem Inv.lst       (I:Inv X af σ H s)(h:H p=some (.lst xs)):
  ∃(its:List Value) (n:Nat),Vals xs its/\s.heap.get? p=some {cls:=.type "list",data:=.seq its.toArray n}/\xs.length<=sizeLine:=by
 obtain⟨z,its,n,r,e⟩:=I.hok p _ h
 exact⟨its,n,r,e,z⟩
theorem Inv.lstUpd       {its its':List Value}   (I:Inv X af σ H s)(h:H p=some (.lst xs))
  (ho:s.heap.get? p=some {cls:=.type "list",data:=.seq its.toArray n}) (hf:f {cls:=.type "list",data:=.seq its.toArray n}={cls:=.type "list",data:=.seq its'.toArray n' }) (r:Vals ys its') (hz:ys.length<=sizeLine) (t:Nat):
  Inv X af σ (upd H p (.lst ys)) {s with heap:=s.heap.update p f,toks:=t}:=by
 have e:(s.heap.update p f).get? p=some {cls:=.type "list",data:=.seq its'.toArray n' }:=by
  rw[Heap.get?_update_self f ho (by rw[hf]<;>rfl),hf]
 refine I.write (x:=p) (e:=p) (by rw[h];trivial) (.inl rfl) (fun b u hb q=>(Heap.get?_update_other _ _ (Ne.symm hb)).trans q) ⟨_,e⟩ ?_
 exact⟨hz,its',n',r,e⟩
noncomputable def Bg_:V->V->V->Hp->(Hp->Prop)->Prop:=fun o i v H Q=>∃p xs k j,o=.ref p/\i=.int k/\H p=some (.lst xs)/\ixN xs.length k=some j/\Q (upd H p (.lst (xs.set j v)))
theorem set_list:PSet X Bg_:=by
 intro af s σ H o i v ov iv u Q I ro ri rv h
 obtain⟨p,xs,k,j,rfl,rfl,hp,hj,q⟩:=h
 cases ro
 obtain⟨t,rfl⟩:=ri
 obtain⟨its,n,r,ho,hz⟩:=I.lst hp
 obtain⟨h1,h2,h3,h4⟩:=UT hj
 have hl:=r.length
 have hn:=OZ
 have I':Inv X af σ (upd H p (.lst (xs.set j v))) {s with heap:=s.heap.update p (Obj.mapSeq (·.setIfInBounds j u))}:=
  I.lstUpd hp ho (S7 its n j u) (r.set rv j) (by rw[List.length_set];exact hz) s.toks
 by_cases h0:0<=k
 ·have hk:k.toNat=j:=by
   rw[seqIndex_of h0 h4]at h1
   exact Option.some.inj h1
  exact PySem.W.ki_setAt ho h0 s!"" (by rw[List.size_toArray,<-hl];exact h4) (by rw[hk];exact⟨_,I',q⟩)
 ·have hk:(k+(its.toArray.size:Int)).toNat=j:=by
   rw[seqIndex_neg s!"" h3]at h1
   rw[List.size_toArray,<-hl]
   exact Option.some.inj h1
  exact PySem.W.ki_setBack ho s!"" (by rw[List.size_toArray,<-hl];exact h3) s!"" (by rw[hk];exact⟨_,I',q⟩)
noncomputable def DO:V->Bool
 |.non=>true
 |.bl _=>true
 |.int _=>true
 |.str _=>true
 |_=>false
noncomputable def eqV:V->V->Bool
 |.non,.non=>true
 |.bl a,.bl b=>a==b
 |.bl a,.int b=>(if a then 1 else 0)==b
 |.int a,.bl b=>a==(if b then 1 else 0)
 |.int a,.int b=>a==b
 |.str a,.str b=>a==b
 |_,_=>false
theorem UX     (ry:RelV y u)(rx:RelV x v)(fy:DO y=true)(fx:DO x=true):SeqAt.EqAt A s u v (eqV y x):=by
 cases y with
 |non=>
  cases ry
  cases x with
  |non=>cases rx;exact SeqAt.EqAt.same _
  |bl b=>cases rx;exact SeqAt.EqAt.none_bool b
  |int b=>obtain⟨t,rfl⟩:=rx;exact SeqAt.EqAt.none_int b t
  |str b=>obtain⟨t,rfl⟩:=rx;exact SeqAt.EqAt.none_str b t
  |_=>exact absurd (show false=true from fx) Bool.false_ne_true
 |bl a=>
  cases ry
  cases x with
  |non=>cases rx;exact SeqAt.EqAt.bool_none a
  |bl b=>cases rx;exact SeqAt.EqAt.bool_bool a b
  |int b=>obtain⟨t,rfl⟩:=rx;exact SeqAt.EqAt.bool_int a b t
  |str b=>obtain⟨t,rfl⟩:=rx;exact SeqAt.EqAt.bool_str a b t
  |_=>exact absurd (show false=true from fx) Bool.false_ne_true
 |int a=>
  obtain⟨t',rfl⟩:=ry
  cases x with
  |non=>cases rx;exact SeqAt.EqAt.int_none a t'
  |bl b=>cases rx;exact SeqAt.EqAt.int_bool a t' b
  |int b=>obtain⟨t,rfl⟩:=rx;exact SeqAt.EqAt.int_int a t' b t
  |str b=>obtain⟨t,rfl⟩:=rx;exact SeqAt.EqAt.int_str a t' b t
  |_=>exact absurd (show false=true from fx) Bool.false_ne_true
 |str a=>
  obtain⟨t',rfl⟩:=ry
  cases x with
  |non=>cases rx;exact SeqAt.EqAt.str_none a t'
  |bl b=>cases rx;exact SeqAt.EqAt.str_bool a t' b
  |int b=>obtain⟨t,rfl⟩:=rx;exact SeqAt.EqAt.str_int a t' b t
  |str b=>obtain⟨t,rfl⟩:=rx;exact SeqAt.EqAt.str_str a t' b t
  |_=>exact absurd (show false=true from fx) Bool.false_ne_true
 |_=>exact absurd (show false=true from fy) Bool.false_ne_true
noncomputable def eqU (x:V)(u:Value):Bool:=match u with
 |.none=>eqV .non x
 |.bool b=>eqV (.bl b) x
 |.int i _=>eqV (.int i) x
 |.str z _=>eqV (.str z) x
 |_=>false
theorem Yk   (r:RelV y u)(f:DO y=true):eqU x u=eqV y x:=by
 cases y with
 |non=>cases r;rfl
 |bl b=>cases r;rfl
 |int i=>obtain⟨t,rfl⟩:=r;rfl
 |str z=>obtain⟨t,rfl⟩:=r;rfl
 |_=>exact absurd (show false=true from f) Bool.false_ne_true
theorem Nm {x:V}:∀{xs:List V} {us:List Value},Vals xs us->xs.all DO=true->us.any (eqU x)=xs.any fun y=>eqV y x
 |_,_,.nil,_=>rfl
 |y::xs,u::us,.cons r t,f=>by
  rw[List.all_cons,Bool.and_eq_true]at f
  rw[List.any_cons,List.any_cons,Yk r f.1,Nm t f.2]
theorem Km {A:Around}{s:Shared}{x:V}{v:Value}(rx:RelV x v)(fx:DO x=true):∀{xs:List V} {us:List Value},Vals xs us->xs.all DO=true->∀u∈us,SeqAt.EqAt A s u v (eqU x u)
 |_,_,.nil,_=>fun u hu=>by cases hu
 |y::xs,u::us,.cons r t,f=>fun u' hu=>by
  rw[List.all_cons,Bool.and_eq_true]at f
  rcases List.mem_cons.mp hu with rfl|hu
  ·rw[Yk r f.1];exact UX r rx f.1 fx
  ·exact Km rx fx t f.2 u' hu
noncomputable def inV (x:V)(xs:List V):Bool:=xs.any fun y=>eqV y x
noncomputable def rIn (K:PySem.W.Frag)(ig:Bool):R2:=fun x y H Q=>∃p xs,y=.ref p/\(SqL K H p xs\/SqT K H p xs)/\DO x=true/\xs.all DO=true/\Q (.bl (if ig then !inV x xs else inV x xs)) H
theorem Jv:OpR X (compareOp .NotIn) (rIn X.K true):=by
 intro af s σ H x y v u Q I rx ry h
 obtain⟨p,xs,rfl,hq,fx,fs,q⟩:=h
 cases ry
 rcases hq with hq|hq
 ·obtain⟨its,r,pl,hz⟩:=I.list hq
  refine SeqAt.notIn_listAt (eqU x) pl.isList (fun w hw=>Km rx fx r fs w (by simpa using hw)) ⟨.bl _,H,I,rfl,?_⟩
  rw[show its.toArray.any (eqU x)=its.any (eqU x) by simp,Nm r fs]
  exact q
 ·obtain⟨its,r,pl,hz⟩:=I.tuple hq
  refine SeqAt.notIn_tupleAt (eqU x) pl (fun w hw=>Km rx fx r fs w (by simpa using hw)) ⟨.bl _,H,I,rfl,?_⟩
  rw[show its.toArray.any (eqU x)=its.any (eqU x) by simp,Nm r fs]
  exact q
theorem Ak:EG X (.builtin "len") (fun xs H Q=>∃p ys,xs=[.ref p]/\(SqL X.K H p ys\/SqT X.K H p ys)/\Q (.int ys.length) H):=by
 intro af s σ H xs us Q I r h
 obtain⟨p,ys,rfl,hq,q⟩:=h
 obtain⟨u,rfl,rx⟩:=vals1 r
 cases rx
 have hn:=OZ
 rcases hq with hq|hq
 ·obtain⟨its,r',pl,hz⟩:=I.list hq
  have ak:=r'.length
  exact Calls.call_len_list pl.isList (by simp only[List.size_toArray]<;>lia) ⟨.int ys.length,H,I.tok _,⟨s.toks+1,by rw[List.size_toArray,ak]⟩,q⟩
 ·obtain⟨its,r',pl,hz⟩:=I.tuple hq
  have ak:=r'.length
  exact len_tuple pl (by simp only[List.size_toArray]<;>lia) ⟨.int ys.length,H,I.tok _,⟨s.toks+1,by rw[List.size_toArray,ak]⟩,q⟩
theorem EG.or   (h:EG X f r)(h':EG X f r'):EG X f (fun xs H Q=>r xs H Q\/r' xs H Q):=by
 intro af s σ H xs us Q I rs q
 rcases q with q|q
 ·exact h af s σ H xs us Q I rs q
 ·exact h' af s σ H xs us Q I rs q
theorem Gd:EG X (.type "list") (fun xs H Q=>∃p ys,xs=[.ref p]/\(SqL X.K H p ys\/SqT X.K H p ys)/\∀l,H l=none->Q (.ref l) (upd H l (.lst ys))):=by
 intro af s σ H xs us Q I r h
 obtain⟨p,ys,rfl,hq,q⟩:=h
 obtain⟨u,rfl,rx⟩:=vals1 r
 cases rx
 have fin:∀(its:List Value),Vals ys its->ys.length<=sizeLine->∀(h':Heap) (c':Nat),(∀b o',s.heap.get? b=some o'->h'.get? b=some o') ->
   h'.get? s.heap.objs.size=some {cls:=.type "list",dict:=none,data:=.seq its.toArray c',slots := #[]}->EP X af σ Q (.ref s.heap.objs.size) {s with heap:=h' }:=fun its r' hz h' c' kp e=>
  ⟨.ref s.heap.objs.size,_,I.laid (t':=s.toks) kp (Nat.le_refl _) (show Cz X.prog X.w _ h' _ (.lst ys) from ⟨hz,its,c',r',e⟩),rfl,q _ (I.hok.fresh (Nat.le_refl _))⟩
 rcases hq with hq|hq
 ·obtain⟨its,r',pl,hz⟩:=I.list hq
  have ak:=r'.length
  obtain⟨o,ho,hc,n,hd⟩:=pl.isList
  exact call_list_seq p (.inl rfl) ho hc hd (fun h' c' kp e=>fin its r' hz h' c' kp e) (by simp only[List.size_toArray]<;>lia)
 ·obtain⟨its,r',pl,hz⟩:=I.tuple hq
  have ak:=r'.length
  obtain⟨o,ho,hc,n,hd⟩:=pl
  exact call_list_seq p (.inr rfl) ho hc hd (fun h' c' kp e=>fin its r' hz h' c' kp e) (by simp only[List.size_toArray]<;>lia)
theorem Nn:EG X (.type "tuple") (fun xs H Q=>∃p ys,xs=[.ref p]/\((SqL X.K H p ys/\∀l,H l=none->Q (.ref l) (upd H l (.tup ys)))\/(SqT X.K H p ys/\Q (.ref p) H))):=by
 intro af s σ H xs us Q I r h
 obtain⟨p,ys,rfl,h⟩:=h
 obtain⟨u,rfl,rx⟩:=vals1 r
 cases rx
 rcases h with ⟨hq,q⟩|⟨hq,q⟩
 ·obtain⟨its,r',pl,hz⟩:=I.list hq
  have ak:=r'.length
  refine call_tuple_list pl.isList (fun h' kp=>?_) (by simp only[List.size_toArray]<;>lia)
  have I1:Inv X af σ H {s with heap:=h' }:=I.kept (t':=s.toks) kp
  have I2:Inv X af σ (upd H h'.objs.size (.tup ys)) {s with heap:=h'.push {cls:=.type "tuple",data:=.seq its.toArray} }:=
   I1.laid (t':=s.toks) (fun b o e=>Heap.get?_push_of_some _ e) (Nat.le_refl _) (show Cz X.prog X.w _ _ _ (.tup ys) from ⟨hz,its,r',IsTup.new _ _⟩)
  exact⟨.ref h'.objs.size,_,I2,rfl,q _ (I1.hok.fresh (Nat.le_refl _))⟩
 ·obtain⟨its,r',pl,hz⟩:=I.tuple hq
  exact call_tuple_same pl ⟨.ref p,H,I,rfl,q⟩
noncomputable def tyV (K:PySem.W.Frag)(T:String)(x:V)(H:Hp):Prop:=match x with
 |.str _=>T = "str"
 |.int _=>T = "int"
 |.ref p=>(T = "list" /\ ∃xs,SqL K H p xs)\/(T = "tuple" /\ ∃o,K.lookup p=some o/\o.cls=.type "tuple" /\ o.dict=none) \/
   (T = "dict" /\ ((∃kvs,H p=some (.dK kvs)) \/ ∃kvs,H p=some (.dT kvs)))\/(T = "set" /\ ∃S n,H p=some (.set S n))
 |_=>False
theorem Yl        (I:Inv X af σ H s)(r:RelV x v)(ty:tyV X.K T x H):
  s.TypeIs v T/\∀a,v=.ref a->∃ob,s.heap.get? a=some ob/\ob.dict=none:=by
 cases x with
 |str z=>
  obtain⟨t,rfl⟩:=r
  cases (show T = "str" from ty)
  exact⟨typeIs_str s z t,fun _ e=>nomatch e⟩
 |int i=>
  obtain⟨t,rfl⟩:=r
  cases (show T = "int" from ty)
  exact⟨typeIs_int s i t,fun _ e=>nomatch e⟩
 |ref p=>
  cases r
  rcases ty with ⟨rfl,xs,hq⟩|⟨rfl,o,hk,hc,hd⟩|⟨rfl,hk⟩|⟨rfl,S,n,hk⟩
  ·obtain⟨its,_,pl,_⟩:=I.list hq
   refine⟨pl.isList.typeIs,fun a e=>?_⟩
   cases e
   obtain⟨o,n,e,c,hd,_⟩:=pl
   exact⟨o,e,hd⟩
  ·refine⟨⟨o,I.kIn p o hk,hc⟩,fun a e=>?_⟩
   cases e
   exact⟨o,I.kIn _ o hk,hd⟩
  ·have z:∃o,s.heap.get? p=some o/\o.ExactDict:=by
    rcases hk with ⟨kvs,hk⟩|⟨kvs,hk⟩
    ·obtain⟨_,_,_,_,o,_,_,e,ex,_⟩:=I.hok p _ hk
     exact⟨o,e,ex⟩
    ·obtain⟨_,_,_,_,o,_,_,e,ex,_⟩:=I.hok p _ hk
     exact⟨o,e,ex⟩
   obtain⟨o,e,ex⟩:=z
   refine⟨⟨o,e,ex.1⟩,fun a e2=>?_⟩
   cases e2
   exact⟨o,e,ex.2.1⟩
  ·obtain⟨o,_,_,_,e,ex,_⟩:=I.hok p _ hk
   refine⟨⟨o,e,ex.1⟩,fun a e2=>?_⟩
   cases e2
   exact⟨o,e,ex.2.1⟩
 |_=>exact False.elim ty
noncomputable def tBM0 (K:PySem.W.Frag)(T:String)(r:V->List V->Hp->VK->Prop)(to:TE):TE:=fun σ H Q=>to σ H fun x H1=>tyV K T x H1/\r x [] H1 Q
noncomputable def tBM (K:PySem.W.Frag)(T:String)(r:V->List V->Hp->VK->Prop)(to:TE)(t:TA):TE:=fun σ H Q=>to σ H fun x H1=>tyV K T x H1/\t σ H1 fun xs H2=>r x xs H2 Q
variable {o e:Expr} {es:List Expr} {to:TE} {t:TA} {name:Str} {aW aC:Pos} {T id:String} {r:V->List V->Hp->VK->Prop}
theorem Ym (pa:PlainAttrs T)(slot:Slot T name id)(j5:typeOf (.builtin id)=pure (.type "method_descriptor"))(hm:MtR X id r)(ho:PE X o to)
  (cu:attributeBase o name X.env (eval o X.env)=eval o X.env:=by rfl) (cw:(aW.endLine==aC.line)=true:=by rfl):PE X (.Call (.Attribute o name aW) [] [] aC) (tBM0 X.K T r to):=by
 intro af s σ H Q I h
 refine wpAny_Call_method0_late cu cw (thn (ho af s σ H _ I h) fun v s1 ⟨x,H1,I1,r1,ty,q1⟩=>?_)
 obtain⟨h1,h2⟩:=Yl I1 r1 ty
 exact⟨T,id,pa,slot,j5,h1,h2,Calls.callWith_builtin rfl (PySem.evalArgs_none (hm af s1 σ H1 x [] v [] Q I1 r1 .nil q1))⟩
theorem Fg (pa:PlainAttrs T)(slot:Slot T name id)(j5:typeOf (.builtin id)=pure (.type "method_descriptor"))(hm:MtR X id r)(ho:PE X o to)(ha:PA X (e::es) t)
  (cu:attributeBase o name X.env (eval o X.env)=eval o X.env:=by rfl)
  (fW:((backTo aC (starEach (e::es) X.env)).all (fun x => !x.1)&&(backToKw aC (keywordEach [] X.env)).all (fun x=>x.1.isSome)
   && decide ((e::es).length+([]:List Keyword).length+(if ([]:List Keyword).isEmpty then 0 else 1)<30))=true:=by rfl)
  (cw:(aW.endLine==aC.line)=true:=by rfl) (hs:starEach (e::es) X.env=(false,eval e X.env)::starEach es X.env:=by rfl) (bB:(backTo aC (starEach es X.env)).any (·.1)=false:=by rfl):
  PE X (.Call (.Attribute o name aW) (e::es) [] aC) (tBM X.K T r to t):=by
 intro af s σ H Q I h
 refine wpAny_Call_method_late cu fW cw rfl (thn (ho af s σ H _ I h) fun v s1 ⟨x,H1,I1,r1,ty,q1⟩=>?_)
 obtain⟨h1,h2⟩:=Yl I1 r1 ty
 refine⟨T,id,pa,slot,j5,h1,h2,?_⟩
 have hA:=ha aC af s1 σ H1 _ I1 q1
 rw[hs]at hA ⊢
 refine Calls.callWith_builtin (by show (false||(backTo aC (starEach es X.env)).any (·.1))=false;rw[bB]<;>rfl) (Calls.evalArgs_plain ?_)
 exact thn hA fun us s2 ⟨vs,H2,I2,r2,q2⟩=>hm af s2 σ H2 x vs v us Q I2 r1 r2 q2
/- xs.append(e),list.index on a module's tuple .. are MtR facts of 06m -/
end
end L2
namespace L2
open PySem PySem.Spec PyProof.Rows
noncomputable def MtM (X:Cx)(id:String)(r:V->List V->Hp->VK->Prop):Prop:=
 ∀(af:List (Addr×Obj)) (s:Shared) (σ:St) (H:Hp) (x:V) (xs:List V) (v:Value) (us:List Value) (Q:VK),Inv X af σ H s->RelV x v->Vals xs us->r x xs H Q ->
  wpAny (model X.prog X.w) X.A (call (.builtin id) (v::us)) (EP X af σ Q) X.xe s
theorem Vals.one:∀{x:V} {us:List Value},Vals [x] us->∃u,us=[u]/\RelV x u
 |_,_,.cons r .nil=>⟨_,rfl,r⟩
theorem Vals.zero:∀{us:List Value},Vals [] us->us=[]
 |_,.nil=>rfl
theorem Vals.rep {xs:List V}{us:List Value}(h:Vals xs us):∀k:Nat,Vals (List.replicate k xs).flatten (List.replicate k us).flatten
 |0=>.nil
 |k+1=>by
  rw[List.replicate_succ,List.replicate_succ,List.flatten_cons,List.flatten_cons]
  exact Vals.append h (Vals.rep h k)
theorem foldl_rep (its:List Value):∀(k:Nat) (ai:List Value),
  List.foldl (fun x1 x2=>x1++x2) ai.toArray (List.replicate k its.toArray)=(ai++(List.replicate k its).flatten).toArray
 |0,ai=>by simp
 |k+1,ai=>by
  have e:ai.toArray++its.toArray=(ai++its).toArray:=by simp
  have e2:(ai++its)++(List.replicate k its).flatten=ai++(List.replicate (k+1) its).flatten:=by
   rw[List.replicate_succ,List.flatten_cons,List.append_assoc]
  rw[<-e2,<-foldl_rep its k (ai++its),<-e,List.replicate_succ,List.foldl_cons]
section
variable {X:Cx} {af:List (Addr×Obj)} {σ:St} {H:Hp} {s:Shared} {l b:Addr} {xs ys zs:List V}
theorem Inv.lset {its its':List Value}    (I:Inv X af σ H s)(hH:H l=some (.lst xs))
  (e:s.heap.get? l=some {cls:=.type "list",data:=.seq its.toArray n}) (hf:f its.toArray=its'.toArray) (hv:Vals ys its') (hz:ys.length<=sizeLine):
  Inv X af σ (upd H l (.lst ys)) {s with heap:=s.heap.update l (Obj.mapSeq f),toks:=t' }:=by
 have q:=PySem.IsL.update e f
 rw[hf]at q
 refine I.write (x:=l) (e:=l) (by rw[hH];exact trivial) (.inl rfl) (fun b' u hb hu=>(Heap.get?_update_other s.heap (Obj.mapSeq f) (Ne.symm hb)).trans hu) ⟨_,q⟩ ?_
 exact⟨hz,its',_,hv,q⟩
theorem Inv.lnew {its:List Value}  (I:Inv X af σ H s)(hv:Vals ys its)(hz:ys.length<=sizeLine):
  Inv X af σ (upd H s.heap.objs.size (.lst ys)) {s with heap:=s.heap.push {cls:=.type "list",data:=.seq its.toArray},toks:=t' }:=
 I.laid (fun _ _ q=>Heap.get?_push_of_some _ q) (Nat.le_refl _) ⟨hz,its,0,hv,Heap.get?_push_size _ rfl⟩
theorem Inv.fresh (I:Inv X af σ H s):H s.heap.objs.size=none:=I.hok.fresh (Nat.le_refl _)
theorem Inv.lstM (I:Inv X af σ H s)(hH:H l=some (.lst xs)):xs.length<=sizeLine/\∃(its:List Value) (n:Nat),Vals xs its/\xs.length=its.length/\s.heap.get? l=some {cls:=.type "list",data:=.seq its.toArray n}:=by
 obtain⟨z,its,n,r,e⟩:=I.hok l _ hH
 exact⟨z,its,n,r,r.length,e⟩
theorem R3  (h:n<=sizeLine):Builtin.List.listTooLong n=false:=by
 unfold Builtin.List.listTooLong
 exact decide_eq_false s!""
end
section
variable {X:Cx}
noncomputable def UY:V->List V->Hp->VK->Prop:=fun x vs H Q=>∃l xs y,x=.ref l/\vs=[y]/\H l=some (.lst xs)/\xs.length<sizeLine/\Q .non (upd H l (.lst (xs++[y])))
theorem Bh:MtM X "list.append" UY:=by
 intro af s σ H x vs v us Q I rx rv h
 obtain⟨l,xs,y,rfl,rfl,hH,hz,q⟩:=h
 cases rx
 obtain⟨u,rfl,ru⟩:=rv.one
 obtain⟨z,its,n,r,hl,e⟩:=I.lstM hH
 refine call_meets F.slot_list_append ⟨_,e,rfl⟩ F.entry_list_append (F.args_list_append_2 _ _) (PySem.list_append l its.toArray n u (by rw[List.size_toArray];lia)) ⟨e,?_⟩
 refine⟨.non,_,I.lset (its':=its++[u]) hH e (by simp) (r.append (.cons ru .nil)) ?_,rfl,q⟩
 rw[List.length_append,List.length_singleton]
 lia
noncomputable def UZ:V->List V->Hp->VK->Prop:=fun x vs H Q=>∃l b xs zs,x=.ref l/\vs=[.ref b]/\H l=some (.lst xs)/\H b=some (.lst zs)/\xs.length+zs.length<=sizeLine/\Q .non (upd H l (.lst (xs++zs)))
theorem U0:MtM X "list.extend" UZ:=by
 intro af s σ H x vs v us Q I rx rv h
 obtain⟨l,b,xs,zs,rfl,rfl,hH,hB,hz,q⟩:=h
 cases rx
 obtain⟨u,rfl,ru⟩:=rv.one
 cases ru
 obtain⟨z,its,n,r,hl,e⟩:=I.lstM hH
 obtain⟨z2,az,n2,r2,cx,e2⟩:=I.lstM hB
 have hsz:its.toArray.size+az.toArray.size<=sizeLine:=by rw[List.size_toArray,List.size_toArray];lia
 have eO:¬ (!its.toArray.isEmpty&&Builtin.List.listTooLong (its.toArray.size+az.toArray.size))=true:=by
  rw[R3 hsz,Bool.and_false]
  exact Bool.false_ne_true
 refine call_meets F.slot_list_extend ⟨_,e,rfl⟩ F.entry_list_extend (F.args_list_extend_2 _ _)
  (AutoSeq1.list_extend_list_list_0 l its.toArray n b az.toArray n2 eO (by rw[List.size_toArray];lia) s!"") ⟨e,e2,?_⟩
 refine⟨.non,_,I.lset (its':=its++az) hH e (by simp) (r.append r2) ?_,rfl,q⟩
 rw[List.length_append]
 lia
noncomputable def Yn:V->List V->Hp->VK->Prop:=fun x vs H Q=>∃l xs,x=.ref l/\vs=[]/\H l=some (.lst xs)/\Q .non (upd H l (.lst []))
theorem R4:MtM X "list.clear" Yn:=by
 intro af s σ H x vs v us Q I rx rv h
 obtain⟨l,xs,rfl,rfl,hH,q⟩:=h
 cases rx
 have hus:=rv.zero
 subst hus
 obtain⟨z,its,n,r,hl,e⟩:=I.lstM hH
 refine call_meets F.slot_list_clear ⟨_,e,rfl⟩ F.entry_list_clear (F.args_list_clear_1 _) (AutoSeq1.list_clear_list_0 l its.toArray n (by rw[List.size_toArray];lia)) ⟨e,?_⟩
 exact⟨.non,_,I.lset (its':=[]) (ys:=[]) hH e rfl .nil (Nat.zero_le _),rfl,q⟩
noncomputable def rCat:R2:=fun x y H Q=>∃l b xs zs,x=.ref l/\y=.ref b/\H l=some (.lst xs)/\H b=some (.lst zs)/\xs.length+zs.length<=sizeLine/\∀p,H p=none->Q (.ref p) (upd H p (.lst (xs++zs)))
theorem Bh_:OpR X (binaryOp .Add) rCat:=by
 intro af s σ H x y v u Q I rx ry h
 obtain⟨l,b,xs,zs,rfl,rfl,hH,hB,hz,q⟩:=h
 cases rx
 cases ry
 obtain⟨z,its,n,r,hl,e⟩:=I.lstM hH
 obtain⟨z2,az,n2,r2,cx,e2⟩:=I.lstM hB
 refine PySem.P.add_list e e2 ?_ (by rw[List.size_toArray,List.size_toArray];lia)
 have ea:its.toArray++az.toArray=(its++az).toArray:=by simp
 rw[ea]
 exact⟨.ref _,_,I.lnew (t':=s.toks) (r.append r2) (by rw[List.length_append];lia),rfl,q _ I.fresh⟩
noncomputable def rRep:R2:=fun x y H Q=>∃l k xs,x=.ref l/\y=.int k/\H l=some (.lst xs) /\ -(2 ^ 63)<=k/\k<2 ^ 63/\xs.length*k.toNat<=sizeLine /\
 ∀p,H p=none->Q (.ref p) (upd H p (.lst (List.replicate k.toNat xs).flatten))
theorem len_rep {α:Type}(xs:List α)(k:Nat):(List.replicate k xs).flatten.length=k*xs.length:=by
 induction k with
 |zero=>simp
 |succ k ih=>rw[List.replicate_succ,List.flatten_cons,List.length_append,ih,Nat.succ_mul,Nat.add_comm]
theorem U1:OpR X (binaryOp .Mult) rRep:=by
 intro af s σ H x y v u Q I rx ry h
 obtain⟨l,k,xs,rfl,rfl,hH,h1,h2,hz,q⟩:=h
 cases rx
 obtain⟨t,rfl⟩:=ry
 obtain⟨z,its,n,r,hl,e⟩:=I.lstM hH
 have ak:its.toArray.size*k.toNat<=sizeLine:=by rw[List.size_toArray,<-hl];exact hz
 have hcap:¬ its.toArray.size*k.toNat > (2 ^ 63-1) / 8:=by
  have:(sizeLine:Nat)<=(2 ^ 63-1) / 8:=by decide
  lia
 have hfit:¬ (!Builtin.List.listFitsIndex k)=true:=by
  rw[fitsIndex_both h1 h2]
  exact Bool.false_ne_true
 have eO:¬ Builtin.List.listTooLong (its.toArray.size*k.toNat)=true:=by
  rw[R3 ak]
  exact Bool.false_ne_true
 have cy:List.foldl (fun x1 x2=>x1++x2) #[] (List.replicate (if its.toArray.isEmpty=true then 0 else k.toNat) its.toArray)=(List.replicate k.toNat its).flatten.toArray:=by
  have f0:∀m:Nat,List.foldl (fun x1 x2=>x1++x2) #[] (List.replicate m its.toArray)=(List.replicate m its).flatten.toArray:=fun m=>by
   have:=foldl_rep its m []
   rw[List.nil_append]at this
   exact this
  rw[f0]
  cases its with
  |nil=>simp
  |cons a r'=>rw[if_neg (by simp)]
 refine wpAny_binaryOp_repeat_ref (T := "list") (U := "int") (by decide) ⟨_,e,rfl⟩ (fun s'=>typeIs_int s' k t) noFill_list_mul F.fills_int_mul F.slot_int_rmul repeat_list F.slot_int_index.lookup
  (call_meets F.slot_int_rmul (typeIs_int s k t) F.entry_int_rmul (F.args_int_rmul_2 _ _) (int___rmul___int_list k t l its.toArray n)
   ⟨e,rfl,⟨_,e,rfl⟩,call_meets F.slot_list_mul ⟨_,e,rfl⟩ F.entry_list_mul (F.args_list_mul_2 _ _) (AutoListH.list___mul___list_int_3 l its.toArray n k t hfit hcap eO) ⟨e,?_⟩⟩)
 rw[cy]
 exact⟨.ref _,_,I.lnew (t':=s.toks) (r.rep k.toNat) (by rw[len_rep,Nat.mul_comm];exact hz),rfl,q _ I.fresh⟩
end
end L2
namespace Att
open PySem PySem.W PySem.Calls PyProof.Rows
theorem KA   : ∀(ns:List Int) (vs:List Value),WellAll P h vs (ns.map WData.int)->IntsAre vs ns:=by
 intro ns
 induction ns with
 |nil=>
  intro vs w
  rw[List.map_nil]at w
  cases w
  exact .nil
 |cons n ns ih=>
  intro vs w
  rw[List.map_cons]at w
  cases w with
  |cons a b=>
   cases a
   exact .cons _ _ (ih _ b)
theorem U2 {l:OpenLaw}{n:Nat}(hn:l.most=some n){P:Params}{h:Heap}{args:List WData}{ik:List Value}
  (fX:l.row.toRowW.claim.pre args=true) (dP:WellAll P h ik args):
  ∃a vs ns,ik=[Value.ref a]/\args=[WData.list (ns.map WData.int)]/\h.get? a=some {cls:=.type "list",data:=.seq vs.toArray}/\IntsAre vs ns/\ns.length<=n:=by
 have hsh:WShape.hasAll [] args [.list .int]=true:=(pre_splitW fX).1
 have hc:l.pre.holds [] {args:=args}=true:=(pre_splitW fX).2
 obtain⟨d,r,rfl,h1,h2⟩:=hasAllW_cons hsh
 obtain rfl:=hasAllW_nil h2
 obtain⟨xs,rfl,h3⟩:=hasW_list h1
 obtain⟨ns,rfl⟩:=items_int h3
 have ak:ns.length<=n:=by
  unfold OpenLaw.pre at hc
  have h4:(WTm.not (.lt (.lit (.int (n:Int))) (.len (.arg 0)))).holds [] {args:=[.list (ns.map .int)]}=true:=by
   have h4:=(holds_andW hc).1
   rw[hn]at h4
   exact h4
  have h5:=condW_of h4 (w_not (w_lt w_lit (w_len_list (w_arg rfl))))
  rw[List.length_map]at h5
  refine Nat.le_of_not_lt fun q=>?_
  have q':(n:Int)<((ns.length:Nat):Int):=by lia
  first
   | (rw[decide_eq_true q']at h5;exact absurd h5 (by decide))
   | (simp at h5;lia)
 cases dP with
 |cons w1 w2=>
  cases w2
  cases w1 with
  |list ho aL=>exact⟨_,_,ns,rfl,rfl,ho,KA ns _ aL,ak⟩
theorem U3 (l:OpenLaw)(args:List WData):l.row.toRowW.claim.post args (.bool true) args=true:=
 postW_of (r:=l.row.toRowW) (X:=(true==true))
  (show WShape.has [] (.bool true) .bool=true by first|rfl|decide|simp[WShape.has,WShape.arms,WShape.armsAll])
  (show (WTm.eq .res (.lit (.bool true))).value [] {args:=args,res:=some (.bool true),after:=args}=some (.bool (true==true)) from w_eq_bool (w_res rfl) w_lit) rfl
theorem attach_call {l:OpenLaw}{n:Nat}{q:Program}{bQ:List Str}{XP:(Str->Option Value)->Heap->Prop}{YP:World->Heap->Prop}{d:DefRec}
  (hn:l.most=some n) (j6:d.params.defaults=[])
  (call:∀(w:World) (s₀ s₁:Shared) (mg mb:Str->Option Value) (fa:Addr) (o:Obj) (pm cd bp:Value) (a:Addr) (vs:List Value) (ns:List Int),
   Ground q bQ [] XP w s₀ mg mb s₁.heap->YP w s₁.heap ->
   s₁.heap.get? fa=some o->o.data=.func (docDef d.name d.params d.body d.scope pm cd bp)->s₁.heap.CodeRec cd d.name->mg d.name=some (.ref fa) ->
   s₁.heap.get? a=some {cls:=.type "list",data:=.seq vs.toArray}->IntsAre vs ns->ns.length<=n->s₁.gens = #[] ->
   codeAny (model l.prog w) callerA (.call (.ref fa) ⟨[.ref a],[]⟩) (fun r s'=>r=.ok (.ret (.bool true))/\OldK s₁.heap s'.heap/\s'.os=s₁.os/\AllBare s'.gens) s₁):
  WalkO q bQ XP YP l.row.toRowW d [] (fun f vs=>PySem.call f vs):=by
 intro w s₀ s₁ mg mb G Y fa o pm cd bp dV kV ho hd bo hD hmg hg args ik as fX hlay lA dP hlo
 obtain rfl:dV=.none:=Dflts.none hD j6
 obtain rfl:kV=.none:=Dflts.noKw hD
 obtain⟨a,vs,ns,rfl,rfl,cz,eQ,ak⟩:=U2 hn fX dP
 refine enter_call (codeAny_mono (call w s₀ s₁ mg mb fa o pm cd bp a vs ns G Y ho (fd_plain hd) bo hmg cz eQ ak hg) fun r s' hq=>?_)
 obtain⟨rfl,h2,h3,h4⟩:=hq
 exact⟨.inl ⟨.bool true,.bool true,[],rfl,fun _=>rfl,.bool true,U3 l _,fun _=>⟨List.Pairwise.nil,fun _ hm=>(nomatch hm)⟩⟩,h2,h3,h4⟩
end Att
namespace L2
open PySem PySem.Spec PyProof.Rows
theorem O6:∀{vs:List Value} {ns:List Int},IntsAre vs ns->Vals (ns.map V.int) vs
 |_,_,.nil=>.nil
 |_,_,.cons n t h=>.cons ⟨t,rfl⟩ (O6 h)
noncomputable def AD (s:Stmt):Arguments:=match s with
 |.FunctionDef _ a _ _ _ _ _ _ _ _=>a
 |_=>{posonlyargs:=[],args:=[],vararg:=none,kwonlyargs:=[],kw_defaults:=[],kwarg:=none,defaults:=[]}
noncomputable def Aw (s:Stmt):List Stmt:=match s with
 |.FunctionDef _ _ b _ _ _ _ _ _ _=>b
 |_=>[]
noncomputable def Af (s:Stmt):Scope:=match s with
 |.FunctionDef _ _ _ _ _ _ sc _ _ _=>sc
 |_=>{kind:=.function,names:=[],isGenerator:=false,isCoroutine:=false}
noncomputable abbrev CX0:CXT:=fun _ _ _ _ _ _=>False
noncomputable abbrev E0:XK:=fun _ _ _=>False
theorem Be  : O0 CX0 X E0:=fun _ _ _ _ _ _ _ h=>h.elim
structure Fun (K:PySem.W.Frag)(x qual:Str)(st:Stmt)(f:Addr)(fd:FuncData):Prop where
 ex:∃(oc:Value) (od:Option Addr) (kV bp pm:Value) (an:Option Addr) (aB ct:Value) (eg:Array (Option Value)),
  fd=PySem.W.fnOf x qual (AD st) (Aw st) (Af st) .none kV bp pm an aB ct/\K.lookup f=some ⟨oc,od,.func fd,eg⟩/\PySem.W.codeIn K aB qual=true
 kp:PySem.W.keepIn K (.ref f)=true
section
variable {P:Program} {w:World} {K:PySem.W.Frag} {mg:Str->Option Value} {base:Heap}
theorem Fun.ok  {st:Stmt}      (F:Fun K x qual st f fd)(S:FnScope N ps (Af st))(len:∀vs H Q E,sp vs H Q E->vs.length=ps.length)
  (bA:∀(aB:Value) (A:Around) (outer:List Env) (s:Shared) (H:Hp) (vs:List V) (Q:VK) (E:XK),Room k (A.deeper (envOfC qual (Af st) s.heap.objs.size f aB))->sp vs H Q E ->
   ∃t,PSs (cxOf CX0 P w K mg base N qual (Af st) f aB A outer s H E).nox (Aw st) t/\t {nx:=fun _ H'=>Q .non H',rt:=Q} (start N vs) H):FnOk P w K mg base CX0 (k+1) f fd ps sp:=by
 obtain⟨oc,od,kV,bp,pm,an,aB,ct,eg,rfl,lk,bo⟩:=F.ex
 refine Zy lk bo S len fun A outer s H vs Q E hr cQ=>?_
 obtain⟨t,h,q⟩:=bA aB A outer s H vs Q E hr cQ
 exact⟨t,h.nox,q⟩
theorem Fun.binds  {st:Stmt}    (F:Fun K x qual st f fd)
  (h:∀(kV bp pm:Value) (an:Option Addr) (aB ct:Value) (us:List Value),us.length=ps.length->bindArgs (PySem.W.fnOf x qual (AD st) (Aw st) (Af st) .none kV bp pm an aB ct) ⟨us,[]⟩=pure (ps.zip us)):Bj K fd ps []:=by
 obtain⟨oc,od,kV,bp,pm,an,aB,ct,eg,rfl,lk,bo⟩:=F.ex
 exact .all (h kV bp pm an aB ct)
theorem Bi  {st:Stmt}     {kV bp pm aB ct:Value}(l:K.lookup f=some ⟨oc,od,.func (PySem.W.fnOf x qual (AD st) (Aw st) (Af st) .none kV bp pm an aB ct),eg⟩)
  (c:PySem.W.codeIn K aB qual=true) (k:PySem.W.keepIn K (.ref f)=true):Fun K x qual st f (PySem.W.fnOf x qual (AD st) (Aw st) (Af st) .none kV bp pm an aB ct):=⟨⟨oc,od,kV,bp,pm,an,aB,ct,eg,rfl,l,c⟩,k⟩
end
theorem O7   (hr:Room k A):A.units+1<cLine:=Nat.lt_of_le_of_lt (Nat.add_le_add_left (by decide:1<=64) _) hr.units
section
variable {X:Cx}
theorem pv (i:Nat)   (hN:X.N[i]?=some x:=by rfl)(hv:Vis X.env.scope x:=by first|exact Or.inl rfl|exact Or.inr (Or.inl rfl)|exact Or.inr (Or.inr rfl))(hd:(x==("__debug__" : Str))=false:=by decide)
  (bo:(x==("__classdict__" : Str))=false:=by decide):PE X (.Name x pos) (tVar i):=AH_ hN hv hd bo
end
theorem ite2 {c A B:Prop}[Decidable c](h1:c->A)(h2:¬ c->B):if c then A else B:=by
 by_cases h:c
 ·rw[if_pos h]
  exact h1 h
 ·rw[if_neg h]
  exact h2 h
noncomputable def Same (H H':Hp):Prop:=∀b o,H b=some o->H' b=some o
theorem Same.refl (H:Hp):Same H H:=fun _ _ h=>h
theorem Same.trans {H H1 H2:Hp}(a:Same H H1)(b:Same H1 H2):Same H H2:=fun c o h=>b c o (a c o h)
theorem Same.free  (e:Same H H')  (h:H' l=Option.none):H l=Option.none:=by
 cases q:H l with
 |none=>rfl
 |some o=>
  rw[e l o q]at h
  cases h
theorem Same.seq {K:PySem.W.Frag}    (e:Same H H')(h:SqL K H a xs):SqL K H' a xs:=by
 rcases h with (h|⟨o,h⟩)|h
 ·exact .inl (.inl (e _ _ h))
 ·exact .inl (.inr ⟨o,e _ _ h⟩)
 ·exact .inr h
end L2
set_option maxHeartbeats 4000000
namespace L2
open PySem PySem.Spec PyProof.Rows
section
variable {κ:Type} [DecidableEq κ]
noncomputable def valV (kvs:List (κ×V))(k:κ):Option V:=(kvs.find? fun kv=>decide (kv.1=k)).map (·.2)
noncomputable def putK (kvs:List (κ×V))(k:κ)(v:V):List (κ×V):=
 if (kvs.any fun kv=>decide (kv.1=k))=true then kvs.map (fun kv=>if kv.1=k then (kv.1,v) else kv) else kvs++[(k,v)]
theorem Kn {p:κ×V}{r:List (κ×V)}{k:κ}(e:p.1=k):valV (p::r) k=some p.2:=by simp[valV,List.find?_cons,e]
theorem Ko {p:κ×V}{r:List (κ×V)}{k:κ}(e:¬ p.1=k):valV (p::r) k=valV r k:=by simp[valV,List.find?_cons,e]
theorem Fh (k:κ):∀kvs:List (κ×V),(kvs.any fun kv=>decide (kv.1=k))=(valV kvs k).isSome
 |[]=>rfl
 |p::r=>by
  rw[List.any_cons]
  by_cases e:p.1=k
  ·simp only[Kn e,decide_eq_true e,Bool.true_or,Option.isSome_some]
  ·rw[Ko e,decide_eq_false e,Bool.false_or];exact Fh k r
theorem Fi (kvs:List (κ×V))(k:κ)(v:V):(putK kvs k v).length<=kvs.length+1:=by
 unfold putK
 split
 ·rw[List.length_map];lia
 ·rw[List.length_append,List.length_cons,List.length_nil];lia
theorem WV {kvs:List (κ×V)}{k:κ}(v:V)(h:valV kvs k=none):putK kvs k v=kvs++[(k,v)]:=by
 unfold putK
 rw[Fh,h]
 exact if_neg (by decide)
theorem RelO.isSome_eq   (r:RelO o u):o.isSome=u.isSome:=by
 cases o with
 |none=>cases u with
  |none=>rfl
  |some _=>exact (show False from r).elim
 |some _=>cases u with
  |none=>exact (show False from r).elim
  |some _=>rfl
theorem RelO.getD     (r:RelO o u)(rd:RelV d d'):RelV (o.getD d) (u.getD d'):=by
 cases o with
 |none=>cases u with
  |none=>exact rd
  |some _=>exact (show False from r).elim
 |some _=>cases u with
  |none=>exact (show False from r).elim
  |some _=>exact r
theorem KV.val   (r:KV kvs vs)(k:κ):RelO (valV kvs k) (valueAt vs k):=by
 unfold KV at r
 induction r with
 |nil=>exact True.intro
 |@cons p q ps qs h t ih=>
  obtain⟨h1,h2⟩:=h
  by_cases e:p.1=k
  ·have e':q.1=k:=h1.symm.trans e
   have b:valueAt (q::qs) k=some q.2:=by simp[valueAt,List.find?_cons,e']
   rw[Kn e,b];exact h2
  ·have e':¬ q.1=k:=fun z=>e (h1.trans z)
   have b:valueAt (q::qs) k=valueAt qs k:=by simp[valueAt,List.find?_cons,e']
   rw[Ko e,b];exact ih
theorem KV.any   (r:KV kvs vs)(k:κ):(kvs.any fun kv=>decide (kv.1=k))=vs.any fun kv=>decide (kv.1=k):=by
 unfold KV at r
 induction r with
 |nil=>rfl
 |cons h t ih=>rw[List.any_cons,List.any_cons,ih,h.1]
theorem KV.repl   (r:KV kvs vs)(k:κ)   (ry:RelV y u):
  KV (kvs.map fun kv=>if kv.1=k then (kv.1,y) else kv) (vs.map fun kv=>if kv.1=k then (kv.1,u) else kv):=by
 unfold KV at r ⊢
 induction r with
 |nil=>exact .nil
 |@cons p q ps qs h t ih=>
  rw[List.map_cons,List.map_cons]
  refine .cons ?_ ih
  obtain⟨h1,h2⟩:=h
  by_cases e:p.1=k
  ·rw[if_pos e,if_pos (h1.symm.trans e)];exact⟨h1,ry⟩
  ·rw[if_neg e,if_neg (fun z=>e (h1.trans z))];exact⟨h1,h2⟩
theorem KV.put   (r:KV kvs vs)(k:κ)   (ry:RelV y u):KV (putK kvs k y) (stored vs k u):=by
 unfold putK stored
 rw[r.any k]
 by_cases e:(vs.any fun kv=>decide (kv.1=k))=true
 ·rw[if_pos e,if_pos e];exact r.repl k ry
 ·rw[if_neg e,if_neg e];exact Paired.snoc r ⟨rfl,ry⟩
theorem KV.keys {kvs:List (κ×V)}{vs:List (κ×Value)}(r:KV kvs vs):kvs.map (·.1)=vs.map (·.1):=by
 unfold KV at r
 induction r with
 |nil=>rfl
 |cons h t ih=>rw[List.map_cons,List.map_cons,ih,h.1]
theorem KV.length {kvs:List (κ×V)}{vs:List (κ×Value)}(r:KV kvs vs):kvs.length=vs.length:=Paired.length r
end
theorem QD     (r:RelV (kV k) u):(BM P w).is k u=true:=by
 cases k with
 |inl i=>obtain⟨t,e⟩:=(show ∃t,u=Value.int i t from r);subst e;exact QA P w i t
 |inr x=>obtain⟨t,e⟩:=(show ∃t,u=Value.str x t from r);subst e;exact QB P w x t
theorem O8 {P:Program}{w:World}:∀{ks:List Key} {us:List Value},Vals (ks.map kV) us->ItemsAre (BM P w) ks us
 |[],_,r=>by rw[List.map_nil]at r;cases r;exact .nil
 |k::ks,_,r=>by
  rw[List.map_cons]at r
  cases r with
  |cons h t=>exact .cons (QD h) (O8 t)
noncomputable abbrev KT (H:Hp):List (List Key×V)->List (List Key×Addr×Value)->Prop:=Paired fun p q=>p.1=q.1/\H q.2.1=some (.tup (p.1.map kV))/\RelV p.2 q.2.2
theorem KT.val    (r:KT H kvs xs)(k:List Key):RelO (valV kvs k) ((atKey xs k).map (·.2)):=by
 induction r with
 |nil=>exact True.intro
 |@cons p q ps qs h t ih=>
  obtain⟨h1,_,h2⟩:=h
  by_cases e:p.1=k
  ·have e':q.1=k:=h1.symm.trans e
   have b:atKey (q::qs) k=some q.2:=by simp[atKey,List.find?_cons,e']
   rw[Kn e,b];exact h2
  ·have e':¬ q.1=k:=fun z=>e (h1.trans z)
   have b:atKey (q::qs) k=atKey qs k:=by simp[atKey,List.find?_cons,e']
   rw[Ko e,b];exact ih
theorem KT.repl    (r:KT H kvs xs)(k:List Key)   (ry:RelV y u):
  KT H (kvs.map fun kv=>if kv.1=k then (kv.1,y) else kv) (xs.map (putAt k u)):=by
 induction r with
 |nil=>exact .nil
 |@cons p q ps qs h t ih=>
  rw[List.map_cons,List.map_cons]
  refine .cons ?_ ih
  obtain⟨h1,h2,h3⟩:=h
  unfold putAt
  by_cases e:p.1=k
  ·rw[if_pos e,if_pos (h1.symm.trans e)];exact⟨h1,h2,ry⟩
  ·rw[if_neg e,if_neg (fun z=>e (h1.trans z))];exact⟨h1,h2,h3⟩
theorem KT.put    (r:KT H kvs xs)(k:List Key)    (hb:H b=some (.tup (k.map kV)))(ry:RelV y u):
  KT H (putK kvs k y) (storedH xs k b u):=by
 have e:(kvs.any fun kv=>decide (kv.1=k))=(atKey xs k).isSome:=by
  rw[Fh,(r.val k).isSome_eq,Option.isSome_map]
 unfold putK storedH
 rw[e]
 by_cases q:(atKey xs k).isSome=true
 ·rw[if_pos q,if_pos q];exact r.repl k ry
 ·rw[if_neg q,if_neg q];exact Paired.snoc r ⟨rfl,hb,ry⟩
theorem KT.keeps    (r:KT H kvs xs)(ht:∀b ys,H b=some (.tup ys)->H' b=some (.tup ys)):KT H' kvs xs:=
 Paired.mapP r fun _ _ z=>⟨z.1,ht _ _ z.2.1,z.2.2⟩
section
variable {P:Program} {w:World} {H:Hp} {h:Heap} {a:Addr}
theorem ZD  (ok:HOk P w H h)(e:Rd H a u):Cz P w H h a u:=e.ok ok
theorem QE  (ok:HOk P w H h)(e:Rd H a (.dK kvs)):kvs.length<=sizeLine/\(a==sysModules)=false/\∃vs,KV kvs vs/\h.DictOf (BM P w) a vs:=
 show Cz P w H h a (.dK kvs) from ZD ok e
theorem WW  (ok:HOk P w H h)(e:H a=some (.dK kvs)):kvs.length<=sizeLine/\(a==sysModules)=false/\∃vs,KV kvs vs/\h.DictOf (BM P w) a vs:=QE ok (.inl e)
theorem O9  (ok:HOk P w H h)(e:H a=some (.tup (ks.map kV))):(tupleKind (BM P w)).is h ks a:=by
 obtain⟨_,its,r,o,h1,h2,n,h3⟩:=(show Cz P w H h a (.tup (ks.map kV)) from ok a _ e)
 exact⟨o,its.toArray,n,h1,h2,h3,by simpa using O8 r⟩
theorem S8  (ok:HOk P w H h)(e:Rd H a (.dT kvs)):kvs.length<=sizeLine/\(a==sysModules)=false /\
  ∃xs,KT H kvs xs/\h.DictOfH (tupleKind (BM P w)) a xs:=by
 obtain⟨z,y,xs,r,o,es,ep,h1,h2,h3,h4,h5⟩:=(show Cz P w H h a (.dT kvs) from ZD ok e)
 refine⟨z,y,xs,r,o,es,ep,h1,h2,h3,h4,fun x hx=>?_,h5⟩
 have all:∀{l:List (List Key×V)} {m:List (List Key×Addr×Value)},KT H l m->∀x∈m,(tupleKind (BM P w)).is h x.1 x.2.1:=by
  intro l m q
  induction q with
  |nil=>intro x hx;exact nomatch hx
  |@cons p q ps qs hq t ih=>
   intro x hx
   rcases List.mem_cons.mp hx with e|hx
   ·subst e
    exact O9 ok (by rw[<-hq.1];exact hq.2.1)
   ·exact ih x hx
 exact all r x hx
theorem Bi_  (ok:HOk P w H h)(e:H a=some (.dT kvs)):kvs.length<=sizeLine/\(a==sysModules)=false /\
  ∃xs,KT H kvs xs/\h.DictOfH (tupleKind (BM P w)) a xs:=S8 ok (.inl e)
end
noncomputable def DGet (H:Hp)(a:Addr)(y:V)(r:Option V):Prop:=
 (∃kvs k,Rd H a (.dK kvs)/\y=kV k/\r=valV kvs k) \/ ∃kvs k b,Rd H a (.dT kvs)/\y=.ref b/\H b=some (.tup (k.map kV))/\r=valV kvs k
noncomputable def DPut (H:Hp)(a:Addr)(y v:V)(H':Hp):Prop:=
 (∃kvs k,H a=some (.dK kvs)/\y=kV k/\kvs.length<sizeLine/\H'=upd H a (.dK (putK kvs k v))) \/
 ∃kvs k b,H a=some (.dT kvs)/\y=.ref b/\H b=some (.tup (k.map kV))/\kvs.length<sizeLine/\H'=upd H a (.dT (putK kvs k v))
theorem DGet.k {H:Hp}{a:Addr}{kvs:List (Key×V)}{k:Key}(e:H a=some (.dK kvs)):DGet H a (kV k) (valV kvs k):=.inl ⟨kvs,k,.inl e,rfl,rfl⟩
theorem DGet.t {H:Hp}{a b:Addr}{kvs:List (List Key×V)}{k:List Key}(e:H a=some (.dT kvs))(eb:H b=some (.tup (k.map kV))):DGet H a (.ref b) (valV kvs k):=.inr ⟨kvs,k,b,.inl e,rfl,eb,rfl⟩
theorem DPut.k {H:Hp}{a:Addr}{kvs:List (Key×V)}{k:Key}{v:V}(e:H a=some (.dK kvs))(hl:kvs.length<sizeLine):DPut H a (kV k) v (upd H a (.dK (putK kvs k v))):=.inl ⟨kvs,k,e,rfl,hl,rfl⟩
theorem DPut.t {H:Hp}{a b:Addr}{kvs:List (List Key×V)}{k:List Key}{v:V}(e:H a=some (.dT kvs))(eb:H b=some (.tup (k.map kV)))(hl:kvs.length<sizeLine):
  DPut H a (.ref b) v (upd H a (.dT (putK kvs k v))):=.inr ⟨kvs,k,b,e,rfl,eb,hl,rfl⟩
section
variable {X:Cx} {af:List (Addr×Obj)} {σ:St} {H:Hp} {s:Shared} {a:Addr} {y v:V} {u r:Value} {o:Option V} {A:Around} {E:Value->Shared->Prop}
theorem Inv.big (I:Inv X af σ H s):sysModules<s.heap.objs.size:=by
 have h:mainGlobals<s.heap.objs.size:=(I.mod.glob.keeps I.bk).lt
 exact Nat.lt_trans (by decide) h
theorem U4  (hu:A.units+1<cLine)(I:Inv X af σ H s)(g:DGet H a y (some v))(ry:RelV y u)(h:∀w' s',Inv X af σ H s'->RelV v w'->Q w' s'):
  wpAny (model X.prog X.w) A (getItem (.ref a) u) Q E s:=by
 rcases g with ⟨kvs,k,e,ey,l⟩|⟨kvs,k,b,e,ey,eb,l⟩
 ·subst ey
  obtain⟨z,hd,vs,aX,dd⟩:=QE I.hok e
  obtain⟨w',hw,dO⟩:=RelO.some_of (v:=v) (o:=valueAt vs k) (by rw[l];exact aX.val k)
  exact wpAny_getItem_of (QD ry) dd.mapOf hw (h w' _ (I.tok _) dO)
 ·subst ey
  cases (show u=Value.ref b from ry)
  obtain⟨z,hd,xs,aX,dd⟩:=S8 I.hok e
  obtain⟨w',hw,dO⟩:=RelO.some_of (v:=v) (o:=(atKey xs k).map (·.2)) (by rw[l];exact aX.val k)
  obtain⟨p,hp,aS⟩:=Option.map_eq_some_iff.mp hw
  refine wpAny_getItem_heap (tupleKind_room_in1 hu) (O9 I.hok eb) dd hp ?_
  rw[aS]
  exact h w' _ (I.tok _) dO
theorem ZE  (hu:A.units+1<cLine)(I:Inv X af σ H s)(g:DGet H a y o)(ry:RelV y u)(h:∀s',Inv X af σ H s'->Q (.bool (!o.isSome)) s'):
  wpAny (model X.prog X.w) A (compareOp .NotIn u (.ref a)) Q E s:=by
 rcases g with ⟨kvs,k,e,ey,l⟩|⟨kvs,k,b,e,ey,eb,l⟩
 ·subst ey
  obtain⟨z,hd,vs,aX,dd⟩:=QE I.hok e
  refine wpAny_notIn_of (QD ry) hd dd.mapOf ?_
  rw[<-(aX.val k).isSome_eq,<-l]
  exact h _ (I.tok _)
 ·subst ey
  cases (show u=Value.ref b from ry)
  obtain⟨z,hd,xs,aX,dd⟩:=S8 I.hok e
  refine wpAny_notIn_heap (tupleKind_room_in1 hu) (O9 I.hok eb) hd dd ?_
  have q:=(aX.val k).isSome_eq
  rw[Option.isSome_map]at q
  rw[<-q,<-l]
  exact h _ (I.tok _)
theorem Np    (I:Inv X af σ H s)(mu:Mut (H a))(hs:Heap.SameBut a s.heap h')(he:∃q,h'.get? a=some q)(new:Cz X.prog X.w (upd H a ob) h' a ob):
  Inv X af σ (upd H a ob) {s with heap:=h',toks:=t' }:=
 I.write (x:=a) (e:=a) mu (.inl rfl) (fun b q hb z=>(hs.2 b hb).trans z) he new
theorem U5       (z:kvs.length<=sizeLine)(hd:(a==sysModules)=false)(aX:KV kvs vs)(dd:h'.DictOf (BM P w) a vs):
  Cz P w H' h' a (.dK kvs):=⟨z,hd,vs,aX,dd⟩
theorem U6   (hu:A.units+1<cLine)(I:Inv X af σ H s)(g:DPut H a y v H')(ry:RelV y u)(rv:RelV v r)(h:∀s',Inv X af σ H' s'->Q () s'):
  wpAny (model X.prog X.w) A (setItem (.ref a) u r) Q E s:=by
 rcases g with ⟨kvs,k,e,ey,l,eH⟩|⟨kvs,k,b,e,ey,eb,l,eH⟩
 ·subst ey eH
  obtain⟨z,hd,vs,aX,dd⟩:=WW I.hok e
  have hz:vs.length<=sizeLine:=by rw[<-aX.length];exact z
  have hl:(putK kvs k v).length<=sizeLine:=by have:=Fi kvs k v;lia
  refine wpAny_setItem_pairs (hsz:=hz) (QD ry) dd fun h' fN hs=>h _ ?_
  have he:∃q,h'.get? a=some q:=let ⟨q,_,_,hq,_⟩:=fN;⟨q,hq⟩
  exact Np I (by rw[e];exact True.intro) hs he (U5 hl hd (aX.put k rv) fN)
 ·subst ey eH
  cases (show u=Value.ref b from ry)
  obtain⟨z,hd,xs,aX,dd⟩:=Bi_ I.hok e
  have hz:xs.length<=sizeLine:=by rw[<-Paired.length aX];exact z
  have hl:(putK kvs k v).length<=sizeLine:=by have:=Fi kvs k v;lia
  refine wpAny_setItem_heap (hsz:=hz) (tupleKind_room_in1 hu) (O9 I.hok eb) dd fun h' fN hs=>h _ ?_
  obtain⟨q,es,ep,hq,h2,h3,h4,_,h5⟩:=fN
  refine Np I (by rw[e];exact True.intro) hs ⟨q,hq⟩ ⟨hl,hd,_,(aX.put k eb rv).keeps fun c ys ec=>?_,q,es,ep,hq,h2,h3,h4,h5⟩
  rw[Ah (AG_ ec e (fun z=>nomatch z))]
  exact ec
end
section
variable {X:Cx} {af:List (Addr×Obj)} {σ:St} {H:Hp} {s:Shared} {a:Addr} {kvs:List (Key×V)} {k:Key} {u:Value} {A:Around} {E:Value->Shared->Prop}
theorem CE_  (I:Inv X af σ H s)(e:Rd H a (.dK kvs))(h:∀t s',Inv X af σ H s'->Q (.int kvs.length t) s'):wpAny (model X.prog X.w) A (call (.builtin "len") [.ref a]) Q E s:=by
 obtain⟨z,hd,vs,aX,dd⟩:=QE I.hok e
 refine call_len_dict hd dd (by rw[<-aX.length];rw[sizeLine_eq]at z;lia) ?_
 rw[<-aX.length]
 exact h _ _ (I.tok _)
end
noncomputable def NoSl (i:Expr):Prop:=∀ov iv,subscripted i false ov iv=operate [ov,iv] (getItem ov iv)
theorem ZF         {T id:String}
  (hl:typeLookup (.type T) "__getitem__"=pure (some (.builtin id))) (hs:NoSl aV)
  (h:wpAny (model prog w) A (eval value env) (fun o s₁=>wpAny (model prog w) A (eval aV env) (fun i a7=>a7.TypeIs o T/\wpAny (model prog w) A (getItem o i) Q E a7) E s₁) E s):
  wpAny (model prog w) A (eval (.Subscript value aV pos) env) Q E s:=by
 refine Subscript_ (wpAny_mono h (fun o s₁ h₁=>wpAny_mono h₁ (fun i a7 cR=>?_) fun _ _ x=>x) fun _ _ x=>x)
 obtain⟨hT,cR⟩:=cR
 unfold subscriptTail
 refine wpAny_bind ?_
 rw[getitemInPython_of_ne hT.not_modules]
 refine wpAny_bind (wpAny_specialOf hT hl ?_)
 have fin:wpAny (model prog w) A (subscripted aV false o i) (fun r bL=>wpAny (model prog w) A (letTemporaryGo value o r >>= fun _=>pure r) Q E bL) E a7:=by
  rw[hs o i]
  exact wpAny_operating (wpAny_mono cR (fun r bL h₃=>wpAny_bind (wpAny_letTemporaryGo (wpAny_pure h₃))) fun _ _ x=>x)
 first
  | exact wpAny_pure (wpAny_bind fin)
  | exact wpAny_bind (wpAny_pure (wpAny_bind fin))
  | exact wpAny_bind fin
theorem QF         (I:Inv X af σ H s)(g:DGet H a y o):s.TypeIs (.ref a) "dict" := by
 rcases g with ⟨kvs,k,e,_,_⟩|⟨kvs,k,b,e,_,_,_⟩
 ·obtain⟨_,_,vs,_,dd⟩:=QE I.hok e
  exact dd.typeIs
 ·obtain⟨_,_,xs,_,dd⟩:=S8 I.hok e
  exact dd.typeIs
noncomputable def Bj_ (td ty:TE):TE:=fun σ H Q=>td σ H fun x H1=>ty σ H1 fun y H2=>∃a v,x=.ref a/\DGet H2 a y (some v)/\Q v H2
noncomputable def U7 (ty td:TE):TE:=fun σ H Q=>ty σ H fun y H1=>td σ H1 fun x H2=>∃a o,x=.ref a/\DGet H2 a y o/\Q (.bl (!o.isSome)) H2
noncomputable def Bk_ (td ty tv:TE):TS:=fun D σ H=>tv σ H fun v H1=>td σ H1 fun x H2=>ty σ H2 fun y H3=>∃a H4,x=.ref a/\DPut H3 a y v H4/\D.nx σ H4
section
variable {X:Cx} {o i e value:Expr} {pos bK dQ:Pos} {td ty tv:TE}
theorem U8 (hu:X.A.units+1<cLine)(ho:PE X o td)(hi:PE X i ty)(hs:NoSl i):PE X (.Subscript o i pos) (Bj_ td ty):=by
 intro af s σ H Q I h
 refine ZF PySem.F.slot_dict_getitem.lookup hs (thn (ho af s σ H _ I h) fun u s1 ⟨x,H1,I1,rx,q1⟩=>thn (hi af s1 σ H1 _ I1 q1) fun iv s2 ⟨y,H2,I2,ry,a,v,ex,g,q2⟩=>?_)
 subst ex
 obtain rfl:u=Value.ref a:=rx
 exact⟨QF I2 g,U4 hu I2 g ry fun w' s3 I3 dO=>⟨v,H2,I3,dO,q2⟩⟩
theorem Pb (hu:X.A.units+1<cLine)(hi:PE X i ty)(ho:PE X o td):PC X .NotIn i o (U7 ty td):=by
 intro af s σ H Q I h
 refine thn (hi af s σ H _ I h) fun iv s1 ⟨y,H1,I1,ry,q1⟩=>thn (ho af s1 σ H1 _ I1 q1) fun u s2 ⟨x,H2,I2,rx,a,ov,ex,g,q2⟩=>?_
 subst ex
 obtain rfl:u=Value.ref a:=rx
 exact ZE hu I2 g ry fun s3 I3=>⟨.bl (!ov.isSome),H2,I3,rfl,q2⟩
theorem QG (hu:X.A.units+1<cLine)(ho:PE X o td)(hi:PE X i ty)(hv:PE X value tv)(hs:swapsWith value (some (.Subscript o i bK)) pos.line X.env=pure false):
  PS X (.Assign [.Subscript o i bK] value pos) (Bk_ td ty tv):=by
 intro af s σ H D I h
 refine wpAny_Assign_Subscript (thn (hv af s σ H _ I h) fun r s1 ⟨v,H1,I1,rv,q1⟩=>thn (ho af s1 σ H1 _ I1 q1) fun u s2 ⟨x,H2,I2,rx,q2⟩=>thn (hi af s2 σ H2 _ I2 q2) fun iv s3 ⟨y,H3,I3,ry,a,H4,ex,g,q3⟩=>?_) hs
 subst ex
 obtain rfl:u=Value.ref a:=rx
 exact U6 hu I3 g ry rv fun s4 I4=>⟨σ,H4,I4,q3⟩
end
theorem R5    (h:Heap)(hb:sysModules<h.objs.size):Cz P w H (h.push {cls:=.type "dict",data:=.dict #[]}) h.objs.size (.dK []):=
 ⟨Nat.zero_le _,beq_eq_false_iff_ne.mpr (Ne.symm (Nat.ne_of_lt hb)),[],.nil,Heap.DictOf.new h⟩
theorem WX    (h:Heap)(hb:sysModules<h.objs.size):Cz P w H (h.push {cls:=.type "dict",data:=.dict #[]}) h.objs.size (.dT []):=
 ⟨Nat.zero_le _,beq_eq_false_iff_ne.mpr (Ne.symm (Nat.ne_of_lt hb)),[],.nil,_,#[],0,Heap.get?_push_size _ rfl,⟨rfl,rfl,rfl⟩,rfl,rfl,List.nodup_nil⟩
noncomputable def U9:TE:=fun _ H Q=>∀p,H p=none->Q (.ref p) (upd H p (.dK []))
noncomputable def Va:TE:=fun _ H Q=>∀p,H p=none->Q (.ref p) (upd H p (.dT []))
section
variable {X:Cx} {pos:Pos}
theorem R6:PE X (.Dict [] [] pos) U9:=fun af s σ H Q I h=>
 wpAny_Dict_empty ⟨.ref s.heap.objs.size,_,I.laid (a:=s.heap.objs.size) (o:=.dK []) (t':=s.toks) (fun _ _ q=>Heap.get?_push_of_some _ q) (Nat.le_refl _) (R5 s.heap I.big),rfl,h _ (I.hok.fresh (Nat.le_refl _))⟩
theorem R7:PE X (.Dict [] [] pos) Va:=fun af s σ H Q I h=>
 wpAny_Dict_empty ⟨.ref s.heap.objs.size,_,I.laid (a:=s.heap.objs.size) (o:=.dT []) (t':=s.toks) (fun _ _ q=>Heap.get?_push_of_some _ q) (Nat.le_refl _) (WX s.heap I.big),rfl,h _ (I.hok.fresh (Nat.le_refl _))⟩
end
noncomputable def KC:List (TE×TE)->St->Hp->(List (V×V)->Hp->Prop)->Prop
 |[],_,H,Q=>Q [] H
 | (tk,tv)::r,σ,H,Q=>tk σ H fun x H1=>tv σ H1 fun y H2=>KC r σ H2 fun ps H3=>Q ((x,y)::ps) H3
noncomputable abbrev VV:List (V×V)->List (Value×Value)->Prop:=Paired fun p q=>RelV p.1 q.1/\RelV p.2 q.2
noncomputable def PPs (X:Cx)(pos:Pos)(keys:List (Option Expr))(bT:List Expr)(fY:List (TE×TE)):Prop:=
 ∀(af:List (Addr×Obj)) (s:Shared) (σ:St) (H:Hp) (Q:List (V×V)->Hp->Prop),Inv X af σ H s->KC fY σ H Q ->
  wpAny (model X.prog X.w) X.A (evalPairs (pairTrees keys bT X.env pos)) (fun vs s'=>∃ps H',Inv X af σ H' s'/\VV ps vs/\Q ps H') X.xe s
theorem ZG   : PPs X pos [] [] []:=fun af s σ H Q I h=>pairTrees_nil_walk ⟨[],H,I,.nil,h⟩
theorem WY        (hk:PE X k tk)(hv:PE X v tv)(hr:PPs X pos ks vs fY):
  PPs X pos (some k::ks) (v::vs) ((tk,tv)::fY):=fun af s σ H Q I h=>
 pairTrees_cons_walk (thn (hk af s σ H _ I h) fun u s1 ⟨x,H1,I1,rx,q1⟩=>thn (hv af s1 σ H1 _ I1 q1) fun w2 s2 ⟨y,H2,I2,ry,q2⟩ =>
  thn (hr af s2 σ H2 _ I2 q2) fun ws s3 ⟨ps,H3,I3,aX,q3⟩=>⟨(x,y)::ps,H3,I3,.cons ⟨rx,ry⟩ aX,q3⟩)
noncomputable def Jw (kvs more:List (Key×V)):List (Key×V):=more.foldl (fun ai kv=>putK ai kv.1 kv.2) kvs
theorem KV.merge:∀{more:List (Key×V)} {rs:List (Key×Value)} {kvs:List (Key×V)} {vs:List (Key×Value)},KV more rs->KV kvs vs->KV (Jw kvs more) (merged vs rs):=by
 intro more rs kvs vs r
 unfold KV at r
 induction r generalizing kvs vs with
 |nil=>intro q;exact q
 |@cons p q ps qs h t ih=>
  intro r0
  have e:KV (putK kvs p.1 p.2) (stored vs q.1 q.2):=by
   have:=r0.put p.1 h.2
   rw[<-h.1];exact this
  exact ih e
theorem HV:∀(more kvs:List (Key×V)),(Jw kvs more).length<=kvs.length+more.length
 |[],kvs=>by show kvs.length<=kvs.length+0;lia
 |p::r,kvs=>by
  have h1:=HV r (putK kvs p.1 p.2)
  have h2:=Fi kvs p.1 p.2
  show (Jw (putK kvs p.1 p.2) r).length<=_
  rw[List.length_cons];lia
theorem ML {P:Program}{w:World}:∀{kvs:List (Key×V)} {ws:List (Value×Value)},VV (kvs.map fun kv=>(kV kv.1,kv.2)) ws->∃rs,Carries (BM P w) ws rs/\KV kvs rs
 |[],_,r=>by rw[List.map_nil]at r;cases r;exact⟨[],True.intro,.nil⟩
 |p::kvs,_,r=>by
  rw[List.map_cons]at r
  cases r with
  |@cons a b as bs h t=>
   obtain⟨rs,c,q⟩:=ML (P:=P) (w:=w) t
   obtain⟨b1,b2⟩:=b
   exact⟨(p.1,b2)::rs,⟨QD h.1,rfl,c⟩,.cons ⟨rfl,h.2⟩ q⟩
noncomputable def ZH (fY:List (TE×TE)):TE:=fun σ H Q=>∀p,H p=none->KC fY σ (upd H p (.dK [])) fun ps H2=>H2 p=some (.dK [])/\∃kvs:List (Key×V),ps=kvs.map (fun kv=>(kV kv.1,kv.2))/\kvs.length<=15/\Q (.ref p) (upd H2 p (.dK (Jw [] kvs)))
theorem ZI      (h:PPs X pos keys bT fY)(aL:keys.all (·.isSome)=true)(hl:keys.length=bT.length)(h0:keys ≠ [])
  (mM:keys.length<=15):PE X (.Dict keys bT pos) (ZH fY):=by
 intro af s σ H Q I q
 have hn:=I.hok.fresh (Nat.le_refl s.heap.objs.size)
 have I1:=I.laid (a:=s.heap.objs.size) (o:=.dK []) (h':=s.heap.push {cls:=.type "dict",data:=.dict #[]}) (t':=s.toks) (fun _ _ q=>Heap.get?_push_of_some _ q) (Nat.le_refl _) (R5 s.heap I.big)
 refine wpAny_Dict_walk (knd:=BM X.prog X.w) aL hl h0 mM (thn (h af _ σ _ _ I1 (q _ hn)) fun ws s2 ⟨ps,H2,I2,aX,e,kvs,ep,lk,q2⟩=>?_)
 subst ep
 obtain⟨rs,c,rk⟩:=ML (P:=X.prog) (w:=X.w) aX
 obtain⟨z,hd,vs0,r0,dd⟩:=WW I2.hok e
 cases r0
 refine⟨rs,c,dd,fun h' fN hs=>⟨.ref s.heap.objs.size,_,?_,rfl,q2⟩⟩
 have hz:(Jw [] kvs).length<=sizeLine:=by
  have h1:=HV kvs []
  rw[List.length_nil]at h1
  rw[sizeLine_eq];lia
 have he:∃q,h'.get? s.heap.objs.size=some q:=let ⟨q,_,_,hq,_⟩:=fN;⟨q,hq⟩
 exact Np I2 (by rw[e];exact True.intro) hs he (U5 hz hd (rk.merge .nil) fN)
structure M1 (X:Cx)(o:Expr)(m:Str)(aW:Pos)(e:Expr)(aC:Pos):Prop where
 base:attributeBase o m X.env (eval o X.env)=eval o X.env
 few:((backTo aC (starEach [e] X.env)).all (fun x => !x.1)&&(backToKw aC (keywordEach [] X.env)).all (fun x=>x.1.isSome)
  && decide (([e]:List Expr).length+([]:List Keyword).length+(if ([]:List Keyword).isEmpty then 0 else 1)<30))=true
 line:(aW.endLine==aC.line)=true
 trees:backTo aC (starEach [e] X.env)=[(false,eval e X.env)]
structure M2 (X:Cx)(o:Expr)(m:Str)(aW:Pos)(e f:Expr)(aC:Pos):Prop where
 base:attributeBase o m X.env (eval o X.env)=eval o X.env
 few:((backTo aC (starEach [e,f] X.env)).all (fun x => !x.1)&&(backToKw aC (keywordEach [] X.env)).all (fun x=>x.1.isSome)
  && decide (([e,f]:List Expr).length+([]:List Keyword).length+(if ([]:List Keyword).isEmpty then 0 else 1)<30))=true
 line:(aW.endLine==aC.line)=true
 trees:backTo aC (starEach [e,f] X.env)=[(false,eval e X.env),(false,eval f X.env)]
noncomputable def IsD (H:Hp)(a:Addr):Prop:=(∃kvs,Rd H a (.dK kvs)) \/ ∃kvs,Rd H a (.dT kvs)
theorem Yo       (I:Inv X af σ H s)(d:IsD H a):
  s.TypeIs (.ref a) "dict" /\ (∀b,Value.ref a=.ref b->∃ob,s.heap.get? b=some ob/\ob.dict=none)/\(a==sysModules)=false:=by
 rcases d with ⟨kvs,e⟩|⟨kvs,e⟩
 ·obtain⟨_,hd,vs,_,dd⟩:=QE I.hok e
  refine⟨dd.typeIs,fun b q=>?_,hd⟩
  cases q
  obtain⟨ob,_,_,h1,h2,_⟩:=dd
  exact⟨ob,h1,h2.2.1⟩
 ·obtain⟨_,hd,xs,_,dd⟩:=S8 I.hok e
  refine⟨dd.typeIs,fun b q=>?_,hd⟩
  cases q
  obtain⟨ob,_,_,h1,h2,_⟩:=dd
  exact⟨ob,h1,h2.2.1⟩
section
variable {X:Cx} {af:List (Addr×Obj)} {σ:St} {H:Hp} {s:Shared} {a:Addr} {y d:V} {u r:Value} {o:Option V} {A:Around} {E:Value->Shared->Prop}
theorem Bl_  (hu:A.units+1<cLine)(I:Inv X af σ H s)(g:DGet H a y o)(ry:RelV y u)(h:∀w' s',Inv X af σ H s'->RelV (o.getD .non) w'->Q w' s'):
  wpAny (model X.prog X.w) A (call (.builtin "dict.get") [.ref a,u]) Q E s:=by
 rcases g with ⟨kvs,k,e,ey,l⟩|⟨kvs,k,b,e,ey,eb,l⟩
 ·subst ey
  obtain⟨z,hd,vs,aX,dd⟩:=QE I.hok e
  refine call_meetsIn PySem.F.slot_dict_get dd.typeIs PySem.F.entry_dict_get (PySem.F.args_dict_get_2 _ _) (meets_dict_get (BM X.prog X.w) a (QD ry) hd) ⟨_,dd.mapOf,h _ _ (I.tok _) ?_⟩
  rw[l]
  exact (aX.val k).getD rfl
 ·subst ey
  cases (show u=Value.ref b from ry)
  obtain⟨z,hd,xs,aX,dd⟩:=S8 I.hok e
  refine call_meetsIn PySem.F.slot_dict_get dd.typeIs PySem.F.entry_dict_get (PySem.F.args_dict_get_2 _ _) (meetsH_dict_get (tupleKind (BM X.prog X.w)) a b hd) ⟨tupleKind_room_in1 hu,k,xs,O9 I.hok eb,dd,h _ _ (I.tok _) ?_⟩
  rw[l]
  exact (aX.val k).getD rfl
end
noncomputable def Vb (td ty:TE):TE:=fun σ H Q=>td σ H fun x H1=>∃a,x=.ref a/\IsD H1 a/\ty σ H1 fun y H2=>∃o,DGet H2 a y o/\Q (o.getD .non) H2
section
variable {X:Cx} {o e f:Expr} {aW aC:Pos} {td ty tx:TE}
theorem WZ (hu:X.A.units+1<cLine)(ho:PE X o td)(he:PE X e ty)(m:M1 X o "get" aW e aC):PE X (.Call (.Attribute o "get" aW) [e] [] aC) (Vb td ty):=by
 intro af s σ H Q I h
 refine wpAny_Call_method m.base m.few m.line PySem.F.plainAttrs_dict PySem.F.slot_dict_get PySem.F.type_dict_get (thn (ho af s σ H _ I h) fun u s1 ⟨x,H1,I1,rx,a,ex,d,q1⟩=>?_)
 subst ex
 obtain rfl:u=Value.ref a:=rx
 obtain⟨t1,t2,_⟩:=Yo I1 d
 refine⟨t1,t2,?_⟩
 rw[m.trees]
 refine Calls.callWith_builtin rfl (Calls.evalArgs_plain (Calls.spliced_cons (thn (he af s1 σ H1 _ I1 q1) fun iv s2 ⟨y,H2,I2,ry,ov,g,q2⟩=>Calls.spliced_nil ?_)))
 exact Bl_ hu I2 g ry fun w' s3 I3 dO=>⟨_,H2,I3,dO,q2⟩
end
end L2
namespace L2
open PySem PySem.Spec PyProof.Rows
noncomputable def clOf (env:Env):List (Str×NameKind)->List (Str×Addr)->List (Str×Addr)
 |[],ai=>ai
 | (n,k)::r,ai=>if (k == .free)=true then clOf env r ((n,(env.cells.lookup n).getD 0)::ai) else clOf env r ai
theorem MM   (h:∀p∈scope.names,p.2=.free->∃c,env.cells.lookup p.1=some c):closureFor scope env=pure (clOf env scope.names []):=by
 have go:∀(l:List (Str×NameKind)) (ai:List (Str×Addr)),(∀p∈l,p.2=.free->∃c,env.cells.lookup p.1=some c) ->
   (forIn l ai fun (x:Str×NameKind) (cs:List (Str×Addr))=>(if (x.2 == .free)=true then do let c <- cellOf env x.1;pure (ForInStep.yield ((x.1,c)::cs)) else pure (ForInStep.yield cs):Sem (ForInStep (List (Str×Addr)))))=(pure (clOf env l ai):Sem (List (Str×Addr))):=by
  intro l
  induction l with
  |nil=>intro ai _;rfl
  |cons p r ih=>
   intro ai hl
   obtain⟨n,k⟩:=p
   rw[List.forIn_cons]
   by_cases hk:(k == .free)=true
   ·obtain⟨c,hc⟩:=hl (n,k) List.mem_cons_self (by simpa using hk)
    have e1:cellOf env n=pure c:=by unfold cellOf;rw[hc]
    have mO:=ih ((n,c)::ai) fun q hq=>hl q (List.mem_cons_of_mem _ hq)
    show ((if (k == .free)=true then do let c <- cellOf env n;pure (ForInStep.yield ((n,c)::ai)) else pure (ForInStep.yield ai):Sem _) >>= _)=_
    rw[if_pos hk,e1]
    show (forIn r ((n,c)::ai) _:Sem _)=_
    rw[clOf,if_pos hk,hc]
    exact mO
   ·have mO:=ih ai fun q hq=>hl q (List.mem_cons_of_mem _ hq)
    show ((if (k == .free)=true then do let c <- cellOf env n;pure (ForInStep.yield ((n,c)::ai)) else pure (ForInStep.yield ai):Sem _) >>= _)=_
    rw[if_neg hk]
    show (forIn r ai _:Sem _)=_
    rw[clOf,if_neg hk]
    exact mO
 have e:=go scope.names [] h
 unfold closureFor
 show (forIn scope.names [] _ >>= fun cs=>pure cs:Sem _)=_
 have e2:(forIn scope.names [] (fun (x:Str×NameKind) (r:List (Str×Addr))=>(match x with
   | (name,kind)=>if (kind == .free)=true then do let c <- cellOf env name;pure (ForInStep.yield ((name,c)::r)) else do pure PUnit.unit;pure (ForInStep.yield r):Sem (ForInStep (List (Str×Addr))))))=(pure (clOf env scope.names []):Sem (List (Str×Addr))):=e
 exact congrArg (fun z=>z >>= fun cs=>pure cs) e2
theorem Nq {env:Env}:∀(l:List (Str×NameKind)) (ai:List (Str×Addr)),(∀p∈l,p.2=.free->∃c,env.cells.lookup p.1=some c)->(∀q∈ai,env.cells.lookup q.1=some q.2)->∀q∈clOf env l ai,env.cells.lookup q.1=some q.2
 |[],_,_,ha,q,hq=>ha q hq
 | (n,k)::r,ai,hl,ha,q,hq=>by
  unfold clOf at hq
  by_cases hk:(k == .free)=true
  ·rw[if_pos hk]at hq
   obtain⟨c,hc⟩:=hl (n,k) List.mem_cons_self (by simpa using hk)
   refine Nq r _ (fun p hp=>hl p (List.mem_cons_of_mem _ hp)) (fun p hp=>?_) q hq
   rcases List.mem_cons.mp hp with rfl|hp
   ·show env.cells.lookup n=some ((env.cells.lookup n).getD 0)
    rw[hc];rfl
   ·exact ha p hp
  ·rw[if_neg hk]at hq
   exact Nq r _ (fun p hp=>hl p (List.mem_cons_of_mem _ hp)) ha q hq
theorem Kp {env:Env}:∀(l:List (Str×NameKind)) (ai:List (Str×Addr)) (x:Str),((x,NameKind.free)∈l \/ ∃c,(x,c)∈ai)->∃c,(x,c)∈clOf env l ai
 |[],_,_,h=>by
  rcases h with h|h
  ·cases h
  ·exact h
 | (n,k)::r,ai,x,h=>by
  unfold clOf
  by_cases hk:(k == .free)=true
  ·rw[if_pos hk]
   refine Kp r _ x ?_
   rcases h with h|⟨c,h⟩
   ·rcases List.mem_cons.mp h with h|h
    ·cases h
     exact .inr ⟨_,List.mem_cons_self⟩
    ·exact .inl h
   ·exact .inr ⟨c,List.mem_cons_of_mem _ h⟩
  ·rw[if_neg hk]
   refine Kp r _ x ?_
   rcases h with h|h
   ·rcases List.mem_cons.mp h with h|h
    ·cases h
     exact absurd rfl hk
    ·exact .inl h
   ·exact .inr h
theorem Dc {β:Type}:∀{l:List (Str×β)} {x:Str} {c:β},(x,c)∈l->∃c',l.lookup x=some c'
 |[],_,_,h=>by cases h
 | (n,d)::r,x,c,h=>by
  by_cases hx:(x==n)=true
  ·exact⟨d,by rw[List.lookup_cons,hx]⟩
  ·rcases List.mem_cons.mp h with h|h
   ·cases h;exact absurd (beq_self_eq_true _) hx
   ·obtain⟨c',e⟩:=Dc h
    exact⟨c',by rw[List.lookup_cons];simp only[Bool.not_eq_true]at hx;rw[hx];exact e⟩
noncomputable def relF (env:Env):Str×NameKind->Str×NameKind:=fun (n,k)=>if (k==NameKind.free&&env.scope.kind == .function&&env.kindOf n==some .cell) then (n,NameKind.cell) else (n,k)
theorem Nr    (h:(k==NameKind.free&&env.scope.kind == .function&&env.kindOf n==some .cell)=true):relF env (n,k)=(n,.cell):=if_pos h
theorem QH    (h:¬ (k==NameKind.free&&env.scope.kind == .function&&env.kindOf n==some .cell)=true):relF env (n,k)=(n,k):=if_neg h
theorem Ge {env:Env}:∀{names:List (Str×NameKind)} {x:Str} {k:NameKind},(∀y∈names,y.2 ≠ .cell) ->
  (names.map (relF env)).lookup x=some k->(k=.cell\/k=.free)->(x,NameKind.free)∈names
 |[],_,_,_,h,_=>by simp at h
 | (n,k')::r,x,k,hc,h,hk=>by
  have ih := @Ge env r x k (fun y hy=>hc y (List.mem_cons_of_mem _ hy))
  rw[List.map_cons]at h
  by_cases hb:(k'==NameKind.free&&env.scope.kind == .function&&env.kindOf n==some .cell)=true
  ·rw[Nr hb,List.lookup_cons]at h
   cases hx:x==n with
   |true=>
    have e:x=n:=by simpa using hx
    subst e
    have e2:k'=.free:=by
     simp only[Bool.and_eq_true]at hb
     simpa using hb.1.1
    subst e2
    exact List.mem_cons_self
   |false=>
    rw[hx]at h
    exact List.mem_cons_of_mem _ (ih h hk)
  ·rw[QH hb,List.lookup_cons]at h
   cases hx:x==n with
   |true=>
    rw[hx]at h
    have e:x=n:=by simpa using hx
    subst e
    have e2:k'=k:=Option.some.inj h
    subst e2
    rcases hk with rfl|rfl
    ·exact absurd rfl (hc _ List.mem_cons_self)
    ·exact List.mem_cons_self
   |false=>
    rw[hx]at h
    exact List.mem_cons_of_mem _ (ih h hk)
theorem Jx {env:Env}:∀{names:List (Str×NameKind)} {x:Str},names.lookup x=some .free ->
  ∃k,(k=NameKind.cell\/k=NameKind.free)/\(names.map (relF env)).lookup x=some k
 |[],_,h=>by simp at h
 | (n,k')::r,x,h=>by
  have ih := @Jx env r x
  rw[List.lookup_cons]at h
  rw[List.map_cons]
  cases hx:x==n with
  |true=>
   rw[hx]at h
   have e2:k'=.free:=Option.some.inj h
   subst e2
   by_cases hb:((NameKind.free:NameKind)==NameKind.free&&env.scope.kind == .function&&env.kindOf n==some .cell)=true
   ·exact⟨.cell,.inl rfl,by rw[Nr hb,List.lookup_cons,hx]⟩
   ·exact⟨.free,.inr rfl,by rw[QH hb,List.lookup_cons,hx]⟩
  |false=>
   rw[hx]at h
   obtain⟨k,hk,e⟩:=ih h
   refine⟨k,hk,?_⟩
   by_cases hb:(k'==NameKind.free&&env.scope.kind == .function&&env.kindOf n==some .cell)=true
   ·rw[Nr hb,List.lookup_cons,hx];exact e
   ·rw[QH hb,List.lookup_cons,hx];exact e
end L2
namespace L2
open PySem PySem.Spec PyProof.Rows
section
variable {prog:Program} {w:World} {A:Around} {R:Result->Shared->Prop} {s:Shared}
noncomputable abbrev cpW (prog:Program)(w:World)(A:Around)(R:Result->Shared->Prop)(env:Env){α:Type}(m:Sem α)(Q:α->Shared->Prop):Shared->Prop:=wpAny (model prog w) A m Q (notedBy (model prog w) A env fun e t=>R (.error e) t)
theorem Pd {ez bz iter:Expr}    {it ai:Value}  (I:Nat->Shared->Prop)
  (turn:∀n s,I n s->cpW prog w A R env (pyNext it) (fun r s=>match r with
   |none=>R (.ok .next) s
   |some v=>cpW prog w A R env (letOwnedTupleGo bz it v) (fun _=>cpW prog w A R env (assign bz env v) fun _=>cpW prog w A R env (forIn dR true fun c r=>if r=true then do let ok <- isTrue c env (eval c env);pure (ForInStep.yield ok) else pure (ForInStep.yield r)) fun ok s=>
     if ok=true then cpW prog w A R env (eval ez env) (fun x=>cpW prog w A R env (call (.builtin "list.append") [ai,x]) fun _ t=>∃m,m<n/\I m t) s else ∃m,m<n/\I m s) s) s)
  (n:Nat) (h:I n s):codeAny (model prog w) A (.compLoop (.ListComp ez [⟨bz,iter,dR,0⟩] scope pos) 0 it ai env) R s:=by
 have mono:∀{α β:Type} {m:Sem α} {f:α->Sem β} {Q:α->Shared->Prop} {Q':β->Shared->Prop} {s:Shared},cpW prog w A R env m Q s->(∀a t,Q a t->cpW prog w A R env (f a) Q' t)->cpW prog w A R env (m >>= f) Q' s:=fun h k=>wpAny_bind (wpAny_mono h k fun _ _ e=>e)
 refine codeAny_loop rfl I (fun n s hI=>wpAny_noted ?_) n h
 rw[compTurn_list]
 refine wpAny_bind (wpAny_standAt (mono (turn n s hI) fun r s1 h1=>?_))
 cases r with
 |none=>exact wpAny_pure h1
 |some v=>
  refine mono h1 fun _ _ h2=>mono h2 fun _ _ h3=>mono h3 fun ok s4 h4=>?_
  cases ok with
  |false=>exact wpAny_pure ⟨rfl,h4⟩
  |true=>exact wpAny_bind (mono h4 fun _ _ h5=>mono h5 fun _ _ h6=>wpAny_pure (wpAny_pure ⟨rfl,h6⟩))
end
noncomputable abbrev Cx.blk (X:Cx)(N:List Str)(sc:Scope)(C:Addr)(s₀:Shared)(H₀:Hp)(ex:List Addr):Cx:=
 {X with N:=N,env:=compEnvC sc (clOf X.env sc.names []) C X.env,outer:=X.stack,s₀:=s₀,H₀:=H₀,ex:=ex,fn:=fun _=>false,pn:=[],xe:=fun _ _=>False}
structure BlkSc (X:Cx)(sc:Scope):Prop where
 kind:sc.kind=.function
 nocell:∀y∈sc.names,y.2 ≠ .cell
 loc:∀y∈sc.names,y.2=.local->sc.names.lookup y.1=some .local
 free:∀y∈sc.names,y.2=.free->X.env.kindOf y.1=some .cell\/X.env.kindOf y.1=some .free
noncomputable abbrev Caps:=List (Str×Option Nat)
noncomputable def Caps.names (c:Caps):List Str:=c.map (·.1)
noncomputable def Caps.st (c:Caps)(σ:St):St:=c.map fun p=>p.2.bind fun j=>(σ[j]?).join
noncomputable def Gf (N:List Str)(sc:Scope):Caps->Prop
 |[]=>True
 | (_,none)::r=>Gf N sc r
 | (x,some j)::r=>(N[j]?=some x/\sc.names.lookup x=some .free)/\Gf N sc r
theorem Gf.get {N:List Str}{sc:Scope}:∀{c:Caps} {i:Nat} {x:Str} {j:Nat},Gf N sc c->c[i]?=some (x,some j)->N[j]?=some x/\sc.names.lookup x=some .free
 |[],_,_,_,_,h=>by simp at h
 | (y,none)::r,0,x,j,_,h=>by simp at h
 | (y,none)::r,i+1,x,j,ok,h=>Gf.get (c:=r) (i:=i) ok (by simpa using h)
 | (y,some k)::r,0,x,j,ok,h=>by
  simp only[List.getElem?_cons_zero,Option.some.injEq,Prod.mk.injEq]at h
  obtain⟨rfl,rfl⟩:=h
  exact ok.1
 | (y,some k)::r,i+1,x,j,ok,h=>Gf.get (c:=r) (i:=i) ok.2 (by simpa using h)
section
variable {X:Cx} {af:List (Addr×Obj)} {σ:St} {H:Hp} {s:Shared} {sc:Scope} {fp:List Addr}
theorem KD (I:Inv X af σ H s)(S:BlkSc X sc):∀p∈sc.names,p.2=.free->∃c,X.env.cells.lookup p.1=some c:=fun p hp e=>I.ok.has p.1 (S.free p hp e)
theorem CQ (I:Inv X af σ H s)(S:BlkSc X sc)   (h:(clOf X.env sc.names []).lookup x=some c):X.env.cells.lookup x=some c:=
 Nq sc.names [] (KD I S) (fun q hq=>by cases hq) (x,c) (PySem.mem_of_lookup h)
theorem Bm_ {N:List Str}{C:Addr}(I:Inv X af σ H s)(S:BlkSc X sc)(hC:s.heap.objs.size<=C)(hf:∀b∈fp,FpOk X af H b)(ho:∀b∈fp,∃o,s.heap.get? b=some o):(X.blk N sc C s H fp).Ok where
 mod:=I.ok.mod
 kind:=S.kind
 glob:=I.ok.glob
 blt:=I.ok.blt
 above:=hC
 inj:=fun x y c h1 h2=>I.ok.inj x y c (CQ I S h1) (CQ I S h2)
 has:=fun x hx=>by
  have fZ:(x,NameKind.free)∈sc.names:=by
   rcases hx with hx|hx
   ·exact Ge (env:=X.env) S.nocell hx (.inl rfl)
   ·exact Ge (env:=X.env) S.nocell hx (.inr rfl)
  obtain⟨c,hc⟩:=Kp (env:=X.env) sc.names [] x (.inl fZ)
  exact Dc hc
 cab:=fun x c h=>absurd (show false=true from h) Bool.false_ne_true
 hd:=I.ok.hd
 frames:=I.ok.frames
 stk:=.inl rfl
 exf:=fun b hb=>by
  obtain⟨o,ho⟩:=ho b hb
  refine⟨Nat.ne_of_lt (Nat.lt_of_lt_of_le (Heap.lt_size ho) hC),fun x c h=>(hf b hb).2.2.2.2.1 x c (CQ I S h)⟩
 bs:=I.bs
 bsz:=Nat.le_trans I.ok.bsz I.sz
 noex:=fun b o e hb=>by
  rcases (hf b hb).2.2.2.1 with z|z
  ·exact I.ok.noex b o e z
  ·exact absurd (Nat.lt_of_lt_of_le (Heap.lt_size (I.ok.bs b o e).1) z) (Nat.lt_irrefl _)
 exfs:=fun b hb z=>by
  rcases List.mem_cons.mp (I.stkSub b z) with e|e
  ·exact (hf b hb).2.1 e
  ·exact (hf b hb).2.2.1 e
 funs:=I.stack
 frf:=I.stkFree
theorem Vc {c:Caps}{C:Addr}{s4:Shared}{m:Str->Option Value}(I:Inv X af σ H s)(S:BlkSc X sc)(hc:Gf X.N sc c)(hC:s.heap.objs.size<=C)(hf:∀b∈fp,FpOk X af H b)(ho:∀b∈fp,∃o,s.heap.get? b=some o)
  (dN:s4.os=s.os) (hb:s4.gens=s.gens) (hk:∀b o,s.heap.get? b=some o->s4.heap.get? b=some o) (hn:s4.heap.Ns C m):Inv (X.blk c.names sc C s H fp) [] (c.st σ) H s4 where
 ok:=Bm_ I S hC hf ho
 os:=dN
 bare:=by rw[hb];exact I.bare
 base:=Un.kept hk
 loc:=by
  refine⟨m,hn,fun i x v h1 h2 hv=>?_⟩
  have j7:(c.map (·.1))[i]?=some x:=h1
  have ip:(c.map fun p=>p.2.bind fun j=>(σ[j]?).join)[i]?=some (some v):=h2
  rw[List.getElem?_map]at j7 ip
  cases e:c[i]? with
  |none=>rw[e]at j7;cases j7
  |some p=>
   obtain⟨y,oj⟩:=p
   rw[e]at j7 ip
   have e1:y=x:=Option.some.inj j7
   subst e1
   have e2:(oj.bind fun j=>(σ[j]?).join)=some v:=Option.some.inj ip
   cases oj with
   |none=>cases e2
   |some j=>
    have e3:(σ[j]?).join=some v:=e2
    have e4:σ[j]?=some (some v):=by
     cases q:σ[j]? with
     |none=>rw[q]at e3;cases e3
     |some z=>rw[q]at e3;exact congrArg some e3
    obtain⟨k1,k2⟩:=Gf.get hc e
    have k3:X.env.kindOf y=some .cell\/X.env.kindOf y=some .free:=S.free (y,.free) (PySem.mem_of_lookup k2) rfl
    have mH:Vis X.env.scope y:=by
     rcases k3 with k|k
     ·exact .inr (.inl k)
     ·exact .inr (.inr k)
    obtain⟨mX,hnX,hl⟩:=I.loc
    obtain⟨u,r,l⟩:=hl j y v k1 e4 mH
    refine⟨u,r,?_⟩
    rcases l with ⟨k,_⟩|⟨_,ca,hca,z⟩
    ·rcases k3 with k' | k'<;>(rw[k]at k';cases k')
    ·obtain⟨kd,mP,ek⟩:=Jx (env:=X.env) k2
     have fO:(compEnvC sc (clOf X.env sc.names []) C X.env).kindOf y=some kd:=ek
     obtain⟨c',fH⟩:=Kp (env:=X.env) sc.names [] y (.inl (PySem.mem_of_lookup k2))
     obtain⟨c2,cH⟩:=Dc fH
     have e5:=CQ I S cH
     rw[hca]at e5
     have e6:ca=c2:=Option.some.inj e5
     subst e6
     refine .inr ⟨?_,ca,cH,?_⟩
     ·rcases mP with rfl|rfl
      ·exact .inl fO
      ·exact .inr fO
     ·obtain⟨oc,eK,hd⟩:=z
      exact⟨oc,hk _ _ eK,hd⟩
 cell:=fun x ca h=>by
  obtain⟨v,oc,eK,hd⟩:=I.cell x ca (CQ I S h)
  exact⟨v,oc,hk _ _ eK,hd⟩
 free:=I.hok.fresh hC
 freeC:=fun x ca h=>I.freeC x ca (CQ I S h)
 pin:=fun p hp=>absurd (show p∈([]:List (Addr×Obj)) from hp) (by simp)
 hok:=I.hok.kept hk
 len:=by show (c.map _).length=(c.map _).length;rw[List.length_map,List.length_map]
theorem HOk.track       (x:HOk P w H h)(hn:H a=none)(new:Cz P w (upd H a o) h a o):HOk P w (upd H a o) h:=fun b u e=>by
 by_cases hb:b=a
 ·subst hb;rw[Ab]at e;cases e;exact new
 ·rw[Ah hb]at e
  exact (x b u e).stay (fun c v _ q=>q) (fun c q=>by rw[Ah (Al q hn)];exact q) fun c xs q=>by rw[Ah (Al q hn)];exact q
theorem Un.track {fs ex:List Addr}{H H':Hp}{h h':Heap}{a:Addr}{o:HO}(u:Un fs ex H H' h h')(ha:h.objs.size<=a)(hn:H' a=none):Un fs ex H (upd H' a o) h h' where
 keep:=u.keep
 slot:=u.slot
 free:=fun b ob q n hx=>by rw[Ah (Nat.ne_of_lt (Nat.lt_of_lt_of_le (Heap.lt_size q) ha))];exact u.free b ob q n hx
 there:=u.there
 tups:=fun b xs q=>by rw[Ah (Al (u.tups b xs q) hn)];exact u.tups b xs q
 frzs:=fun b ob xs q=>by rw[Ah (Al (u.frzs b ob xs q) hn)];exact u.frzs b ob xs q
 tbls:=fun b ps q=>by
  obtain⟨more,e⟩:=u.tbls b ps q
  exact⟨more,by rw[Ah (Al e hn)];exact e⟩
theorem ZJ {c:Caps}{C D:Addr}{s':Shared}{ah:St}{H':Hp}{o:HO}(I:Inv X af σ H s)(J:Inv (X.blk c.names sc C s H fp) [] ah H' s')(hf:∀b∈fp,FpOk X af H b)(hD:s.heap.objs.size<=D)(hn:H' D=none)
  (new:Cz X.prog X.w (upd H' D o) s'.heap D o):Inv X af σ (upd H' D o) s':=by
 have u:Un (frs X.stack) fp H H' s.heap s'.heap:=J.base
 exact I.call' J.os (u.track hD hn) (J.hok.track hn new) J.bare fun b hb=>⟨(hf b hb).2.2.2.1,(hf b hb).2.1,(hf b hb).2.2.2.2.1,(hf b hb).2.2.2.2.2⟩
end
noncomputable def PF (X:Cx)(dR:List Expr)(t:TT):Prop:=
 ∀(af:List (Addr×Obj)) (s:Shared) (σ:St) (H:Hp) (Q:Bool->Hp->Prop),Inv X af σ H s->t σ H Q ->
  wpAny (model X.prog X.w) X.A (forIn dR true fun c r=>if r=true then do let ok <- isTrue c X.env (eval c X.env);pure (ForInStep.yield ok) else pure (ForInStep.yield r)) (TP X af σ Q) X.xe s
noncomputable def Vd:TT:=fun _ H Q=>Q true H
theorem CD  : PF X [] Vd:=fun _ _ _ H _ I h=>wpAny_tests_nil ⟨H,I,h⟩
theorem Yp    (h:PT X c t):PF X [c] t:=fun af s σ H Q I hw=>wpAny_tests_one (h af s σ H Q I hw)
noncomputable def ZK (wi:TI)(cp:Caps)(g:TG)(tc:TT)(te:TE):TE:=fun σ H Q=>wi σ H fun J H1=>∃W:Nat->Nat->List V->St->Hp->Prop,(∃m,W 0 m [] (cp.st σ) H1)/\∀i m ys ah H',W i m ys ah H' ->
 ys.length<sizeLine/\((J.stop i H'/\∀D,H' D=none->Q (.ref D) (upd H' D (.lst ys)))\/(J.go i H'/\∃N:List V->St->Hp->Prop,(∀zs aj H2,N zs aj H2->∃m',m'<m/\W (i+1) m' zs aj H2)/\∀x H2,J.yld i H' x H2->g x ah H2 fun aj H3=>tc aj H3 fun b H4=>
  if b=true then te aj H4 fun v H5=>N (ys++[v]) aj H5 else N ys aj H4))
section
variable {X:Cx} {tg iter ez:Expr} {dR:List Expr} {sc:Scope} {pos:Pos} {wi:TI} {cp:Caps} {g:TG} {tc:TT} {te:TE}
theorem Pe (hc:X.calm=true)(S:BlkSc X sc)(j8:Gf X.N sc cp)
  (hg:∀C s₀ H₀ ex,PG (X.blk cp.names sc C s₀ H₀ ex) tg g) (hf:∀C s₀ H₀ ex,PF (X.blk cp.names sc C s₀ H₀ ex) dR tc) (he:∀C s₀ H₀ ex,PE (X.blk cp.names sc C s₀ H₀ ex) ez te)
  {af:List (Addr×Obj)} {σ:St} {H:Hp} {s:Shared} {J:It} {it:Addr} {fp:List Addr} {tn:Nat->Heap->Prop} {Q:VK} {RR:Value->Addr->Result->Shared->Prop} {E:Value->Shared->Prop}
  (I:Inv X af σ H s) (T:Turn X.prog X.w X.K tg J fp it tn) (st:tn 0 s.heap) (jx:∀b∈fp,FpOk X af H b)
  (hw:∃W:Nat->Nat->List V->St->Hp->Prop,(∃m,W 0 m [] (cp.st σ) H)/\∀i m ys ah H',W i m ys ah H' ->
   ys.length<sizeLine/\((J.stop i H'/\∀D,H' D=none->Q (.ref D) (upd H' D (.lst ys)))\/(J.go i H'/\∃N:List V->St->Hp->Prop,(∀zs aj H2,N zs aj H2->∃m',m'<m/\W (i+1) m' zs aj H2)/\∀x H2,J.yld i H' x H2->g x ah H2 fun aj H3=>tc aj H3 fun b H4=>
    if b=true then te aj H4 fun v H5=>N (ys++[v]) aj H5 else N ys aj H4)))
  (hR:∀D C s' H' (m:Str->Option Value),Inv X af σ H' s'->Q (.ref D) H'->s'.heap.Ns C m->H' C=none->C≠X.env.locals->X.s₀.heap.objs.size<=C->(∀x c,X.env.cells.lookup x=some c->c≠C)->(∀p∈X.pn++af,p.1≠C)->RR (.ref D) C (.ok .next) s'):
  wpAny (model X.prog X.w) X.A (newList []) (fun ai bL=>wpAny (model X.prog X.w) X.A (newFunctionEnv sc X.env.globals (clOf X.env sc.names []) [] X.env.qual none .none (some X.env)) (fun cenv s₄=>
   codeAny (model X.prog X.w) X.A (.compStart (.ListComp ez [⟨tg,iter,dR,0⟩] sc pos) 0 (.ref it) ai {cenv with scope:=relabel sc X.env}) (RR ai cenv.locals) s₄) E bL) E s:=by
 obtain⟨W,⟨m0,w0⟩,turn⟩:=hw
 refine wpAny_newObj_type (wpAny_newFunctionEnv S.nocell (by intro y hy;simp at hy) (fun h₁ cS bU=>?_) S.kind)
 dsimp only at cS bU ⊢
 generalize mQ:s.heap.push {cls:=.type "list",dict:=none,data:=.seq ([]:List Value).toArray}=H2 at cS bU ⊢
 have hC:H2.objs.size=s.heap.objs.size+1:=by rw[<-mQ,Heap.size_push]
 have lB:s.heap.objs.size≠H2.objs.size:=by rw[hC];exact Nat.ne_of_lt (Nat.lt_succ_self _)
 have eU:s.heap.objs.size<=H2.objs.size:=by rw[hC];exact Nat.le_succ _
 have below:∀b,b<s.heap.objs.size->b≠H2.objs.size:=fun b hb=>by rw[hC];exact Nat.ne_of_lt (Nat.lt_succ_of_lt hb)
 have old:∀b o,s.heap.get? b=some o->h₁.get? b=some o:=fun b o e=>bU.extBut b o (below b (Heap.lt_size e)) (Heap.get?_push_of_some _ (mQ ▸ Heap.get?_push_of_some _ e))
 have bV:h₁.get? s.heap.objs.size=some {cls:=.type "list",data:=.seq ([]:List Value).toArray 0}:=bU.extBut _ _ lB (Heap.get?_push_of_some _ (mQ ▸ Heap.get?_push_size _ rfl))
 have hst₁:tn 0 h₁:=T.keep 0 _ _ st fun b _ o e=>old b o e
 have cz:∀b∈fp,∃o,s.heap.get? b=some o:=fun b hb=>let ⟨o,e,_⟩:=T.obj 0 _ st b hb;⟨o,e⟩
 have J0:Inv (X.blk cp.names sc H2.objs.size s H fp) [] (cp.st σ) H {s with heap:=h₁,toks:=s.toks+([]:List (Str×Value)).length}:=Vc I S j8 eU jx cz rfl rfl old cS
 have lC:∀b,s.heap.objs.size<=b->b∉frs X.stack:=fun b hb z=>by
  rcases List.mem_cons.mp (I.stkSub b z) with e|e
  ·exact absurd (Nat.lt_of_lt_of_le I.lt (by rw[<-e];exact hb)) (Nat.lt_irrefl _)
  ·exact I.nofs hb e
 have ncell:∀b,s.heap.objs.size<=b->∀x c,X.env.cells.lookup x=some c->c≠b:=fun b hb x c e z=>by
  obtain⟨v,q⟩:=I.cell x c e
  exact absurd (Nat.lt_of_lt_of_le q.lt (by rw[z];exact hb)) (Nat.lt_irrefl _)
 have fpb:∀{bP:List (Addr×Obj)} {H':Hp},(∀b∈fp,H' b=none)->(∀p∈bP,p.1∉fp)->∀b∈fp,FpOk (X.blk cp.names sc H2.objs.size s H fp) bP H' b:=fun {bP H'} hn hp b hb=>by
  obtain⟨o,e⟩:=cz b hb
  refine⟨hn b hb,below b (Heap.lt_size e),fun z=>?_,.inl hb,fun x c h=>(jx b hb).2.2.2.2.1 x c (CQ I S h),fun p lD z=>?_⟩
  ·rcases List.mem_cons.mp (I.stkSub b z) with e|e
   ·exact (jx b hb).2.1 e
   ·exact (jx b hb).2.2.1 e
  ·have hp'':p∈bP:=by simpa using lD
   exact hp p hp'' (by rw[z];exact hb)
 have loop:∀bL:Shared,bL={s with heap:=h₁,toks:=s.toks+([]:List (Str×Value)).length} ->
   codeAny (model X.prog X.w) X.A (.compLoop (.ListComp ez [⟨tg,iter,dR,0⟩] sc pos) 0 (.ref it) (.ref s.heap.objs.size) (compEnvC sc (clOf X.env sc.names []) H2.objs.size X.env))
    (RR (.ref s.heap.objs.size) H2.objs.size) bL:=by
  rintro bL rfl
  refine Pd (fun n s'=>∃i ah H' ys its k,Inv (X.blk cp.names sc H2.objs.size s H fp) [] ah H' s'/\tn i s'.heap/\(∀b∈fp,H' b=none)/\H' s.heap.objs.size=none /\
   s'.heap.get? s.heap.objs.size=some {cls:=.type "list",data:=.seq its.toArray k}/\Vals ys its/\W i n ys ah H') ?_ m0
   ⟨0,_,H,[],[],0,J0,hst₁,fun b hb=>(jx b hb).1,I.hok.fresh (Nat.le_refl _),bV,.nil,w0⟩
  rintro n s3 ⟨i,aH,H3,ys,its,k,I3,dJ,lu,mR,e3,rv,w3⟩
  obtain⟨hz,tr⟩:=turn i n ys aH H3 w3
  have ak:=rv.length
  -- the accumulator stands still while anything else runs
  have dpin:∀p ∈ [(s.heap.objs.size,({cls:=.type "list",data:=.seq its.toArray k}:Obj))],p.1∉fp:=fun p hp z=>by
   have e:p=_:=List.mem_singleton.mp hp
   subst e
   obtain⟨o,e⟩:=cz _ z
   exact absurd (Heap.lt_size e) (Nat.lt_irrefl _)
  have I3':Inv (X.blk cp.names sc H2.objs.size s H fp) [(s.heap.objs.size,({cls:=.type "list",data:=.seq its.toArray k}:Obj))] aH H3 s3:=I3.pins_of fun p hp=>by
   have e:p=_:=List.mem_singleton.mp hp
   subst e
   exact⟨e3,mR,lB,lC _ (Nat.le_refl _),fun v z=>by cases z⟩
  have dI:∀b∈fp,FpOk (X.blk cp.names sc H2.objs.size s H fp) [(s.heap.objs.size,({cls:=.type "list",data:=.seq its.toArray k}:Obj))] H3 b:=fpb lu dpin
  rcases tr with ⟨stop,qn⟩|⟨go,N,hN,step⟩
  ·refine thn (T.done (X.blk cp.names sc H2.objs.size s H fp) rfl rfl rfl hc i _ s3 aH H3 _ I3' dI dJ stop) fun r s4 ⟨hr,I4⟩=>?_
   subst hr
   obtain⟨e4,n4,_⟩:=I4.pin (s.heap.objs.size,({cls:=.type "list",data:=.seq its.toArray k}:Obj)) (by simp)
   have new:Cz X.prog X.w (upd H3 s.heap.objs.size (.lst ys)) s4.heap s.heap.objs.size (.lst ys):=⟨Nat.le_of_lt hz,its,k,rv,e4⟩
   obtain⟨mC,hnC,_⟩:=I4.loc
   have I4':Inv (X.blk cp.names sc H2.objs.size s H fp) [] aH H3 s4:=I4.pins_of fun p hp=>by cases hp
   have I5:=ZJ I I4' jx (Nat.le_refl _) n4 new
   refine hR _ _ s4 _ mC I5 (qn _ n4) hnC ?_ (Nat.ne_of_gt (Nat.lt_of_lt_of_le I.lt eU)) (Nat.le_trans I.sz eU) (ncell _ eU) fun p hp z=>?_
   ·rw[Ah (Ne.symm lB)];exact I4.free
   ·exact absurd (Nat.lt_of_lt_of_le (Heap.lt_size (I.pin p hp).1) (by rw[z];exact eU)) (Nat.lt_irrefl _)
  ·refine thn (T.item (X.blk cp.names sc H2.objs.size s H fp) rfl rfl rfl hc i _ s3 aH H3 _ I3' dI dJ go) fun r s4 ⟨u,hr,h4⟩=>?_
   subst hr
   refine thn h4 fun _ s5 ⟨x,H5,I5,r5,y5,a8,mI⟩=>?_
   have mJ:=I5.pinned (fpb mI dpin) (T.obj _ _ a8)
   have fin:∀{cP:St} {H7:Hp} {s7:Shared},Inv (X.blk cp.names sc H2.objs.size s H fp) ([(s.heap.objs.size,({cls:=.type "list",data:=.seq its.toArray k}:Obj))]++OY fp s5.heap) cP H7 s7 ->
     s7.heap.get? s.heap.objs.size=some {cls:=.type "list",data:=.seq its.toArray k}/\H7 s.heap.objs.size=none/\(∀b∈fp,H7 b=none)/\∀b∈fp,∀o,s5.heap.get? b=some o->s7.heap.get? b=some o:=fun {cP H7 s7} I7=>by
    obtain⟨e7,n7,_⟩:=I7.pin (s.heap.objs.size,({cls:=.type "list",data:=.seq its.toArray k}:Obj)) (by simp)
    refine⟨e7,n7,fun b hb=>?_,fun b hb o e=>?_⟩
    ·obtain⟨o,e,_⟩:=T.obj _ _ a8 b hb
     exact (I7.pin (b,o) (List.mem_append_right _ (List.mem_append_right _ (GN hb e)))).2.1
    ·exact (I7.pin (b,o) (List.mem_append_right _ (List.mem_append_right _ (GN hb e)))).1
   refine wpAny_mono (hg _ _ _ _ _ s5 aH H5 x u _ mJ r5 (step x H5 y5)) (fun _ s6 ⟨fI,H6,I6,q6⟩=>?_) fun _ _ z=>False.elim z
   refine wpAny_mono (hf _ _ _ _ _ s6 fI H6 _ I6 q6) (fun ok s7 ⟨H7,I7,q7⟩=>?_) fun _ _ z=>False.elim z
   cases ok with
   |false=>
    rw[if_neg Bool.false_ne_true]
    rw[if_neg Bool.false_ne_true]at q7
    obtain⟨m',hm,w7⟩:=hN _ _ _ q7
    obtain⟨e7,n7,fr7,k7⟩:=fin I7
    exact⟨m',hm,i+1,fI,H7,ys,its,k,I7.pins_of (fun p hp=>by cases hp),T.keep _ _ _ a8 k7,fr7,n7,e7,rv,w7⟩
   |true=>
    rw[if_pos rfl]
    rw[if_pos rfl]at q7
    refine wpAny_mono (he _ _ _ _ _ s7 fI H7 _ I7 q7) (fun v s8 ⟨y,H8,I8,r8,q8⟩=>?_) fun _ _ z=>False.elim z
    obtain⟨m',hm,w8⟩:=hN _ _ _ q8
    obtain⟨e8,n8,fr8,k8⟩:=fin I8
    refine call_meets F.slot_list_append ⟨_,e8,rfl⟩ F.entry_list_append (F.args_list_append_2 _ _) (PySem.list_append s.heap.objs.size its.toArray k v (by rw[List.size_toArray];lia)) ⟨e8,?_⟩
    obtain⟨k',q⟩:∃k',(s8.heap.update s.heap.objs.size (Obj.mapSeq fun x=>x.push v)).get? s.heap.objs.size=some {cls:=.type "list",data:=.seq (its++[v]).toArray k' }:=⟨_,by
     have q:=PySem.IsL.update e8 fun x=>x.push v
     have e:(its++[v]).toArray=its.toArray.push v:=by simp
     rw[e]
     exact q⟩
    have I8':Inv (X.blk cp.names sc H2.objs.size s H fp) [] fI H8 s8:=I8.pins_of fun p hp=>by cases hp
    have I9:Inv (X.blk cp.names sc H2.objs.size s H fp) [] fI H8 {s8 with heap:=s8.heap.update s.heap.objs.size (Obj.mapSeq fun x=>x.push v),toks:=s8.toks}:=
     I8'.turned (it:=s.heap.objs.size) (fun b o hb e=>(Heap.get?_update_other _ _ (Ne.symm hb)).trans e) n8 lB (.inr (Nat.le_refl _)) (fun x c e=>ncell _ (Nat.le_refl _) x c (CQ I S e)) (fun p hp=>by cases hp)
    refine⟨m',hm,i+1,fI,H8,ys++[y],its++[v],k',I9,T.keep (i+1) s5.heap _ a8 (fun b hb o e=>?_),fr8,n8,q,rv.append (.cons r8 .nil),w8⟩
    ·refine (Heap.get?_update_other _ _ ?_).trans (k8 b hb o e)
     intro z
     obtain⟨ob,eb⟩:=cz b hb
     exact absurd (Heap.lt_size eb) (by rw[<-z];exact Nat.lt_irrefl _)
 exact codeAny_compStart_list (loop _ rfl) (T.self _ 0 _ _ _ hst₁ (loop _ rfl))
theorem Cg (hc:X.calm=true)(S:BlkSc X sc)(j8:Gf X.N sc cp)(hi:PI X tg iter wi)
  (hg:∀C s₀ H₀ ex,PG (X.blk cp.names sc C s₀ H₀ ex) tg g) (hf:∀C s₀ H₀ ex,PF (X.blk cp.names sc C s₀ H₀ ex) dR tc) (he:∀C s₀ H₀ ex,PE (X.blk cp.names sc C s₀ H₀ ex) ez te)
  (hs:∀x,foldedSetIterable iter X.env x=pure x:=by intro _;rfl):PE X (.ListComp ez [⟨tg,iter,dR,0⟩] sc pos) (ZK wi cp g tc te):=by
 intro af s σ H Q I h
 rw[eval_ListComp]
 refine wpAny_comprehension_free (use:=none) rfl hs (MM (KD I S)) S.kind S.loc (thn (hi af s σ H _ I h) fun xv s₁ h₁=>thn h₁ fun lr a7 cR=>?_)
 obtain⟨it,fp,tn,J,H2,e,I2,T,aM,f2,hw⟩:=cR
 subst e
 refine Pe (RR:=fun ai C=>compPost (model X.prog X.w) X.A X.xe none (EP X af σ Q) ai C) hc S j8 hg hf he I2 T aM f2 hw ?_
 intro D C s' H' m I' q hn hC hL hz cI hp
 exact⟨m,hn,fun h' gc=>⟨.ref D,H',I'.turned (t':=s'.toks) (it:=C) (fun b o hb e=>gc.extBut b o hb e) hC hL (.inr hz) cI hp,rfl,q⟩⟩
theorem IE    (hN:X.N.Nodup)(hi:X.N[i]?=some x)(hx:X.env.scope.names.lookup x=some .local)(hc:X.calm=true)(S:BlkSc X sc)(j8:Gf X.N sc cp)(aY:PI X tg iter wi)
  (hg:∀C s₀ H₀ ex,PG (X.blk cp.names sc C s₀ H₀ ex) tg g) (hf:∀C s₀ H₀ ex,PF (X.blk cp.names sc C s₀ H₀ ex) dR tc) (he:∀C s₀ H₀ ex,PE (X.blk cp.names sc C s₀ H₀ ex) ez te)
  (hsw:swapsWith (.ListComp ez [⟨tg,iter,dR,0⟩] sc pos) (some (.Name x px)) spos.line X.env=pure true:=by rfl)
  (hs:∀x,foldedSetIterable iter X.env x=pure x:=by intro _;rfl):PS X (.Assign [.Name x px] (.ListComp ez [⟨tg,iter,dR,0⟩] sc pos) spos) (tAsg (ZK wi cp g tc te) (Mb i)):=by
 intro af s σ H D I h
 rw[exec_Assign_Name_used _ _ _ _ hsw]
 refine wpAny_bind (wpAny_standAt (wpAny_bind ?_))
 show wpAny _ X.A (do let _ <- comprehension (.ListComp ez [⟨tg,iter,dR,0⟩] sc pos) sc X.env _ (newList []) false (eval iter X.env) (some (assign (.Name x px) X.env))) _ _ s
 refine wpAny_bind (wpAny_mono (wpAny_comprehension_free (use:=some (assign (.Name x px) X.env)) (Q:=fun _ s'=>SP X af D .next s') rfl hs (MM (KD I S)) S.kind S.loc
  (thn (aY af s σ H _ I h) fun xv s₁ h₁=>thn h₁ fun lr a7 cR=>?_)) (fun _ s' hq=>wpAny_pure (wpAny_pure hq)) fun _ _ e=>e)
 obtain⟨it,fp,tn,J,H2,e,I2,T,aM,f2,hw⟩:=cR
 subst e
 refine Pe (RR:=fun ai C=>compPost (model X.prog X.w) X.A X.xe (some (assign (.Name x px) X.env)) (fun _ s'=>SP X af D .next s') ai C) (Q:=fun v H1=>Mb i v σ H1 D.nx) hc S j8 hg hf he I2 T aM f2 hw ?_
 intro Dl C s' H' m I' q hn hC hL hz cI hp
 show wpAny _ X.A (assign (.Name x px) X.env (.ref Dl)) _ _ _
 refine wpAny_assign_Name (OW I' hN hi (.inl hx) (v:=.ref Dl) rfl (fun ic I'' ⟨a,hsb,ha⟩=>?_) (.inr hx))
 have aE:C≠a:=by
  rcases ha with rfl|ha
  ·exact hL
  ·exact fun z=>cI _ _ ha z.symm
 refine⟨m,hn.sameBut hsb aE,fun h' gc=>⟨_,H',I''.turned (t':=ic.toks) (it:=C) (fun b o hb e=>gc.extBut b o hb e) hC hL (.inr hz) cI hp,q⟩⟩
end
theorem Ve {K:PySem.W.Frag}{a:Addr}{xs:List V}{g:TG}{tc:TT}{te:TE}{Q:VK}{σ:St}{H:Hp}(Pv:Nat->List V->St->Hp->Prop)(h0:Pv 0 [] σ H)(hz:xs.length<sizeLine)
  (hl:∀i ys σ H,i<=xs.length->Pv i ys σ H->SqL K H a xs/\ys.length<=i)
  (hs:∀i x ys σ H,xs[i]?=some x->Pv i ys σ H->g x σ H fun aj H2=>tc aj H2 fun b H3=>if b=true then te aj H3 fun v H4=>Pv (i+1) (ys++[v]) aj H4 else Pv (i+1) ys aj H3)
  (hd:∀ys σ H,Pv xs.length ys σ H->∀D,H D=none->Q (.ref D) (upd H D (.lst ys))):
  ∃W:Nat->Nat->List V->St->Hp->Prop,(∃m,W 0 m [] σ H)/\∀i m ys ah H',W i m ys ah H' ->
   ys.length<sizeLine/\(((Itl K a).stop i H'/\∀D,H' D=none->Q (.ref D) (upd H' D (.lst ys)))\/((Itl K a).go i H'/\∃N:List V->St->Hp->Prop,(∀zs aj H2,N zs aj H2->∃m',m'<m/\W (i+1) m' zs aj H2)/\∀x H2,(Itl K a).yld i H' x H2->g x ah H2 fun aj H3=>tc aj H3 fun b H4=>
    if b=true then te aj H4 fun v H5=>N (ys++[v]) aj H5 else N ys aj H4)):=by
 refine⟨fun i m ys σ H=>m=xs.length-i/\i<=xs.length/\Pv i ys σ H,⟨xs.length,by simp,Nat.zero_le _,h0⟩,?_⟩
 rintro i m ys σ H ⟨rfl,hi,p⟩
 obtain⟨q,ly⟩:=hl i ys σ H hi p
 refine⟨by lia,?_⟩
 by_cases ar:i<xs.length
 ·refine .inr ⟨⟨xs,xs[i],q,by simp[ar]⟩,Pv (i+1),fun zs ah H' p'=>⟨xs.length-(i+1),by lia,rfl,ar,p'⟩,fun x H' y=>?_⟩
  obtain⟨e,y⟩:=y
  subst e
  exact hs i x ys σ _ (y xs q) p
 ·have e:i=xs.length:=by lia
  subst e
  exact .inl ⟨⟨xs,q,Nat.le_refl _⟩,hd ys σ H p⟩
theorem W0 {K:PySem.W.Frag}{a:Addr}{xs:List V}{g:TG}{tc:TT}{te:TE}{Q:VK}{σ:St}{H:Hp}(Pv:Nat->List V->St->Hp->Prop)(h0:Pv 0 [] σ H)(hz:xs.length<sizeLine)
  (hl:∀i ys σ H,i<=xs.length->Pv i ys σ H->SqT K H a xs/\ys.length<=i)
  (hs:∀i x ys σ H,xs[i]?=some x->Pv i ys σ H->g x σ H fun aj H2=>tc aj H2 fun b H3=>if b=true then te aj H3 fun v H4=>Pv (i+1) (ys++[v]) aj H4 else Pv (i+1) ys aj H3)
  (hd:∀ys σ H,Pv xs.length ys σ H->∀D,H D=none->Q (.ref D) (upd H D (.lst ys))):
  ∃W:Nat->Nat->List V->St->Hp->Prop,(∃m,W 0 m [] σ H)/\∀i m ys ah H',W i m ys ah H' ->
   ys.length<sizeLine/\(((Itt K a).stop i H'/\∀D,H' D=none->Q (.ref D) (upd H' D (.lst ys)))\/((Itt K a).go i H'/\∃N:List V->St->Hp->Prop,(∀zs aj H2,N zs aj H2->∃m',m'<m/\W (i+1) m' zs aj H2)/\∀x H2,(Itt K a).yld i H' x H2->g x ah H2 fun aj H3=>tc aj H3 fun b H4=>
    if b=true then te aj H4 fun v H5=>N (ys++[v]) aj H5 else N ys aj H4)):=by
 refine⟨fun i m ys σ H=>m=xs.length-i/\i<=xs.length/\Pv i ys σ H,⟨xs.length,by simp,Nat.zero_le _,h0⟩,?_⟩
 rintro i m ys σ H ⟨rfl,hi,p⟩
 obtain⟨q,ly⟩:=hl i ys σ H hi p
 refine⟨by lia,?_⟩
 by_cases ar:i<xs.length
 ·refine .inr ⟨⟨xs,xs[i],q,by simp[ar]⟩,Pv (i+1),fun zs ah H' p'=>⟨xs.length-(i+1),by lia,rfl,ar,p'⟩,fun x H' y=>?_⟩
  obtain⟨e,y⟩:=y
  subst e
  exact hs i x ys σ _ (y xs q) p
 ·have e:i=xs.length:=by lia
  subst e
  exact .inl ⟨⟨xs,q,Nat.le_refl _⟩,hd ys σ H p⟩
theorem S9 {lo:Int}{n:Nat}{g:TG}{tc:TT}{te:TE}{Q:VK}{σ:St}{H:Hp}(Pv:Nat->List V->St->Hp->Prop)(h0:Pv 0 [] σ H)(hz:n<sizeLine)
  (hl:∀i ys σ H,i<=n->Pv i ys σ H->ys.length<=i)
  (hs:∀i ys σ H,i<n->Pv i ys σ H->g (.int (lo+i)) σ H fun aj H2=>tc aj H2 fun b H3=>if b=true then te aj H3 fun v H4=>Pv (i+1) (ys++[v]) aj H4 else Pv (i+1) ys aj H3)
  (hd:∀ys σ H,Pv n ys σ H->∀D,H D=none->Q (.ref D) (upd H D (.lst ys))):
  ∃W:Nat->Nat->List V->St->Hp->Prop,(∃m,W 0 m [] σ H)/\∀i m ys ah H',W i m ys ah H' ->
   ys.length<sizeLine/\(((Itr lo n).stop i H'/\∀D,H' D=none->Q (.ref D) (upd H' D (.lst ys)))\/((Itr lo n).go i H'/\∃N:List V->St->Hp->Prop,(∀zs aj H2,N zs aj H2->∃m',m'<m/\W (i+1) m' zs aj H2)/\∀x H2,(Itr lo n).yld i H' x H2->g x ah H2 fun aj H3=>tc aj H3 fun b H4=>
    if b=true then te aj H4 fun v H5=>N (ys++[v]) aj H5 else N ys aj H4)):=by
 refine⟨fun i m ys σ H=>m=n-i/\i<=n/\Pv i ys σ H,⟨n,by simp,Nat.zero_le _,h0⟩,?_⟩
 rintro i m ys σ H ⟨rfl,hi,p⟩
 have ly:=hl i ys σ H hi p
 refine⟨by lia,?_⟩
 by_cases ar:i<n
 ·refine .inr ⟨ar,Pv (i+1),fun zs ah H' p'=>⟨n-(i+1),by lia,rfl,ar,p'⟩,fun x H' y=>?_⟩
  obtain⟨e,y⟩:=y
  subst e y
  exact hs i ys σ _ ar p
 ·have e:i=n:=by lia
  subst e
  exact .inl ⟨Nat.le_refl _,hd ys σ H p⟩
end L2
namespace L2
open PySem PySem.Spec PyProof.Rows
section
variable {X:Cx}
theorem Nt {bs:List Bool}{its:List Value}(r:Vals (bs.map V.bl) its){i:Nat}{v:Value}(h:its[i]?=some v):∃b,bs[i]?=some b/\v=.bool b:=by
 have hi:i<its.length:=(List.getElem?_eq_some_iff.mp h).1
 have hl:=r.length
 rw[List.length_map]at hl
 obtain⟨u,hu,ru⟩:=r.get (i:=i) (x:=V.bl bs[i]) (by rw[List.getElem?_map];simp[show i<bs.length by lia])
 rw[h]at hu
 cases hu
 exact⟨bs[i],by simp[show i<bs.length by lia],ru⟩
theorem Bn_ (bs:List Bool):(List.range bs.length).map (fun i=>bs.getD i false)=bs:=
 List.ext_getElem (by simp) fun i _ h=>by simp[h]
theorem Vf {bs:List Bool}:(List.range bs.length).all (fun i=>bs.getD i false)=bs.all id:=by
 have e:=congrArg (fun l=>l.all id) (Bn_ bs)
 rw[List.all_map]at e;exact e
theorem QI {bs:List Bool}{its:List Value}{A:Around}{P:Program}{w:World}(r:Vals (bs.map V.bl) its):TruthOf P w A (fun i v=>its.toArray[i]?=some v) (fun i=>bs.getD i false):=by
 intro i v s Q E hv hq
 obtain⟨b,hb,e⟩:=Nt r (by simpa using hv)
 subst e
 refine wpAny_truthy_bool ?_
 have e:bs.getD i false=b:=by rw[List.getD_eq_getElem?_getD,hb];rfl
 have fP:Q (bs.getD i false) s:=hq
 rw[e]at fP
 exact fP
theorem W2 (hc:X.calm=true):EG X (.builtin "all") (fun xs H Q=>∃(p:Addr) (bs:List Bool),xs=[.ref p]/\SqL X.K H p (bs.map V.bl)/\Q (.bl (bs.all id)) H):=by
 intro af s σ H xs us Q I r h
 obtain⟨p,bs,rfl,hq,q⟩:=h
 obtain⟨u,rfl,ru⟩:=vals1 r
 cases ru
 obtain⟨its,rv,pl,hz⟩:=I.list hq
 have ak:=rv.length
 rw[List.length_map]at ak
 have hh:X.A.in1.handled=none:=I.ok.hd hc
 obtain⟨o,ho,_⟩:=id pl.isList
 have aE:p≠s.heap.objs.size:=Nat.ne_of_lt (Heap.lt_size ho)
 refine call_all_walk (wpAny_pyIter_list pl.isList ?_)
 refine⟨s.heap.objs.size,_,_,its.toArray.size,_,_,fun i=>bs.getD i false,rfl,Walks.list hh _ p aE its.toArray,⟨⟨_,Heap.get?_push_size _ rfl,rfl,rfl⟩,pl.isList.at fun o e=>Heap.get?_push_of_some _ e⟩,QI rv,fun h' tk hk=>?_⟩
 refine⟨.bl (bs.all id),H,I.kept (t':=tk) fun b o e=>hk b o ?_ (Heap.get?_push_of_some _ e),?_,q⟩
 ·intro hb
  have e':b=s.heap.objs.size:=by simpa using hb
  exact absurd (Heap.lt_size e) (by rw[e'];exact Nat.lt_irrefl _)
 ·rw[List.size_toArray,<-ak,Vf];rfl
noncomputable def EqD (K:PySem.W.Frag)(H:Hp):Nat->V->V->Bool->Prop
 |0,x,y,b=>DO x=true/\DO y=true/\b=eqV x y
 |n+1,x,y,b=>(DO x=true/\DO y=true/\b=eqV x y) \/ ∃a c xs ys,x=.ref a/\y=.ref c/\((SqL K H a xs/\SqL K H c ys)\/(SqT K H a xs/\SqT K H c ys)) /\
   ∃e:Nat->Bool,(∀i x y,xs[i]?=some x->ys[i]?=some y->EqD K H n x y (e i))/\b=(decide (xs.length=ys.length)&&(List.range (min xs.length ys.length)).all e)
theorem in1_units (A:Around):A.in1.units=A.units+1:=rfl
theorem R8  (h:DO x=true):eqV x x=true:=by
 cases x<;>first|rfl|(simp[eqV];done)|exact absurd (show false=true from h) Bool.false_ne_true
theorem EqD.self     (I:Inv X af σ H s):∀(n:Nat) {x:V} {b:Bool},EqD X.K H n x x b->b=true:=by
 intro n
 induction n with
 |zero=>
  rintro x b ⟨fx,_,rfl⟩
  exact R8 fx
 |succ n ih=>
  rintro x b (⟨fx,_,rfl⟩|⟨a,c,xs,ys,rfl,e2,hq,e,he,rfl⟩)
  ·exact R8 fx
  ·cases e2
   have mS:xs=ys:=by
    rcases hq with ⟨h1,h2⟩|⟨h1,h2⟩
    ·exact I.list_inj h1 h2
    ·exact I.tuple_inj h1 h2
   subst mS
   simp only[decide_true,Bool.true_and,Nat.min_self,List.all_eq_true,List.mem_range]
   intro i hi
   exact ih (he i xs[i] xs[i] (by simp[hi]) (by simp[hi]))
theorem Vg   : ((List.range (min n m)).all e&&n==m)=(decide (n=m)&&(List.range (min n m)).all e):=by
 rw[Bool.and_comm]
 congr 1
theorem EqD.at     (I:Inv X af σ H s):∀(n:Nat) (A:Around) {x y:V} {u v:Value} {b:Bool},A.units+n<cLine->RelV x u->RelV y v->EqD X.K H n x y b ->
  SeqAt.EqAt A s u v b/\∀a c,x=.ref a->y=.ref c->SeqAt.RcAt A s u v b:=by
 intro n
 induction n with
 |zero=>
  intro A x y u v b hu rx ry h
  obtain⟨fx,fy,rfl⟩:=h
  refine⟨UX rx ry fx fy,?_⟩
  rintro a c rfl rfl
  exact absurd (show false=true from fx) Bool.false_ne_true
 |succ n ih=>
  intro A x y u v b hu rx ry h
  have hself:=h
  rcases h with ⟨fx,fy,rfl⟩|⟨a,c,xs,ys,rfl,rfl,hq,e,he,rfl⟩
  ·refine⟨UX rx ry fx fy,?_⟩
   rintro a c rfl rfl
   exact absurd (show false=true from fx) Bool.false_ne_true
  ·cases rx
   cases ry
   have key:∀(its az:List Value),Vals xs its->Vals ys az->∀j (h1:j<its.toArray.size) (h2:j<az.toArray.size),SeqAt.EqAt A.in1 s its.toArray[j] az.toArray[j] (e j):=fun its az r1 r2 j h1 h2=>by
    have l1:=r1.length
    have l2:=r2.length
    rw[List.size_toArray]at h1 h2
    obtain⟨u1,g1,q1⟩:=r1.get (i:=j) (x:=xs[j]'s!"") (by simp[show j<xs.length by lia])
    obtain⟨u2,g2,q2⟩:=r2.get (i:=j) (x:=ys[j]'s!"") (by simp[show j<ys.length by lia])
    have k1:its.toArray[j]'(by rw[List.size_toArray];exact h1)=u1:=by
     have:=(List.getElem?_eq_some_iff.mp g1).2
     simpa using this
    have k2:az.toArray[j]'(by rw[List.size_toArray];exact h2)=u2:=by
     have:=(List.getElem?_eq_some_iff.mp g2).2
     simpa using this
    rw[k1,k2]
    exact (ih A.in1 (by rw[in1_units];lia) q1 q2 (he j _ _ (by simp[show j<xs.length by lia]) (by simp[show j<ys.length by lia]))).1
   have rc:SeqAt.RcAt A s (.ref a) (.ref c) (decide (xs.length=ys.length)&&(List.range (min xs.length ys.length)).all e):=by
    rcases hq with ⟨h1,h2⟩|⟨h1,h2⟩
    ·obtain⟨its,r1,p1,_⟩:=I.list h1
     obtain⟨az,r2,p2,_⟩:=I.list h2
     have l1:=r1.length
     have l2:=r2.length
     by_cases hl:xs.length=ys.length
     ·have:=SeqAt.RcAt.lists (e:=e) p1.isList p2.isList (by rw[List.size_toArray,List.size_toArray];lia) s!"" (key its az r1 r2)
      rw[List.size_toArray,<-l1]at this
      rw[decide_eq_true hl,Bool.true_and,<-hl,Nat.min_self]
      exact this
     ·rw[decide_eq_false hl,Bool.false_and]
      exact SeqAt.RcAt.lists_lengths p1.isList p2.isList (by rw[List.size_toArray,List.size_toArray];simp;lia) s!""
    ·obtain⟨its,r1,p1,_⟩:=I.tuple h1
     obtain⟨az,r2,p2,_⟩:=I.tuple h2
     have l1:=r1.length
     have l2:=r2.length
     have:=SeqAt.RcAt.tuples (e:=e) (show s.heap.IsTuple a its.toArray from p1) (show s.heap.IsTuple c az.toArray from p2) s!"" (key its az r1 r2)
     rw[List.size_toArray,List.size_toArray,<-l1,<-l2,Vg]at this
     exact this
   refine⟨?_,fun a' c' _ _=>rc⟩
   by_cases hac:a=c
   ·subst hac
    rw[EqD.self I (n+1) hself]
    exact SeqAt.EqAt.same _
   ·exact SeqAt.EqAt.of_refs hac rc
noncomputable def rEqD (K:PySem.W.Frag)(n:Nat):R2:=fun x y H Q=>∃a c b,x=.ref a/\y=.ref c/\EqD K H n x y b/\Q (.bl b) H
theorem Yq (n:Nat)(hu:X.A.units+n<cLine):OpR X (compareOp .Eq) (rEqD X.K n):=by
 intro af s σ H x y v u Q I rx ry h
 obtain⟨a,c,b,ex,ey,h,q⟩:=h
 exact (EqD.at I n X.A hu rx ry h).2 a c ex ey _ _ _ _ ⟨.bl b,H,I,rfl,q⟩
theorem EqD.flat {K:PySem.W.Frag}    (hq:(SqL K H a xs/\SqL K H c ys)\/(SqT K H a xs/\SqT K H c ys))(fx:∀x∈xs,DO x=true)(fy:∀y∈ys,DO y=true)(hi:∀x∈xs,∀y∈ys,eqV x y=decide (x=y))(n:Nat):
  EqD K H (n+1) (.ref a) (.ref c) (decide (xs=ys)):=by
 have base:∀m i x y,xs[i]?=some x->ys[i]?=some y->EqD K H m x y (decide (x=y)):=fun m i x y h1 h2=>by
  have m1:=List.mem_of_getElem? h1
  have m2:=List.mem_of_getElem? h2
  cases m with
  |zero=>exact⟨fx _ m1,fy _ m2,(hi _ m1 _ m2).symm⟩
  |succ m=>exact .inl ⟨fx _ m1,fy _ m2,(hi _ m1 _ m2).symm⟩
 refine .inr ⟨a,c,xs,ys,rfl,rfl,hq,fun i=>match xs[i]?,ys[i]? with|some x,some y=>decide (x=y)|_,_=>true,fun i x y h1 h2=>?_,?_⟩
 ·simp only[h1,h2]
  exact base n i x y h1 h2
 ·rw[Bool.eq_iff_iff]
  simp only[decide_eq_true_eq,Bool.and_eq_true,List.all_eq_true,List.mem_range]
  constructor
  ·rintro rfl
   refine⟨rfl,fun i hi=>?_⟩
   have hi:i<xs.length:=by lia
   simp[hi]
  ·rintro⟨hl,h⟩
   refine List.ext_getElem? fun i=>?_
   by_cases hi:i<xs.length
   ·have:=h i s!""
    simp[hi,show i<ys.length by lia]at this
    simp[hi,show i<ys.length by lia,this]
   ·rw[List.getElem?_eq_none s!"",List.getElem?_eq_none s!""]
end
end L2
namespace L2
open PySem PySem.Spec PyProof.Rows
noncomputable def Bo_ (outer:List (Str×NameKind))(sc:Scope):Bool:=
 sc.kind == .function&&sc.names.all (fun y=>y.2 != .cell&&(y.2 != .local||sc.names.lookup y.1==some .local)&&(y.2 != .free||outer.lookup y.1==some .cell||outer.lookup y.1==some .free))
theorem Cp   (h:Bo_ X.env.scope.names sc=true):BlkSc X sc:=by
 unfold Bo_ at h
 rw[Bool.and_eq_true,List.all_eq_true]at h
 obtain⟨h1,h2⟩:=h
 refine⟨by simpa using h1,fun y hy z=>?_,fun y hy z=>?_,fun y hy z=>?_⟩
 ·have:=h2 y hy
  simp only[Bool.and_eq_true]at this
  have:=this.1.1
  rw[z]at this
  exact absurd this (by decide)
 ·have:=h2 y hy
  simp only[Bool.and_eq_true]at this
  have:=this.1.2
  rw[z]at this
  simpa using this
 ·have:=h2 y hy
  simp only[Bool.and_eq_true]at this
  have:=this.2
  rw[z]at this
  have t:(X.env.scope.names.lookup y.1==some .cell||X.env.scope.names.lookup y.1==some .free)=true:=by simpa using this
  rw[Bool.or_eq_true]at t
  rcases t with t|t
  ·exact .inl (by show X.env.scope.names.lookup y.1=some .cell;simpa using t)
  ·exact .inr (by show X.env.scope.names.lookup y.1=some .free;simpa using t)
section
variable {t u:TS} {te ta tb tc':TE} {tt tu:TT} {A B:TA} {D:Ends} {σ:St} {H:Hp} {Q:VK} {R:Bool->Hp->Prop} {S:List V->Hp->Prop} {i:Nat} {v:V} {g:TG} {r r':R2} {K:PySem.W.Frag} {wi:TI} {cp:Caps}
theorem Bp_:tSeq t u D σ H=t {D with nx:=u D} σ H:=rfl
theorem Yr:AQ_ D σ H=D.nx σ H:=rfl
theorem Bq_:tAsg te g D σ H=te σ H fun x H1=>g x σ H1 D.nx:=rfl
theorem Vh  : Mb i v σ H N=N (σ.set i (some v)) H:=rfl
theorem Br_:tVar i σ H Q=∃v,σ[i]?=some (some v)/\Q v H:=rfl
theorem r_c:tC v σ H Q=Q v H:=rfl
theorem r_op:tOp r ta tb σ H Q=ta σ H fun x H1=>tb σ H1 fun y H2=>r x y H2 Q:=rfl
theorem r_un  : tUn f ta σ H Q=ta σ H fun x H1=>f x H1 Q:=rfl
theorem r_I    : rI C f x y H Q=∃i j,x=.int i/\y=.int j/\C i j/\Q (f i j) H:=rfl
theorem r_I0   : rI0 f x y H Q=∃i j,x=.int i/\y=.int j/\Q (f i j) H:=rfl
theorem r_U   : rU f x H Q=∃i,x=.int i/\Q (f i) H:=rfl
theorem Ys    : Ba_ sp fJ E A σ H Q=A σ H fun vs H1=>sp (vs++fJ) H1 Q E:=rfl
theorem Yt:AZ_ te A σ H S=te σ H fun x H1=>A σ H1 fun xs H2=>S (x::xs) H2:=rfl
theorem Bs_:tNil σ H S=S [] H:=rfl
theorem Bt_:tRet te D σ H=te σ H D.rt:=rfl
theorem Yu:AR_ te D σ H=te σ H fun _ H1=>D.nx σ H1:=rfl
theorem r_if:tIfS tt t u D σ H=tt σ H fun b H1=>if b=true then t D σ H1 else u D σ H1:=rfl
theorem r_B:tB te σ H R=te σ H fun x H1=>∃c,x=.bl c/\R c H1:=rfl
theorem Yv:WN te σ H R=te σ H fun x H1=>∃c,x=.bl c/\R c H1:=rfl
theorem Bu_:tAnd tt tu σ H R=tt σ H fun c H1=>if c=true then tu σ H1 R else R false H1:=rfl
theorem r_or:tOr tt tu σ H R=tt σ H fun c H1=>if c=true then R true H1 else tu σ H1 R:=rfl
theorem Bv_:tNot tt σ H R=tt σ H fun c H1=>R (!c) H1:=rfl
theorem Yw:AN_ ta tb σ H Q=ta σ H fun x H1=>∃c,x=.bl c/\if c=true then tb σ H1 Q else Q (.bl false) H1:=rfl
theorem Vi:Yj r r' ta tb tc' σ H Q=ta σ H fun x H1=>tb σ H1 fun y H2=>r x y H2 fun z H3=>∃k,z=.bl k/\(if k=true then tc' σ H3 fun w' H4=>r' y w' H4 Q else Q (.bl false) H3):=rfl
theorem r_CB  : tCB f A σ H Q=A σ H fun vs H1=>f vs H1 Q:=rfl
theorem Bw_:tLst A σ H Q=A σ H fun xs H1=>xs.length<=sizeLine/\∀p,H1 p=none->Q (.ref p) (upd H1 p (.lst xs)):=rfl
theorem Bx_:tTup A σ H Q=A σ H fun xs H1=>xs.length<=sizeLine/\∀p,H1 p=none->Q (.ref p) (upd H1 p (.tup xs)):=rfl
theorem By_  : rIxL K x y H Q=∃p xs i v,x=.ref p/\y=.int i/\SqL K H p xs/\atI xs i=some v/\Q v H:=rfl
theorem Bz_  : rIxT K x y H Q=∃p xs i v,x=.ref p/\y=.int i/\SqT K H p xs/\atI xs i=some v/\Q v H:=rfl
theorem r_sl   : tSl f te tl th σ H Q=te σ H fun x H1=>tl σ H1 fun l H2=>th σ H2 fun u H3=>f x l u H3 Q:=rfl
theorem Yx  : Bd_ te σ H U=te σ H fun x H1=>∃i,x=.int i/\U (some i) H1:=rfl
theorem R9  : US σ H U=U none H:=rfl
theorem r_BM   : tBM K T f te A σ H Q=te σ H fun x H1=>tyV K T x H1/\A σ H1 fun xs H2=>f x xs H2 Q:=rfl
theorem BA_   : tBM0 K T f te σ H Q=te σ H fun x H1=>tyV K T x H1/\f x [] H1 Q:=rfl
theorem Sa   : UY x vs H Q=∃l xs y,x=.ref l/\vs=[y]/\H l=some (.lst xs)/\xs.length<sizeLine/\Q .non (upd H l (.lst (xs++[y]))):=rfl
theorem Yy    : gSub to ti ts v σ H N=to σ H fun o H1=>ti σ H1 fun i H2=>ts o i v H2 fun H3=>N σ H3:=rfl
theorem Yz   : Bg_ o k v H N=∃p xs m j,o=.ref p/\k=.int m/\H p=some (.lst xs)/\ixN xs.length m=some j/\N (upd H p (.lst (xs.set j v))):=rfl
theorem r_Eq  : rEq x y H Q=(scal x y=true/\Q (.bl (decide (x=y))) H):=rfl
theorem BB_   : rEqD K n x y H Q=∃a c b,x=.ref a/\y=.ref c/\EqD K H n x y b/\Q (.bl b) H:=rfl
theorem Vj  : AU_ K te σ H Z=te σ H fun x H1=>∃a,x=.ref a/\(∃xs,SqL K H1 a xs)/\Z (Itl K a) H1:=rfl
theorem YA  : iTup K te σ H Z=te σ H fun x H1=>∃a,x=.ref a/\(∃xs,SqT K H1 a xs)/\Z (Itt K a) H1:=rfl
theorem Vk  : AV_ A σ H Z=A σ H fun vs H1=>∃j:Int,vs=[.int j] /\ -(2 ^ 62)<=j/\j<2 ^ 62/\Z (Itr 0 j.toNat) H1:=rfl
theorem BC_  : tAug i te ti D σ H=∃x,σ[i]?=some (some x)/\te σ H fun y H1=>ti x y H1 fun z H2=>D.nx (σ.set i (some z)) H2:=rfl
theorem r_ip   : ipI f x y H Q=∃i j,x=.int i/\y=.int j/\Q (.int (f i j)) H:=rfl
theorem YB:Vd σ H R=R true H:=rfl
end
theorem Same.new    (h:H p=none):Same H (upd H p o):=fun b u e=>by rw[Ah (Al e h)];exact e
theorem Same.newT    (s:Same H H')(h:H' p=none):Same H (upd H' p o):=s.trans (Same.new h)
theorem Same.over    (s:Same H H')(h:H p=none):Same H (upd H' p o):=fun b u e=>by rw[Ah (Al e h)];exact s b u e
theorem AM    (h:upd H p o D=none):H D=none/\D≠p:=by
 by_cases e:D=p
 ·subst e;rw[Ab]at h;cases h
 ·rw[Ah e]at h;exact⟨h,e⟩
theorem Same.seqT {K:PySem.W.Frag}    (e:Same H H')(h:SqT K H a xs):SqT K H' a xs:=by
 rcases h with (h|⟨o,h⟩)|h
 ·exact .inl (.inl (e _ _ h))
 ·exact .inl (.inr ⟨o,e _ _ h⟩)
 ·exact .inr h
theorem hu9   (hr:Room k A):A.units+8<cLine:=by have:=hr.units;lia
section
variable {K:PySem.W.Frag} {wi:TI} {cp:Caps} {g:TG} {tc:TT} {te:TE} {σ:St} {H:Hp} {Q:VK}
theorem BD_               : (cxOf CX P w K mg base N qual scope f cd A outer s H E).K=K:=rfl
noncomputable def QJ (J:It)(cp:Caps)(g:TG)(tc:TT)(te:TE)(σ:St)(H1:Hp)(Q:VK):Prop:=∃W:Nat->Nat->List V->St->Hp->Prop,(∃m,W 0 m [] (cp.st σ) H1)/\∀i m ys ah H',W i m ys ah H' ->
 ys.length<sizeLine/\((J.stop i H'/\∀D,H' D=none->Q (.ref D) (upd H' D (.lst ys)))\/(J.go i H'/\∃N:List V->St->Hp->Prop,(∀zs aj H2,N zs aj H2->∃m',m'<m/\W (i+1) m' zs aj H2)/\∀x H2,J.yld i H' x H2->g x ah H2 fun aj H3=>tc aj H3 fun b H4=>
  if b=true then te aj H4 fun v H5=>N (ys++[v]) aj H5 else N ys aj H4))
theorem YC:ZK wi cp g tc te σ H Q=wi σ H fun J H1=>QJ J cp g tc te σ H1 Q:=rfl
noncomputable def ForW (J:It)(g:TG)(tb:TS)(D:Ends)(σ:St)(H1:Hp):Prop:=∃W:Nat->Nat->St->Hp->Prop,(∃m,W 0 m σ H1)/\∀i m σ H,W i m σ H ->
 (J.stop i H/\D.nx σ H)\/(J.go i H/\∃N:St->Hp->Prop,(∀ah H',N ah H'->∃m',m'<m/\W (i+1) m' ah H')/\∀x H',J.yld i H x H'->g x σ H' fun aj H2=>tb {D with nx:=N,ct:=N,bk:=D.nx} aj H2)
theorem BE_   : tFor wi g tb D σ H=wi σ H fun J H1=>ForW J g tb D σ H1:=rfl
theorem forL        (Pv:Nat->St->Hp->Prop)(h0:Pv 0 σ H)(hl:∀i σ H,i<=xs.length->Pv i σ H->SqL K H a xs)
  (hs:∀i x σ H,xs[i]?=some x->Pv i σ H->g x σ H fun aj H2=>tb {D with nx:=Pv (i+1),ct:=Pv (i+1),bk:=D.nx} aj H2) (hd:∀σ H,Pv xs.length σ H->D.nx σ H):ForW (Itl K a) g tb D σ H:=WM Pv h0 hl hs hd
theorem forT        (Pv:Nat->St->Hp->Prop)(h0:Pv 0 σ H)(hl:∀i σ H,i<=xs.length->Pv i σ H->SqT K H a xs)
  (hs:∀i x σ H,xs[i]?=some x->Pv i σ H->g x σ H fun aj H2=>tb {D with nx:=Pv (i+1),ct:=Pv (i+1),bk:=D.nx} aj H2) (hd:∀σ H,Pv xs.length σ H->D.nx σ H):ForW (Itt K a) g tb D σ H:=Zt Pv h0 hl hs hd
theorem forR {lo:Int}       (Pv:Nat->St->Hp->Prop)(h0:Pv 0 σ H)
  (hs:∀i σ H,i<n->Pv i σ H->g (.int (lo+i)) σ H fun aj H2=>tb {D with nx:=Pv (i+1),ct:=Pv (i+1),bk:=D.nx} aj H2) (hd:∀σ H,Pv n σ H->D.nx σ H):ForW (Itr lo n) g tb D σ H:=UO Pv h0 hs hd
theorem QK   (Pv:Nat->List V->St->Hp->Prop)(h0:Pv 0 [] (cp.st σ) H)(hz:xs.length<sizeLine)
  (hl:∀i ys σ H,i<=xs.length->Pv i ys σ H->SqL K H a xs/\ys.length<=i)
  (hs:∀i x ys σ H,xs[i]?=some x->Pv i ys σ H->g x σ H fun aj H2=>tc aj H2 fun b H3=>if b=true then te aj H3 fun v H4=>Pv (i+1) (ys++[v]) aj H4 else Pv (i+1) ys aj H3)
  (hd:∀ys σ H,Pv xs.length ys σ H->∀D,H D=none->Q (.ref D) (upd H D (.lst ys))):QJ (Itl K a) cp g tc te σ H Q:=Ve Pv h0 hz hl hs hd
theorem ZL   (Pv:Nat->List V->St->Hp->Prop)(h0:Pv 0 [] (cp.st σ) H)(hz:xs.length<sizeLine)
  (hl:∀i ys σ H,i<=xs.length->Pv i ys σ H->SqT K H a xs/\ys.length<=i)
  (hs:∀i x ys σ H,xs[i]?=some x->Pv i ys σ H->g x σ H fun aj H2=>tc aj H2 fun b H3=>if b=true then te aj H3 fun v H4=>Pv (i+1) (ys++[v]) aj H4 else Pv (i+1) ys aj H3)
  (hd:∀ys σ H,Pv xs.length ys σ H->∀D,H D=none->Q (.ref D) (upd H D (.lst ys))):QJ (Itt K a) cp g tc te σ H Q:=W0 Pv h0 hz hl hs hd
theorem Vl {lo:Int}  (Pv:Nat->List V->St->Hp->Prop)(h0:Pv 0 [] (cp.st σ) H)(hz:n<sizeLine)
  (hl:∀i ys σ H,i<=n->Pv i ys σ H->ys.length<=i)
  (hs:∀i ys σ H,i<n->Pv i ys σ H->g (.int (lo+i)) σ H fun aj H2=>tc aj H2 fun b H3=>if b=true then te aj H3 fun v H4=>Pv (i+1) (ys++[v]) aj H4 else Pv (i+1) ys aj H3)
  (hd:∀ys σ H,Pv n ys σ H->∀D,H D=none->Q (.ref D) (upd H D (.lst ys))):QJ (Itr lo n) cp g tc te σ H Q:=S9 Pv h0 hz hl hs hd
theorem GO    (f:V->V)(e:cp.st σ=none::ah)(hl:SqT K H a xs)(hz:xs.length<sizeLine)(hs:∀x∈xs,∀R:VK,R (f x) H->te (some x::ah) H R)(hd:∀D,H D=none->Q (.ref D) (upd H D (.lst (xs.map f)))):
  QJ (Itt K a) cp (Mb 0) Vd te σ H Q:=by
 refine ZL (xs:=xs) (fun i ys aj H2=>H2=H/\ys=(xs.take i).map f/\∃o,aj=o::ah) ⟨rfl,by simp,none,e⟩ hz (fun i ys aj H2 hi h=>?_) (fun i x ys aj H2 hx h=>?_) (fun ys aj H2 h=>?_)
 ·obtain⟨rfl,rfl,_⟩:=h
  exact⟨hl,by rw[List.length_map,List.length_take];lia⟩
 ·obtain⟨rfl,rfl,o,rfl⟩:=h
  refine hs x (List.mem_of_getElem? hx) _ ⟨rfl,?_,some x,rfl⟩
  rw[List.take_add_one,hx];simp
 ·obtain⟨rfl,rfl,_⟩:=h
  rw[List.take_length]
  exact hd
theorem HW    (f:V->V)(e:cp.st σ=none::ah)(hl:SqL K H a xs)(hz:xs.length<sizeLine)(hs:∀x∈xs,∀R:VK,R (f x) H->te (some x::ah) H R)(hd:∀D,H D=none->Q (.ref D) (upd H D (.lst (xs.map f)))):
  QJ (Itl K a) cp (Mb 0) Vd te σ H Q:=by
 refine QK (xs:=xs) (fun i ys aj H2=>H2=H/\ys=(xs.take i).map f/\∃o,aj=o::ah) ⟨rfl,by simp,none,e⟩ hz (fun i ys aj H2 hi h=>?_) (fun i x ys aj H2 hx h=>?_) (fun ys aj H2 h=>?_)
 ·obtain⟨rfl,rfl,_⟩:=h
  exact⟨hl,by rw[List.length_map,List.length_take];lia⟩
 ·obtain⟨rfl,rfl,o,rfl⟩:=h
  refine hs x (List.mem_of_getElem? hx) _ ⟨rfl,?_,some x,rfl⟩
  rw[List.take_add_one,hx];simp
 ·obtain⟨rfl,rfl,_⟩:=h
  rw[List.take_length]
  exact hd
end
noncomputable def tCut (t u:TS):TS:=fun D σ H=>∃R:St->Hp->Prop,t {D with nx:=R} σ H/\∀ah H',R ah H'->u D ah H'
theorem DQ  {st:Stmt}{rest:List Stmt}  (h1:PS X st t)(h2:PSs X rest u):PSs X (st::rest) (tCut t u):=by
 intro af s σ H D I h
 obtain⟨R,ha,hb⟩:=h
 refine wpAny_execs_cons (thn (h1 af s σ H {D with nx:=R} I ha) fun f s1 q=>?_)
 cases f with
 |next=>
  obtain⟨ah,H',I',q⟩:=q
  exact h2 af s1 ah H' D I' (hb ah H' q)
 |ret v=>exact q
 |brk=>exact q
 |cont=>exact q
theorem AA:1000000<sizeLine:=by rw[sizeLine_eq];decide
theorem EA {ns:List Int}{x:V}(h:x∈ns.map V.int):∃n,n∈ns/\x=.int n:=by
 obtain⟨n,hn,e⟩:=List.mem_map.mp h
 exact⟨n,hn,e.symm⟩
theorem DD {ns:List Int}{i:Nat}{x:V}(h:(ns.map V.int)[i]?=some x):∃n,ns[i]?=some n/\x=.int n:=by
 rw[List.getElem?_map]at h
 cases e:ns[i]? with
 |none=>rw[e]at h;cases h
 |some n=>rw[e]at h;exact⟨n,rfl,(Option.some.inj h).symm⟩
noncomputable def cutI (ns:List Int)(lo hi:Option Int):List Int:=(ns.drop (HT.sIx ns.length 0 lo)).take (HT.sIx ns.length ns.length hi-HT.sIx ns.length 0 lo)
theorem W3 (ns:List Int)(lo hi:Option Int):cutV (ns.map V.int) lo hi=(cutI ns lo hi).map V.int:=by
 unfold cutV cutI
 rw[List.length_map,<-List.map_drop,<-List.map_take]
theorem BF_ {n:Nat}{i:Int}(h0:0<=i)(h1:i<n):ixN n i=some i.toNat:=by
 unfold ixN;rw[if_pos h0,if_pos h1]
theorem Ed     (h0:0<=i)(h:xs[i.toNat]?=some v):atI xs i=some v:=by
 have:=Gb h
 rwa [show ((i.toNat:Nat):Int)=i by lia]at this
end L2
namespace L2
open PySem PySem.W PySem.Spec PySem.Calls PyProof.Rows
section
variable {prog:Program} {w:World} {A:Around} {E:Value->Shared->Prop} {s:Shared} {K:Frag} {x D:Addr} {ox:Obj}
structure ExcCls (K:Frag)(D:Addr):Prop where
 ga:findIn K (.ref D) "__getattribute__"=some (some (.builtin "BaseException.__getattribute__"))
 hk:findIn K (.ref D) "__getattr__"=some none
 cl:(clsIn K D).isSome=true
 ca:findIn K (.ref D) "__class__"=some (some (.builtin "object.__class__"))
 gs:specialIn K (.builtin "object.__class__") "__get__"=some (some (.builtin "getset_descriptor.__get__"))
 tk:takesIn K (.builtin "object.__class__")=some true
 mo:mroIn K D (.type "object")=some true
 mb:mroIn K D (.type "BaseException")=some true
end
section
variable {P:Program} {w:World}
theorem Cz.there     (x:Cz P w H h a o):∃ob,h.get? a=some ob:=by
 induction o with
 |lst xs=>obtain⟨_,_,_,_,e⟩:=x;exact⟨_,e⟩
 |tup xs=>obtain⟨_,_,_,ob,e,_⟩:=x;exact⟨_,e⟩
 |dK kvs=>obtain⟨_,_,_,_,o,_,_,e,_⟩:=x;exact⟨_,e⟩
 |dT kvs=>obtain⟨_,_,_,_,o,_,_,e,_⟩:=x;exact⟨_,e⟩
 |set S n=>obtain⟨o,_,_,_,e,_⟩:=x;exact⟨_,e⟩
 |ins C dx fs=>obtain⟨_,_,_,e,_⟩:=x;exact⟨_,e⟩
 |own y=>obtain⟨_,e⟩:=x;exact⟨_,e⟩
 |xd fs=>obtain⟨_,⟨_,_,_,e,_⟩,_⟩:=x;exact⟨_,e⟩
 |rng lo hi=>obtain⟨_,_,_,e⟩:=x;exact⟨_,e⟩
 |frz ob u ih=>obtain⟨e,_⟩:=x;exact⟨_,e⟩
 |tbl ps=>exact⟨_,(show h.get? a=some _ from x)⟩
 |met f y=>exact⟨_,(show h.get? a=some _ from x)⟩
 |ext φ=>obtain⟨_,⟨_,e⟩,_⟩:=x;exact⟨_,e⟩
structure Fly (P:Program)(w:World)(fs:List Addr)(H1 H':Hp)(h1 g B:Heap):Prop where
 un:Un fs [] H1 H' h1 g
 hok:HOk P w H' g
 cov:∀b o,g.get? b=some o->(H' b≠none \/ ∃o',h1.get? b=some o')->b∉fs->B.get? b=some o
theorem Fly.move  {H1 H':Hp}{h1 g B h2:Heap}(x:Fly P w fs H1 H' h1 g B)(frees:∀b∈fs,H' b=none)(st:B.StaysIn h2)(up:∀b∈fs,∀o,g.get? b=some o->∃sl,h2.get? b=some {o with slots:=sl}):Fly P w fs H1 H' h1 h2 B:=by
 have keep:∀b o,g.get? b=some o->(H' b≠none \/ ∃o',h1.get? b=some o')->b∉fs->h2.get? b=some o:=fun b o e h n=>st b o (x.cov b o e h n)
 have lC:∀b u,H' b=some u->b∉fs:=fun b u e z=>by rw[frees b z]at e;cases e
 refine⟨⟨fun b o e n hb hx=>?_,fun b o e n hb hx=>?_,fun b o e n hx=>x.un.free b o e n hx,fun b o e hx=>?_,x.un.tups,x.un.frzs,x.un.tbls⟩,fun b u e=>?_,fun b o e h n=>?_⟩
 ·exact keep b o (x.un.keep b o e n hb hx) (.inr ⟨o,e⟩) hb
 ·obtain⟨sl,e1⟩:=x.un.slot b o e n hb hx
  obtain⟨j0,e2⟩:=up b hb _ e1
  exact⟨j0,e2⟩
 ·obtain⟨o',e1⟩:=x.un.there b o e hx
  by_cases hb:b∈fs
  ·obtain⟨j0,e2⟩:=up b hb _ e1
   exact⟨_,e2⟩
  ·exact⟨o',keep b o' e1 (.inr ⟨o,e⟩) hb⟩
 ·refine (x.hok b u e).stay (fun c v hc q=>?_) (fun _ q=>q) fun _ _ q=>q
  rcases hc with rfl|hc
  ·exact keep c v q (.inl (by rw[e];simp)) (lC c u e)
  ·exact keep c v q (.inl (by rw[hc];simp)) (lC c _ hc)
 ·-- B has it still
  have ⟨o1,e1⟩:∃o1,g.get? b=some o1:=by
   rcases h with h|⟨o',h⟩
   ·cases q:H' b with
    |none=>exact absurd q h
    |some u=>exact (x.hok b u q).there
   ·exact x.un.there b o' h (by simp)
  have e2:=x.cov b o1 e1 h n
  have e3:=st b o1 e2
  rw[e]at e3
  cases e3
  exact e2
noncomputable def CXe (P:Program)(w:World):CXT:=fun outer H s E e s'=>∃(ea:Addr) (cls a0:Value) (H':Hp) (B:Heap),e=.ref ea/\s'.os=s.os/\AllBare s'.gens/\Fly P w (frs outer) H H' s.heap s'.heap B/\Heap.FlyingW B outer ea cls a0 s'.heap/\E cls none H'
theorem Pf    {H1 H':Hp}  {g B:Heap}(I:Inv X af σ H1 s1)(x:Fly P w (frs X.stack) H1 H' s1.heap g B):∀b∈frs X.stack,H' b=none:=fun b hb=>by
 obtain⟨_,o,ho,_⟩:=I.stack.mem hb
 exact x.un.free b o ho (I.stkFree b hb) (by simp)
theorem ZM {K:PySem.W.Frag}             (hE:∀c d H',E' c d H'->E c d H'):
  O0 (CXe P w) (cxOf (CXe P w) P w K mg base N qual scope f cd A outer s H E) E':=by
 intro af σ H1 s1 e s' I hc
 obtain⟨ea,cls,a0,H',B,rfl,os,bare,fl,fw,q⟩:=hc
 have fr:(cxOf (CXe P w) P w K mg base N qual scope f cd A outer s H E).A.frames=some (envOfC qual scope s.heap.objs.size f cd::outer):=I.ok.frames
 refine wpAny_leaves_onW fr rfl fw fun h' j9 ups=>?_
 have iq:=fl.move (Pf I fl) j9.1 (fun b hb o e=>by
  obtain⟨_,o',cO,nf⟩:=fw.2.2.1.mem hb
  rw[e]at cO;cases cO
  exact ups b o e nf)
 have I2:Inv (cxOf (CXe P w) P w K mg base N qual scope f cd A outer s H E) af σ H' {s' with heap:=h' }:=I.call' (s':={s' with heap:=h' }) os iq.un iq.hok bare (fun b hb=>by cases hb)
 refine⟨ea,cls,a0,H',B,rfl,I2.os,I2.bare,⟨I2.base,I2.hok,fun b o e h n=>iq.cov b o e ?_ (fun z=>?_)⟩,j9,hE _ _ _ q⟩
 ·rcases h with h|⟨o',h⟩
  ·exact .inl h
  ·obtain⟨o2,e2⟩:=I.base.there b o' h (by show b∉([]:List Addr);simp)
   exact .inr ⟨o2,e2⟩
 ·rcases List.mem_cons.mp (I.stkSub b z) with e' | e'
  ·rcases h with h|⟨o',h⟩
   ·exact h (by rw[e'];exact I2.free)
   ·have:=Heap.lt_size h
    rw[e']at this
    exact absurd (Nat.lt_of_lt_of_le this I.ok.above) (Nat.lt_irrefl _)
  ·exact n e'
theorem BG_ {K:PySem.W.Frag}
   {H1:Hp}
  (I:Inv (cxOf (CXe P w) P w K mg base N qual scope f cd A outer s H E) af σ H1 s1) (hx:Heap.MadeExcOf s1.heap h' ea cls vs) (q:E cls none H1):
  (cxOf (CXe P w) P w K mg base N qual scope f cd A outer s H E).xe (.ref ea) {s1 with heap:=h' }:=by
 have fr:(cxOf (CXe P w) P w K mg base N qual scope f cd A outer s H E).A.frames=some (envOfC qual scope s.heap.objs.size f cd::outer):=I.ok.frames
 have bC:∀env∈(envOfC qual scope s.heap.objs.size f cd::outer),∀b,env.frame=some b->b∈frs (envOfC qual scope s.heap.objs.size f cd::outer):=fun env he b hb=>List.mem_filterMap.mpr ⟨env,he,hb⟩
 have stk:=I.stack
 have fl:Fly P w (frs (envOfC qual scope s.heap.objs.size f cd::outer)) H1 H1 s1.heap s1.heap (PySem.W.hideAll s1.heap (frs (envOfC qual scope s.heap.objs.size f cd::outer))):=⟨Un.refl,I.hok,fun b o e _ n=>PySem.W.hideAll_get _ e n⟩
 refine wpAny_leaves_madeW (base:=PySem.W.hideAll s1.heap (frs (envOfC qual scope s.heap.objs.size f cd::outer))) (h:=s1.heap) fr rfl (fun b o q=>PySem.W.of_hideAll _ q) ?_ hx fun h'' t j9 ht hnt ups=>?_
 ·exact PySem.W.funFrames_hide stk bC
 ·have iq:=fl.move (Pf (X:=cxOf (CXe P w) P w K mg base N qual scope f cd A outer s H E) I fl) j9.1 (fun b hb o e=>by
   obtain⟨_,o',cO,nf⟩:=stk.mem hb
   rw[e]at cO;cases cO
   exact ups b o (hx.keeps b o e) nf)
  have I2:Inv (cxOf (CXe P w) P w K mg base N qual scope f cd A outer s H E) af σ H1 {s1 with heap:=h'' }:=I.call' (s':={s1 with heap:=h'' }) rfl iq.un iq.hok I.bare (fun b hb=>by cases hb)
  refine⟨ea,cls,.ref t,H1,_,rfl,I2.os,I2.bare,⟨I2.base,I2.hok,fun b o e h n=>iq.cov b o e ?_ (fun z=>?_)⟩,j9,q⟩
  ·rcases h with h|⟨o',h⟩
   ·exact .inl h
   ·obtain⟨o2,e2⟩:=I.base.there b o' h (by show b∉([]:List Addr);simp)
    exact .inr ⟨o2,e2⟩
  ·rcases List.mem_cons.mp (I.stkSub b z) with e' | e'
   ·rcases h with h|⟨o',h⟩
    ·exact h (by rw[e'];exact I2.free)
    ·have:=Heap.lt_size h
     rw[e']at this
     exact absurd (Nat.lt_of_lt_of_le this I.ok.above) (Nat.lt_irrefl _)
   ·exact n e'
end
theorem ZN {K:Frag}     (X:K.In h)(q:excIn K C bmB eV=true):
  ∃bm N nm q bs hdct sn sub ab col dd k0 k1 k2 k3 k5 mN,h.get? C=some (excClassObj nm q C N bs bm hdct sn sub ab col dd k0 k1 k2 k3 k5 eV)/\h.Ns N mN/\mN "__init__"=none/\OwnTail h bmB bm:=by
 unfold excIn at q
 split at q
 case h_2=>cases q
 rename_i d0 c0 s0 hl
 split at q
 case h_2=>cases q
 rename_i B tl a0 a1 a2 a3 id0 a5 em es
 have g:=X C _ hl
 repeat rw[Bool.and_eq_true]at q
 rcases q with ⟨⟨⟨⟨⟨e1,e2⟩,e3⟩,e4⟩,e5⟩,e6⟩
 cases eq_of_beq e1
 cases eq_of_beq e2
 rcases s0 with ⟨l0⟩
 cases es
 rcases c0 with ⟨f0,f1,f2,f3,f4,f5,f6,f7,f8,f9,f10⟩
 cases em
 cases f10
 ·exact⟨tl,f3,f0,f4,f1,f5,f6,f7,f8,f9,d0,a0,a1,a2,a3,a5,h.nsMap f3,g,.of_isNs (isNs_of_in X e5),nsMap_none_of_in X e5 (eq_of_beq e6),tail_of_in X e4⟩
 ·cases e3
def bmV:List Value:=[.type "ValueError",.type "Exception",.type "BaseException",.type "object"]
section
variable {P:Program} {w:World} {K:PySem.W.Frag} {mg:Str->Option Value} {base:Heap} {N:List Str} {qual:Str} {scope:Scope} {f:Addr} {cd:Value} {A:Around} {outer:List Env} {s:Shared} {H:Hp} {E:XK}
noncomputable def YD (C:Addr)(E:XK)(ta:TA):TS:=fun _ σ H=>ta σ H fun vs H1=>vs.length<=sizeLine/\E (.ref C) none H1
theorem W4      {rest:List Expr}  (hm:mg x=some (.ref C))(hx:excIn K C bmV eV=true)(hg:Gl (cxOf (CXe P w) P w K mg base N qual scope f cd A outer s H E) x)
  (hn:eV = "ValueError.__new__") (ha:PA (cxOf (CXe P w) P w K mg base N qual scope f cd A outer s H E) (ir::rest) ta)
  (he:starEach (ir::rest) (cxOf (CXe P w) P w K mg base N qual scope f cd A outer s H E).env=(false,eval ir (cxOf (CXe P w) P w K mg base N qual scope f cd A outer s H E).env)::starEach rest (cxOf (CXe P w) P w K mg base N qual scope f cd A outer s H E).env:=by rfl)
  (bB:(backTo aC (starEach rest (cxOf (CXe P w) P w K mg base N qual scope f cd A outer s H E).env)).any (·.1)=false:=by rfl) (hd:(x==("__debug__" : Str))=false:=by decide):
  PS (cxOf (CXe P w) P w K mg base N qual scope f cd A outer s H E) (.Raise (some (.Call (.Name x np) (ir::rest) [] aC)) none pos) (YD C E ta):=by
 intro af s1 σ H1 D I h
 subst hn
 obtain⟨bm,Nc,nm,q,bs,hdct,sn,sub,ab,col,dd,k0,k1,k2,k3,k5,mN,hC,hN,mT,T⟩:=ZN I.mod.kin hx
 refine wpAny_Raise_call_subU (C:=C) (nm:=nm) (q:=q) (N:=Nc) (bs:=bs) (bm:=bm) (hdct:=hdct) (sn:=sn) (sub:=sub) (ab:=ab) (col:=col) (dd:=dd) (k0:=k0) (k1:=k1) (k2:=k2) (k3:=k3) (k5:=k5)
  PySem.F.excBase_ValueError (bmB:=bmV) (by decide +kernel) PySem.F.excBase_ValueError (mN:=mN) (T.hasType PySem.F.excBase_ValueError.hasBase) (I.ok.hd rfl) (by rw[he];show (false||(backTo aC (starEach rest _)).any (·.1))=false;rw[bB];rfl) mT (UH I hg hm ⟨rfl,?_⟩ hd)
 have hA:=ha aC af s1 σ H1 _ I h
 rw[he]at hA ⊢
 refine Calls.evalArgs_plain (thn hA fun us s2 ⟨vs,H2,I2,r2,hz,q2⟩=>⟨rfl,by rw[<-r2.length];exact hz,I2.bk _ _ hC,hN.keeps I2.bk,T.keeps I2.bk,fun h' e hm=>BG_ I2 hm q2⟩)
end
end L2
namespace HT
open PySem PySem.Spec PyProof.Rows
open PySem.AutoSeq1 (wpAny_loadPart')
section
open PySem.SeqAt PySem.MeetsSeq PySem.MeetsSeq2 PySem.MeetsSeq3
theorem int_rmul_tup (a:Int)(t:Tok)(l:Addr)(items:Array Value)(n:Nat)(dd:Option Addr)(sl:Array (Option Value)):
  Meets (Builtin.«int.__rmul__» ⟨[.int a t,.ref l],[]⟩) (fun _ R s=>s.heap.get? l=some {cls:=.type "tuple",dict:=dd,data:=.seq items n,slots:=sl}/\R (.ok (.ret Value.notImplemented)) s):=
 .of_wp fun prog w A R s h=>by obtain⟨hp,g,d,tk,os⟩:=s;obtain⟨hl,h⟩:=h;wp_walk using wpAny_loadPart' hl;exact⟨_,rfl,h⟩
theorem noFill_tuple_mul:fillsNumberSlot (.type "tuple") "mul"=pure false:=by
 first|exact fillsNumberSlot_false (by decide +kernel)|(unfold fillsNumberSlot;kernel_rfl)|kernel_rfl
theorem repeat_tuple:seqRepeat? (.type "tuple")=pure (some (.builtin "tuple.__mul__")):=by
 unfold seqRepeat?
 rw[PySem.seqSlot_of (T := "tuple") (name := "__mul__") (id := "tuple.__mul__") F.slot_tuple_mul.lookup (by decide +kernel),PySem.seqSlot_of (T := "tuple") (name := "__rmul__") (id := "tuple.__rmul__") F.slot_tuple_rmul.lookup (by decide +kernel)]
 rfl
theorem tup_mul_one (l:Addr)(items:Array Value)(n:Nat)(dd:Option Addr)(sl:Array (Option Value))(u:Tok):
  Meets (Builtin.«tuple.__mul__» ⟨[.ref l,.int 1 u],[]⟩) (fun _ R s=>s.heap.get? l=some {cls:=.type "tuple",dict:=dd,data:=.seq items n,slots:=sl}/\R (.ok (.ret (Value.ref l))) s):=
 .of_wp fun prog w A R s h=>by
  obtain⟨hp,g,d,tk,os⟩:=s;obtain⟨hl,h⟩:=h
  have f1:=AutoSeq1.idx_int
  unfold Builtin.«tuple.__mul__»
  wp_walk using wpAny_loadPart' hl
  exact⟨_,rfl,h⟩
theorem tup_mul_none (l:Addr)(items:Array Value)(n:Nat)(dd:Option Addr)(sl:Array (Option Value))(x:Int)(u:Tok)(h0:¬ items.isEmpty=true)(h1:x<=0)(h2 : -(2 ^ 63)<=x):
  Meets (Builtin.«tuple.__mul__» ⟨[.ref l,.int x u],[]⟩) (fun _ R s=>s.heap.get? l=some {cls:=.type "tuple",dict:=dd,data:=.seq items n,slots:=sl}/\R (.ok (.ret (Value.ref s.heap.objs.size))) {s with heap:=s.heap.push {cls:=.type "tuple",data:=.seq #[]} }):=
 .of_wp fun prog w A R s h=>by
  obtain⟨hp,g,d,tk,os⟩:=s;obtain⟨hl,h⟩:=h
  have f1:=AutoSeq1.idx_int
  have c1:(decide (x < -(2 ^ 63:Int))||decide (x >= 2 ^ 63))=false:=by simp;lia
  have c2:(items.isEmpty||x==1)=false:=by simp at h0 ⊢;exact⟨h0,by lia⟩
  have c3:(decide (x<=0)||items.isEmpty)=true:=by simp[h1]
  unfold Builtin.«tuple.__mul__»
  wp_walk using wpAny_loadPart' hl
  rw[if_neg (by rw[c1];exact Bool.false_ne_true)]
  wp_walk using wpAny_loadPart' hl
  rw[if_neg (by rw[c2];exact Bool.false_ne_true)]
  rw[if_pos c3]
  wp_walk using wpAny_loadPart' hl
  exact⟨_,rfl,h⟩
theorem tup_mul_many (l:Addr)(items:Array Value)(n:Nat)(dd:Option Addr)(sl:Array (Option Value))(x:Int)(u:Tok)(h0:¬ items.isEmpty=true)(h1:1<x)(h2:x<2 ^ 63)(h3:items.size*x.toNat<=sizeLine):
  Meets (Builtin.«tuple.__mul__» ⟨[.ref l,.int x u],[]⟩) (fun _ R s=>s.heap.get? l=some {cls:=.type "tuple",dict:=dd,data:=.seq items n,slots:=sl}/\R (.ok (.ret (Value.ref s.heap.objs.size))) {s with heap:=s.heap.push {cls:=.type "tuple",data:=.seq ((List.replicate x.toNat items).foldl (· ++ ·) #[])} }):=
 .of_wp fun prog w A R s h=>by
  obtain⟨hp,g,d,tk,os⟩:=s;obtain⟨hl,h⟩:=h
  have f1:=AutoSeq1.idx_int
  have hs:sizeLine=16777216:=sizeLine_eq
  have c1:(decide (x < -(2 ^ 63:Int))||decide (x >= 2 ^ 63))=false:=by simp;lia
  have c2:(items.isEmpty||x==1)=false:=by simp at h0 ⊢;exact⟨h0,by lia⟩
  have c3:(decide (x<=0)||items.isEmpty)=false:=by simp at h0 ⊢;exact⟨by lia,h0⟩
  obtain⟨k,rfl⟩:∃k:Nat,x=(k:Int):=⟨x.toNat,by lia⟩
  have c4:¬ ((items.size:Int)*(k:Int) > (2 ^ 63-1) / 8):=by
   rw[Int.toNat_natCast]at h3
   have:((items.size*k:Nat):Int)=(items.size:Int)*(k:Int):=by push_cast;rfl
   lia
  have c5:Builtin.Tuple.tupleTooMany ((items.size:Int)*(k:Int))=false:=by
   unfold Builtin.Tuple.tupleTooMany
   rw[Int.toNat_natCast]at h3
   have:((items.size*k:Nat):Int)=(items.size:Int)*(k:Int):=by push_cast;rfl
   simp
   lia
  unfold Builtin.«tuple.__mul__»
  wp_walk using wpAny_loadPart' hl
  rw[if_neg (by rw[c1];exact Bool.false_ne_true)]
  wp_walk using wpAny_loadPart' hl
  rw[if_neg (by rw[c2];exact Bool.false_ne_true)]
  rw[if_neg (by rw[c3];exact Bool.false_ne_true),if_neg c4,if_neg (by rw[c5];exact Bool.false_ne_true)]
  wp_walk using wpAny_loadPart' hl
  have hz:¬ (List.foldl (fun x1 x2=>x1++x2) #[] (List.replicate ((k:Int)).toNat items)).size > sizeLine:=by
   have:=L2.foldl_rep items.toList k []
   rw[List.nil_append]at this
   have e:items.toList.toArray=items:=by simp
   rw[e]at this
   rw[Int.toNat_natCast,this,List.size_toArray,L2.len_rep]
   rw[Int.toNat_natCast]at h3
   rw[Array.length_toList,Nat.mul_comm]
   lia
  rw[if_neg hz]
  wp_walk using wpAny_loadPart' hl
  exact⟨_,rfl,h⟩
end
end HT
namespace L2
open PySem PySem.Spec PyProof.Rows
section
variable {X:Cx}
noncomputable def Vm (K:PySem.W.Frag):R2:=fun x y H Q=>∃l k xs,x=.ref l/\y=.int k/\SqT K H l xs/\xs ≠ [] /\ -(2 ^ 63)<=k/\k<2 ^ 63/\xs.length*k.toNat<=sizeLine /\
 (k=1->Q (.ref l) H)/\(k≠1->∀p,H p=none->Q (.ref p) (upd H p (.tup (List.replicate k.toNat xs).flatten)))
theorem Vn:OpR X (binaryOp .Mult) (Vm X.K):=by
 intro af s σ H x y v u Q I rx ry h
 obtain⟨l,k,xs,rfl,rfl,hq,aE,h1,h2,hz,q1,q2⟩:=h
 cases rx
 obtain⟨t,rfl⟩:=ry
 obtain⟨its,r,p1,_⟩:=I.tuple hq
 have ak:=r.length
 have hX:¬ its.toArray.isEmpty=true:=by
  intro z
  have:its=[]:=by simpa using z
  exact aE (r.nil_iff.mp this)
 obtain⟨⟨cls,dd,data,sl⟩,ho,hc,n,hd⟩:=id p1
 simp only at hc hd
 subst hc hd
 refine wpAny_binaryOp_repeat_ref (T := "tuple") (U := "int") (by decide) ⟨_,ho,rfl⟩ (fun s'=>typeIs_int s' k t) HT.noFill_tuple_mul F.fills_int_mul F.slot_int_rmul HT.repeat_tuple F.slot_int_index.lookup
  (call_meets F.slot_int_rmul (typeIs_int s k t) F.entry_int_rmul (F.args_int_rmul_2 _ _) (HT.int_rmul_tup k t l its.toArray n dd sl) ⟨ho,rfl,⟨_,ho,rfl⟩,?_⟩)
 by_cases k1:k=1
 ·subst k1
  exact call_meets F.slot_tuple_mul ⟨_,ho,rfl⟩ F.entry_tuple_mul (F.args_tuple_mul_2 _ _) (HT.tup_mul_one l its.toArray n dd sl t) ⟨ho,⟨.ref l,H,I,rfl,q1 rfl⟩⟩
 ·have fin:∀(ys:List Value),Vals (List.replicate k.toNat xs).flatten ys->EP X af σ Q (.ref s.heap.objs.size) {s with heap:=s.heap.push {cls:=.type "tuple",data:=.seq ys.toArray} }:=fun ys rv=>
   ⟨.ref s.heap.objs.size,_,I.laid (t':=s.toks) (o:=.tup (List.replicate k.toNat xs).flatten) (fun b ob q=>Heap.get?_push_of_some _ q) (Nat.le_refl _) ⟨by rw[len_rep,Nat.mul_comm];exact hz,_,rv,IsTup.new _ _⟩,rfl,q2 k1 _ (I.hok.fresh (Nat.le_refl _))⟩
  by_cases k0:k<=0
  ·refine call_meets F.slot_tuple_mul ⟨_,ho,rfl⟩ F.entry_tuple_mul (F.args_tuple_mul_2 _ _) (HT.tup_mul_none l its.toArray n dd sl k t hX k0 h1) ⟨ho,?_⟩
   exact fin [] (by rw[show k.toNat=0 by lia];exact .nil)
  ·refine call_meets F.slot_tuple_mul ⟨_,ho,rfl⟩ F.entry_tuple_mul (F.args_tuple_mul_2 _ _) (HT.tup_mul_many l its.toArray n dd sl k t hX s!"" h2 (by rw[List.size_toArray,<-ak];exact hz)) ⟨ho,?_⟩
   have e:=foldl_rep its k.toNat []
   rw[List.nil_append]at e
   have e':List.foldl (fun x1 x2=>x1++x2) #[] (List.replicate k.toNat its.toArray)=(List.replicate k.toNat its).flatten.toArray:=e
   rw[e']
   exact fin _ (r.rep k.toNat)
noncomputable def Hf (K:PySem.W.Frag):R2:=fun x y H Q=>∃a b xs ys,x=.ref a/\y=.ref b/\SqT K H a xs/\SqT K H b ys/\xs.length+ys.length<=sizeLine /\
 (xs=[]->Q (.ref b) H)/\(xs ≠ []->ys=[]->Q (.ref a) H)/\(xs ≠ []->ys ≠ []->∀p,H p=none->Q (.ref p) (upd H p (.tup (xs++ys))))
theorem GP:OpR X (binaryOp .Add) (Hf X.K):=by
 intro af s σ H x y v u Q I rx ry h
 obtain⟨a,b,xs,ys,rfl,rfl,ha,hb,hz,q0,q1,q2⟩:=h
 by_cases hx:xs=[]
 ·subst hx
  cases rx
  cases ry
  obtain⟨its,r1,p1,_⟩:=I.tuple ha
  obtain⟨az,r2,p2,_⟩:=I.tuple hb
  have:its=[]:=r1.nil_iff.mpr rfl
  subst this
  obtain⟨⟨cls,dd,data,sl⟩,ho,hc,n,hd⟩:=id p1
  obtain⟨⟨cls2,gG,data2,fK⟩,fM,cH,n2,eN⟩:=id p2
  simp only at hc hd cH eN
  subst hc hd cH eN
  exact concat_meets ⟨_,ho,rfl⟩ ⟨_,fM,rfl⟩ noFill_tuple_add seq_tuple_add PySem.F.slot_tuple_add PySem.F.entry_tuple_add (PySem.F.args_tuple_add_2 _ _)
   (PyProof.Rows.tuple_addW0 a b _ _ n n2 dd gG sl fK rfl) ⟨ho,fM,⟨.ref b,H,I,rfl,q0 rfl⟩⟩
 ·exact ZC af s σ H _ _ v u Q I rx ry ⟨a,b,xs,ys,rfl,rfl,ha,hb,hx,hz,q1 hx,q2 hx⟩
end
theorem MN      (Pv:Nat->St->Hp->Prop)(h0:∃m,Pv m σ H)
  (hs:∀m σ H,Pv m σ H->c σ H fun b H1=>if b=true then ∃N:St->Hp->Prop,(∀ah H',N ah H'->∃m',m'<m/\Pv m' ah H')/\tb {D with nx:=N,ct:=N,bk:=D.nx} σ H1 else D.nx σ H1):Yh c tb D σ H:=⟨Pv,h0,hs⟩
theorem BH_ {K:PySem.W.Frag}    {lo hi:Option Int}:rSlT K x lo hi H Q=∃a xs,x=.ref a/\SqT K H a xs /\
 ¬ (HT.sIx xs.length 0 lo=0/\HT.sIx xs.length xs.length hi=xs.length)/\∀p,H p=none->Q (.ref p) (upd H p (.tup (cutV xs lo hi))):=rfl
theorem KG {α:Type}(x:α)(k:Nat):(List.replicate k [x]).flatten=List.replicate k x:=by
 induction k with
 |zero=>rfl
 |succ k ih=>rw[List.replicate_succ,List.flatten_cons,ih,List.replicate_succ];rfl
end L2
namespace GW
noncomputable def Gg (L:Int):List Int->List Int
 |[]=>[0]
 |x::r=>if x=L-1 then 0::Gg L r else (x+1)::r
noncomputable def Gh (L:Int)(w:List Int):List Int:=(Gg L w.reverse).reverse
noncomputable def Dd (L:Int):List Int->Int
 |[]=>0
 |x::r=>Dd L r*L+x+1
noncomputable def AG (L:Int)(w:List Int):Int:=Dd L w.reverse
noncomputable def inW (L x:Int):Bool:=decide (0<=x)&&decide (x<L)
noncomputable def isW (L:Int)(ws:List Int):Bool:=ws.all (inW L)
theorem ZO  : inW L x=true↔0<=x/\x<L:=by simp[inW]
theorem AU   : isW L ws=true ↔ ∀x∈ws,0<=x/\x<L:=by simp[isW,ZO]
theorem Pg (L:Int)(m:Nat)(r:List Int):Gg L (List.replicate m (L-1)++r)=List.replicate m 0++Gg L r:=by
 induction m with
 |zero=>rfl
 |succ m ih=>rw[List.replicate_succ,List.cons_append,Gg,if_pos rfl,ih,List.replicate_succ,List.cons_append]
theorem Vo (L:Int)(a:List Int)(x:Int)(m:Nat)(h:x≠L-1):Gh L (a++[x]++List.replicate m (L-1))=a++[x+1]++List.replicate m 0:=by
 unfold Gh
 rw[List.reverse_append,List.reverse_replicate,List.reverse_append,List.reverse_singleton,Pg]
 show (List.replicate m 0++Gg L (x::a.reverse)).reverse=_
 rw[Gg,if_neg h]
 simp
theorem Vp (L:Int)(m:Nat):Gh L (List.replicate m (L-1))=List.replicate (m+1) 0:=by
 unfold Gh
 have:=Pg L m []
 rw[List.append_nil]at this
 rw[List.reverse_replicate,this]
 show (List.replicate m (0:Int)++[0]).reverse=_
 rw[List.reverse_append,List.reverse_replicate]
 rfl
theorem QL (L:Int)(l:List Int):Dd L (Gg L l)=Dd L l+1:=by
 induction l with
 |nil=>simp[Gg,Dd]
 |cons x r ih=>
  rw[Gg]
  by_cases h:x=L-1
  ·rw[if_pos h,Dd,ih,Dd,h,Int.add_mul];lia
  ·rw[if_neg h,Dd,Dd];lia
theorem Ta (L:Int)(w:List Int):AG L (Gh L w)=AG L w+1:=by
 unfold AG Gh
 rw[List.reverse_reverse,QL]
theorem QM  (hL:0<L)  (h:∀x∈l,0<=x/\x<L):∀x∈Gg L l,0<=x/\x<L:=by
 induction l with
 |nil=>intro x hx;simp[Gg]at hx;subst hx;exact⟨Int.le_refl _,hL⟩
 |cons y r ih=>
  have hy:=h y List.mem_cons_self
  have hr:∀x∈r,0<=x/\x<L:=fun x hx=>h x (List.mem_cons_of_mem _ hx)
  intro x hx
  rw[Gg]at hx
  by_cases e:y=L-1
  ·rw[if_pos e]at hx
   rcases List.mem_cons.mp hx with rfl|hx
   ·exact⟨Int.le_refl _,hL⟩
   ·exact ih hr x hx
  ·rw[if_neg e]at hx
   rcases List.mem_cons.mp hx with rfl|hx
   ·lia
   ·exact hr x hx
theorem QN  (hL:0<L)  (h:isW L w=true):isW L (Gh L w)=true:=by
 rw[AU]at h ⊢
 intro x hx
 unfold Gh at hx
 rw[List.mem_reverse]at hx
 exact QM hL (fun y hy=>h y (List.mem_reverse.mp hy)) x hx
theorem Ph (L:Int)(l:List Int):l.length<=(Gg L l).length/\(Gg L l).length<=l.length+1:=by
 induction l with
 |nil=>simp[Gg]
 |cons x r ih=>
  rw[Gg]
  by_cases h:x=L-1
  ·rw[if_pos h];simp;lia
  ·rw[if_neg h];simp
theorem Pj (L:Int)(w:List Int):w.length<=(Gh L w).length/\(Gh L w).length<=w.length+1:=by
 have:=Ph L w.reverse
 unfold Gh
 rw[List.length_reverse]at this
 rw[List.length_reverse]
 exact this
noncomputable def many (L:Int):Nat->Int
 |0=>0
 |k+1=>many L k*L+1
theorem Ho {L:Int}(hL:0<L):∀k,0<=many L k
 |0=>Int.le_refl _
 |k+1=>by
  have:=Int.mul_nonneg (Ho hL k) (Int.le_of_lt hL)
  show 0<=many L k*L+1
  lia
theorem HX {L:Int}(hL:0<L):∀{l:List Int},(∀x∈l,0<=x/\x<L)->many L l.length<=Dd L l/\Dd L l<many L (l.length+1)
 |[],_=>by simp[Dd,many]
 |x::r,h=>by
  have hx:=h x List.mem_cons_self
  obtain⟨h1,h2⟩:=HX hL (l:=r) fun y hy=>h y (List.mem_cons_of_mem _ hy)
  show many L r.length*L+1<=Dd L r*L+x+1/\Dd L r*L+x+1<many L (r.length+1)*L+1
  have a1:=Int.mul_le_mul_of_nonneg_right h1 (Int.le_of_lt hL)
  have a2:=Int.mul_le_mul_of_nonneg_right (show Dd L r+1<=many L (r.length+1) by lia) (Int.le_of_lt hL)
  rw[Int.add_mul]at a2
  lia
theorem Pk  (hL:0<L)  (h:isW L w=true):many L w.length<=AG L w/\AG L w<many L (w.length+1):=by
 have:=HX hL (l:=w.reverse) (fun x hx=>AU.mp h x (List.mem_reverse.mp hx))
 rw[List.length_reverse]at this
 exact this
theorem Pl  (hL:0<L)  (h:j<=k):many L j<=many L k:=by
 induction h with
 |refl=>exact Int.le_refl _
 |step _ ih=>
  rename_i m _
  refine Int.le_trans ih ?_
  show many L m<=many L m*L+1
  have:many L m*1<=many L m*L:=Int.mul_le_mul_of_nonneg_left s!"" (Ho hL m)
  lia
theorem MO  (hL:0<L)  (h:isW L w=true)(k:Nat):w.length<=k↔AG L w<many L (k+1):=by
 obtain⟨h1,h2⟩:=Pk hL h
 constructor
 ·intro hk
  exact Int.lt_of_lt_of_le h2 (Pl hL s!"")
 ·intro hp
  refine Nat.le_of_not_lt fun hk=>?_
  have:=Pl hL (show k+1<=w.length from hk)
  lia
noncomputable def nth (L:Int):Nat->List Int
 |0=>[]
 |n+1=>Gh L (nth L n)
theorem HY {L:Int}(hL:0<L):∀n,isW L (nth L n)=true
 |0=>rfl
 |n+1=>QN hL (HY hL n)
theorem KH (L:Int):∀n:Nat,AG L (nth L n)=n
 |0=>rfl
 |n+1=>by show AG L (Gh L (nth L n))=_;rw[Ta,KH L n];push_cast;rfl
theorem Tc  (hL:0<L)(n:Nat):(nth L n).length<=n:=by
 induction n with
 |zero=>simp[nth]
 |succ n ih=>have:=(Pj L (nth L n)).2;show (Gh L (nth L n)).length<=n+1;lia
theorem IF (L:Int)(w:List Int)(x:Int):AG L (w++[x])=AG L w*L+x+1:=by
 unfold AG
 rw[List.reverse_append];rfl
theorem Sb {L:Int}{w:List Int}{k:Nat}(hk:k<=w.length)(h:∀j,k<=j->j<w.length->w[j]?=some (L-1)):w=w.take k++List.replicate (w.length-k) (L-1):=by
 apply List.ext_getElem?
 intro j
 by_cases hj:j<k
 ·rw[List.getElem?_append_left (by rw[List.length_take];lia),List.getElem?_take_of_lt hj]
 ·by_cases hl:j<w.length
  ·rw[h j s!"" hl,List.getElem?_append_right (by rw[List.length_take];lia),List.getElem?_replicate,if_pos (by rw[List.length_take];lia)]
  ·rw[List.getElem?_eq_none s!"",List.getElem?_eq_none (by rw[List.length_append,List.length_take,List.length_replicate];lia)]
theorem Pm     (hk:k<w.length)(h:∀j,k+1<=j->j<w.length->w[j]?=some (L-1))(hx:w[k]?=some x)(aE:x≠L-1):
  Gh L w=w.take k++[x+1]++List.replicate (w.length-(k+1)) 0:=by
 have e:=Sb (show k+1<=w.length from hk) h
 have e2:w.take (k+1)=w.take k++[x]:=by rw[List.take_add_one,hx];rfl
 rw[e2]at e
 have:=Vo L (w.take k) x (w.length-(k+1)) aE
 rw[<-e]at this
 exact this
theorem QO   (h:∀j,0<=j->j<w.length->w[j]?=some (L-1)):Gh L w=List.replicate (w.length+1) 0:=by
 have e:=Sb (Nat.zero_le _) h
 simp at e
 have:=Vp L w.length
 rw[<-e]at this
 exact this
end GW
namespace PySem
section
variable {prog:Program} {w:World} {A:Around} {E:Value->Shared->Prop} {s:Shared}
noncomputable abbrev lsO (ai:Array Value)(c:Nat):Obj:={cls:=.type "list",dict:=none,data:=.seq ai c,slots := #[]}
noncomputable def KP (wr:Addr->Prop)(h h':Heap):Prop:=∀b o,¬ wr b->h.get? b=some o->h'.get? b=some o
structure Gat (prog:Program)(w:World)(s:Shared)(r I:Addr)(T:String)(n:Nat)(wr:Addr->Prop)(J:Nat->List Value->Heap->Prop)(Fn:List Value->Heap->Prop):Prop where
 type:s.TypeIs (.ref r) T
 nl:(Value.type T==Value.type "list")=false
 nt:(Value.type T==Value.type "tuple")=false
 le:n<=sizeLine
 hint:∀(A:Around) (t:Shared) (Q:Bool->Shared->Prop) (E:Value->Shared->Prop),(∀b o,s.heap.get? b=some o->t.heap.get? b=some o)->(∀b tk,Q b {t with toks:=tk})->wpAny (model prog w) A (Builtin.List.listLengthHint (.ref r)) Q E t
 iter:∀(A:Around) (h1:Heap) (Q:Value->Shared->Prop) (E:Value->Shared->Prop),(∀b o,s.heap.get? b=some o->h1.get? b=some o)->h1.objs.size=s.heap.objs.size+1->(∀h',J 0 [] h'->(∀b o,h1.get? b=some o->h'.get? b=some o)->Q (.ref I) {s with heap:=h' })->wpAny (model prog w) A (pyIter (.ref r)) Q E {s with heap:=h1}
 next:∀(A:Around) i ai (t:Shared) (Q:Option Value->Shared->Prop) (E:Value->Shared->Prop),A.handled=none->J i ai t.heap->ai.length=i->i<=n->s.heap.objs.size<t.heap.objs.size ->
  (∀v h' tk,i<n->J (i+1) (ai++[v]) h'->KP wr t.heap h'->Q (some v) {t with heap:=h',toks:=tk})->(∀h' tk,i=n->Fn ai h'->KP wr t.heap h'->Q none {t with heap:=h',toks:=tk})->wpAny (model prog w) A (pyNext (.ref I)) Q E t
 frame:∀i ai h h',J i ai h->(∀b o,b≠s.heap.objs.size->h.get? b=some o->h'.get? b=some o)->J i ai h'
 nw:¬ wr s.heap.objs.size
variable {I r:Addr} {T:String} {n:Nat} {wr:Addr->Prop} {J:Nat->List Value->Heap->Prop} {Fn:List Value->Heap->Prop} {R:Result->Shared->Prop} {res:Value}
theorem Gat.loop (G:Gat prog w s r I T n wr J Fn)(hh:A.handled=none)
  (hR:∀h' tk ai c,Fn ai h'->ai.length=n->h'.get? s.heap.objs.size=some (lsO ai.toArray c)->KP wr s.heap h'->R (.ok (.ret res)) {s with heap:=h',toks:=tk}):
  ∀(k:Nat) (h:Heap) (tk c:Nat) (ai:List Value),n-ai.length=k->ai.length<=n->J ai.length ai h->h.get? s.heap.objs.size=some (lsO ai.toArray c)->KP wr s.heap h->codeAny (model prog w) A (.builtin "list.extend.loop" ⟨[.ref s.heap.objs.size,.ref I,res],[]⟩) R {s with heap:=h,toks:=tk}:=by
 intro k
 induction k with
 |zero=>
  intro h tk c ai hk hi j hS kp
  refine codeAny_builtin F.entry_extend_loop ?_
  rw[Around.under_plainId F.plain_extend_loop _]
  refine wpAny_bind (G.next A.in1 _ ai {s with heap:=h,toks:=tk} _ _ hh j rfl hi (Heap.lt_size hS) (fun v h' tk l=>by lia) fun h' tk e j' kk=>?_)
  exact wpAny_pure (hR h' tk ai c j' s!"" (kk _ _ G.nw hS) fun b o m q=>kk b o m (kp b o m q))
 |succ k ih=>
  intro h tk c ai hk hi j hS kp
  refine codeAny_builtin F.entry_extend_loop ?_
  rw[Around.under_plainId F.plain_extend_loop _]
  refine wpAny_bind (G.next A.in1 _ ai {s with heap:=h,toks:=tk} _ _ hh j rfl hi (Heap.lt_size hS) (fun v h' tk l j' kk=>?_) fun h' tk e=>by lia)
  have ka:=kk _ _ G.nw hS
  have up:∀b o,b≠s.heap.objs.size->h'.get? b=some o->(h'.update s.heap.objs.size (Obj.mapSeq (·.push v))).get? b=some o:=fun b o m q=>(Heap.get?_update_other _ _ (Ne.symm m)).trans q
  have hl:(ai++[v]).length=ai.length+1:=by simp
  have:=G.le
  obtain⟨c',gH⟩:∃c',(h'.update s.heap.objs.size (Obj.mapSeq (·.push v))).get? s.heap.objs.size=some (lsO (ai++[v]).toArray c'):=⟨_,by rw[<-List.push_toArray];exact Heap.get?_update_self _ ka rfl⟩
  exact wpAny_bind (wpAny_updateSeq ka rfl (wpAny_pure ⟨plainId_quiet F.plain_extend_loop _,ih _ tk c' (ai++[v]) s!"" s!"" (by rw[hl];exact G.frame _ _ _ _ j' up) gH fun b o m q=>up b o (Nat.ne_of_lt (Heap.lt_size q)) (kk b o m (kp b o m q))⟩) (by simp;lia))
theorem Gat.extend    (G:Gat prog w s r I T n wr J Fn)(hh:A.handled=none)(k1:∀b o,s.heap.get? b=some o->h1.get? b=some o)(hz:h1.objs.size=s.heap.objs.size+1)(hS:h1.get? s.heap.objs.size=some (lsO #[] c₀))
  (hZ:∀c t,c.quiet=true->codeAny (model prog w) A c R t->Z (.again c) t)
  (hR:∀h' tk ai c,Fn ai h'->ai.length=n->h'.get? s.heap.objs.size=some (lsO ai.toArray c)->KP wr s.heap h'->R (.ok (.ret res)) {s with heap:=h',toks:=tk}):
  wpAny (model prog w) A.in1 (Builtin.List.listExtendWith (.ref s.heap.objs.size) (.ref r) res) Z E {s with heap:=h1}:=by
 have hr:r<s.heap.objs.size:=let ⟨_,ho,_⟩:=G.type;Heap.lt_size ho
 have e1:Builtin.List.listSameRef (.ref s.heap.objs.size) (.ref r)=false:=by simp[Builtin.List.listSameRef,Nat.ne_of_gt hr]
 have hT:Shared.TypeIs {s with heap:=h1} (.ref r) T:=let ⟨o,ho,x⟩:=G.type;⟨o,k1 _ _ ho,x⟩
 have jy:∀(h:Heap) f b o,b≠s.heap.objs.size->h.get? b=some o->(h.update s.heap.objs.size f).get? b=some o:=fun h f b o n q=>(Heap.get?_update_other _ _ (Ne.symm n)).trans q
 have go:∀(h:Heap) c tk,J 0 [] h->h.get? s.heap.objs.size=some (lsO #[] c)->(∀b o,b≠s.heap.objs.size->h1.get? b=some o->h.get? b=some o)->Z (.again (.builtin "list.extend.loop" ⟨[.ref s.heap.objs.size,.ref I,res],[]⟩)) {s with heap:=h,toks:=tk}:=fun h c tk j q k=>
  hZ _ _ (plainId_quiet F.plain_extend_loop _) (G.loop hh hR n h tk c [] rfl (Nat.zero_le _) j q fun b o _ x=>k b o (Nat.ne_of_lt (Heap.lt_size x)) (k1 b o x))
 unfold Builtin.List.listExtendWith
 refine wpAny_bind (wpAny_typeOf hT ?_)
 simp only[e1,G.nl,G.nt,Bool.or_false,Bool.false_eq_true,if_false]
 refine wpAny_bind (G.iter A.in1 h1 _ _ k1 hz fun h' j kk=>wpAny_bind (wpAny_holding (G.hint A.in1 _ _ _ (fun b o q=>kk b o (k1 b o q)) fun bb tk=>?_)))
 have ka:=kk _ _ hS
 refine wpAny_ite_split (fun _=>?_) fun _=>wpAny_pure (go h' c₀ tk j ka fun b o _ q=>kk b o q)
 wp_walk
 exact go _ _ tk (G.frame _ _ _ _ (G.frame _ _ _ _ j fun b o m q=>jy _ _ b o m q) fun b o m q=>jy _ _ b o m q) (Heap.get?_update_self _ (Heap.get?_update_self _ ka rfl) rfl) fun b o m q=>jy _ _ b o m (jy _ _ b o m (kk b o q))
theorem Gat.list  (G:Gat prog w s r I T n wr J Fn)(hh:A.handled=none)
  (hQ:∀h' tk ai c,Fn ai h'->ai.length=n->h'.get? s.heap.objs.size=some (lsO ai.toArray c)->KP wr s.heap h'->Q (.ref s.heap.objs.size) {s with heap:=h',toks:=tk}):wpAny (model prog w) A (call (.type "list") [.ref r]) Q E s:=by
 have hS:(s.heap.push (lsO #[] 0)).get? s.heap.objs.size=some (lsO #[] 0):=Heap.get?_push_size _ rfl
 refine callType_codes (Q₁:=fun obj s₁=>obj=.ref s.heap.objs.size/\s₁={s with heap:=s.heap.push (lsO #[] 0)}) F.called_list (F.typeCall_list_1 _) F.entry_list_init (code_list_new _ ⟨rfl,rfl⟩) fun obj s₁ h₁=>?_
 obtain⟨rfl,rfl⟩:=h₁
 have jy:∀b o,s.heap.get? b=some o->((s.heap.push (lsO #[] 0)).update s.heap.objs.size (Obj.mapSeq fun _ => #[])).get? b=some o:=fun b o q=>(Heap.get?_update_other _ _ (Nat.ne_of_gt (Heap.lt_size q))).trans (Heap.get?_push_of_some _ q)
 obtain⟨c2,gH⟩:∃c,((s.heap.push (lsO #[] 0)).update s.heap.objs.size (Obj.mapSeq fun _ => #[])).get? s.heap.objs.size=some (lsO #[] c):=⟨_,Heap.get?_update_self _ hS rfl⟩
 have hz:((s.heap.push (lsO #[] 0)).update s.heap.objs.size (Obj.mapSeq fun _ => #[])).objs.size=s.heap.objs.size+1:=by rw[Heap.size_after_update,Heap.size_push]
 refine⟨⟨_,hS,rfl⟩,F.args_list_init_2 _ _,?_⟩
 wp_walk using Gat.extend (A:=A.in1) (R:=wants (fun r a7=>r=.none/\Q (.ref s.heap.objs.size) a7) E) (c₀:=c2) G hh jy hz gH
 ·exact fun _ _ a b=>⟨a,b⟩
 exact fun h' tk ai c k1 k2 k3 k4=>⟨rfl,hQ h' tk ai c k1 k2 k3 k4⟩
end
end PySem
namespace L2
open PySem PySem.Spec PyProof.Rows
section
variable {P:Program} {w:World} {K:PySem.W.Frag} {mg:Str->Option Value} {base:Heap}
theorem Fun.okE  {st:Stmt}      (F:Fun K x qual st f fd)(S:FnScope N ps (Af st))(len:∀vs H Q E,sp vs H Q E->vs.length=ps.length)
  (bA:∀(aB:Value) (A:Around) (outer:List Env) (s:Shared) (H:Hp) (vs:List V) (Q:VK) (E:XK),Room k (A.deeper (envOfC qual (Af st) s.heap.objs.size f aB))->sp vs H Q E ->
   ∃t,PSs (cxOf (CXe P w) P w K mg base N qual (Af st) f aB A outer s H E) (Aw st) t/\t {nx:=fun _ H'=>Q .non H',rt:=Q} (start N vs) H):FnOk P w K mg base (CXe P w) (k+1) f fd ps sp:=by
 obtain⟨oc,od,kV,bp,pm,an,aB,ct,eg,rfl,lk,bo⟩:=F.ex
 exact Zy lk bo S len fun A outer s H vs Q E hr cQ=>bA aB A outer s H vs Q E hr cQ
theorem Vq  : O0 (CXe P w) X E0:=fun _ _ _ _ _ _ _ h=>by
 obtain⟨_,_,_,_,_,_,_,_,_,_,q⟩:=h
 exact q.elim
end
section
variable {te ta tb:TE} {A:TA} {D:Ends} {σ:St} {H:Hp} {Q:VK} {K:PySem.W.Frag} {tbd ts:TS}
theorem Sd   : UZ x vs H Q=∃l b xs zs,x=.ref l/\vs=[.ref b]/\H l=some (.lst xs)/\H b=some (.lst zs)/\xs.length+zs.length<=sizeLine/\Q .non (upd H l (.lst (xs++zs))):=rfl
theorem Vr   : Yn x vs H Q=∃l xs,x=.ref l/\vs=[]/\H l=some (.lst xs)/\Q .non (upd H l (.lst [])):=rfl
theorem BI_  : rCat x y H Q=∃l b xs zs,x=.ref l/\y=.ref b/\H l=some (.lst xs)/\H b=some (.lst zs)/\xs.length+zs.length<=sizeLine/\∀p,H p=none->Q (.ref p) (upd H p (.lst (xs++zs))):=rfl
theorem BJ_  : rRep x y H Q=∃l k xs,x=.ref l/\y=.int k/\H l=some (.lst xs) /\ -(2 ^ 63)<=k/\k<2 ^ 63/\xs.length*k.toNat<=sizeLine/\∀p,H p=none->Q (.ref p) (upd H p (.lst (List.replicate k.toNat xs).flatten)):=rfl
theorem Vs   : YD C E A D σ H=A σ H fun vs H1=>vs.length<=sizeLine/\E (.ref C) none H1:=rfl
end
end L2
namespace L2
open PySem PySem.Spec PyProof.Rows
theorem iteB {c A B:Prop}[Decidable c](hB:B)(h:c->B->A):if c then A else B:=by
 by_cases hc:c
 ·rw[if_pos hc];exact h hc hB
 ·rw[if_neg hc];exact hB
theorem ZP (x y:Int):eqV (.int x) (.int y)=decide (V.int x=V.int y):=by
 by_cases h:x=y
 ·subst h;simp[eqV]
 ·rw[decide_eq_false (fun z=>h (by injection z))];simp[eqV,h]
theorem EqD.ints {K:PySem.W.Frag}{H:Hp}{a c:Addr}{xs ys:List Int}(hq:(SqL K H a (xs.map V.int)/\SqL K H c (ys.map V.int))\/(SqT K H a (xs.map V.int)/\SqT K H c (ys.map V.int)))(n:Nat):EqD K H (n+1) (.ref a) (.ref c) (decide (xs=ys)):=by
 have:=EqD.flat hq (fun x hx=>by obtain⟨_,_,rfl⟩:=EA hx;rfl) (fun x hx=>by obtain⟨_,_,rfl⟩:=EA hx;rfl) (fun x hx y hy=>by obtain⟨_,_,rfl⟩:=EA hx;obtain⟨_,_,rfl⟩:=EA hy;exact ZP _ _) n
 have e:decide (xs.map V.int=ys.map V.int)=decide (xs=ys):=by
  rw[Bool.eq_iff_iff]
  simp only[decide_eq_true_eq]
  constructor
  ·intro h
   exact (List.map_inj_right (fun a b h=>by injection h)).mp h
  ·intro h;rw[h]
 rw[e]at this
 exact this
end L2
namespace L2
open PySem PySem.Spec PyProof.Rows
noncomputable def iSeq (K:PySem.W.Frag)(tl:TE):TI:=fun σ H R=>tl σ H fun x H1=>∃a,x=.ref a/\(((∃xs,SqL K H1 a xs)/\R (Itl K a) H1)\/((∃xs,SqT K H1 a xs)/\R (Itt K a) H1))
theorem YE {K:PySem.W.Frag}     : iSeq K te σ H Z=te σ H fun x H1=>∃a,x=.ref a/\(((∃xs,SqL K H1 a xs)/\Z (Itl K a) H1)\/((∃xs,SqT K H1 a xs)/\Z (Itt K a) H1)):=rfl
theorem YF    (hl:PE X l tl):PI X tg l (iSeq X.K tl):=by
 intro af s σ H R I h
 refine thn (hl af s σ H _ I h) fun v s1 ⟨x,H1,I1,r1,q1⟩=>?_
 obtain⟨a,e,q⟩:=q1
 subst e
 cases r1
 rcases q with ⟨⟨xs,hq⟩,q⟩|⟨⟨xs,hq⟩,q⟩
 ·obtain⟨its,rv,p,hz⟩:=I1.list hq
  refine wpAny_pyIter_list p.isList ?_
  refine⟨s1.heap.objs.size,[s1.heap.objs.size],_,_,H1,rfl,I1.kept (t':=s1.toks) fun b o e=>Heap.get?_push_of_some _ e,OX a _,⟨_,Heap.get?_push_size _ rfl,rfl,rfl⟩,fun b hb=>?_,q⟩
  have e:b=s1.heap.objs.size:=by simpa using hb
  subst e
  exact I1.fpOk (Nat.le_refl _) (I1.hok.fresh (Nat.le_refl _))
 ·obtain⟨its,rv,p,hz⟩:=I1.tuple hq
  refine wpAny_pyIter_tuple (show s1.heap.IsTuple a its.toArray from p) ?_
  refine⟨s1.heap.objs.size,[s1.heap.objs.size],_,_,H1,rfl,I1.kept (t':=s1.toks) fun b o e=>Heap.get?_push_of_some _ e,MG a _,⟨_,Heap.get?_push_size _ rfl,rfl,rfl⟩,fun b hb=>?_,q⟩
  have e:b=s1.heap.objs.size:=by simpa using hb
  subst e
  exact I1.fpOk (Nat.le_refl _) (I1.hok.fresh (Nat.le_refl _))
theorem YG  {K:PySem.W.Frag}{T id:String}        (hK:X.K=K)(pa:PlainAttrs T)(slot:Slot T name id)(j5:typeOf (.builtin id)=pure (.type "method_descriptor"))(hm:MtR X id r)(ho:PE X o to)(ha:PA X (e::es) t)
  (cu:attributeBase o name X.env (eval o X.env)=eval o X.env:=by rfl)
  (fW:((backTo aC (starEach (e::es) X.env)).all (fun x => !x.1)&&(backToKw aC (keywordEach [] X.env)).all (fun x=>x.1.isSome)
   && decide ((e::es).length+([]:List Keyword).length+(if ([]:List Keyword).isEmpty then 0 else 1)<30))=true:=by rfl)
  (cw:(aW.endLine==aC.line)=true:=by rfl) (hs:starEach (e::es) X.env=(false,eval e X.env)::starEach es X.env:=by rfl) (bB:(backTo aC (starEach es X.env)).any (·.1)=false:=by rfl):
  PE X (.Call (.Attribute o name aW) (e::es) [] aC) (tBM K T r to t):=by
 subst hK
 exact Fg pa slot j5 hm ho ha cu fW cw hs bB
section
variable {X:Cx} {K:PySem.W.Frag}
theorem CN (h:X.K=K):IxR X (rIxT K):=by subst h;exact AI
theorem CM (h:X.K=K):IxR X (rIxL K):=by subst h;exact Bw
end
end L2
namespace GW
noncomputable def Bm (ae:List (List Int))(r x:Int):Int:=(ae.getD r.toNat []).getD x.toNat 0
noncomputable def AL (ae:List (List Int))(ws:List Int):Int:=ws.foldl (Bm ae) 0
noncomputable def MQ (ae:List (List Int))(ws:List Int):List Int:=(List.range (ws.length+1)).map fun j=>AL ae (ws.take j)
structure Wf (L:Int)(aa:List Int)(ae:List (List Int)):Prop where
 l1:1<=L
 l6:L<=6
 n1:1<=aa.length
 n40:aa.length<=40
 len:ae.length=aa.length
 rows:∀row∈ae,(row.length:Int)=L/\∀x∈row,0<=x/\x<aa.length
 mks:∀m∈aa,0<=m/\m<=1000000000
theorem BL     (h1:ae[r.toNat]?=some row)(h2:row[x.toNat]?=some g):Bm ae r x=g:=by
 unfold Bm
 have e:ae.getD r.toNat []=row:=by rw[List.getD_eq_getElem?_getD,h1];rfl
 rw[e,List.getD_eq_getElem?_getD,h2];rfl
theorem Wf.row {L:Int}{aa:List Int}{ae:List (List Int)}(wf:Wf L aa ae){r:Int}(h0:0<=r)(h1:r<aa.length):∃row,ae[r.toNat]?=some row/\row∈ae/\(row.length:Int)=L:=by
 have ar:r.toNat<ae.length:=by rw[wf.len];lia
 exact⟨ae[r.toNat],by simp[ar],List.getElem_mem ar,(wf.rows _ (List.getElem_mem ar)).1⟩
theorem Wf.step {L:Int}{aa:List Int}{ae:List (List Int)}(wf:Wf L aa ae){r x:Int}(h0:0<=r)(h1:r<aa.length)(x0:0<=x)(x1:x<L):∃row g,ae[r.toNat]?=some row/\row[x.toNat]?=some g/\Bm ae r x=g/\0<=g/\g<aa.length:=by
 obtain⟨row,hr,hm,hl⟩:=wf.row h0 h1
 have ar:x.toNat<row.length:=by lia
 have hg:row[x.toNat]?=some row[x.toNat]:=by simp[ar]
 exact⟨row,row[x.toNat],hr,hg,BL hr hg,(wf.rows row hm).2 _ (List.getElem_mem ar)⟩
theorem EV (ae:List (List Int))(ws:List Int)(x:Int):AL ae (ws++[x])=Bm ae (AL ae ws) x:=by
 unfold AL
 rw[List.foldl_append];rfl
theorem MR {ae:List (List Int)}{ws:List Int}{i:Nat}{x:Int}(h:ws[i]?=some x):AL ae (ws.take (i+1))=Bm ae (AL ae (ws.take i)) x:=by
 rw[List.take_add_one,h]
 exact EV _ _ _
theorem Wf.walk    (wf:Wf L aa ae)  (hw:isW L ws=true):∀i,0<=AL ae (ws.take i)/\AL ae (ws.take i)<aa.length:=by
 intro i
 induction i with
 |zero=>have:=wf.n1;simp[AL];lia
 |succ i ih=>
  cases e:ws[i]? with
  |none=>
   have aN:=List.getElem?_eq_none_iff.mp e
   rw[List.take_of_length_le s!""]
   rw[List.take_of_length_le aN]at ih
   exact ih
  |some x=>
   rw[MR e]
   have hx:=AU.mp hw x (List.mem_of_getElem? e)
   obtain⟨_,g,_,_,h,h0,h1⟩:=wf.step ih.1 ih.2 hx.1 hx.2
   rw[h];exact⟨h0,h1⟩
theorem Nu (ae:List (List Int))(ws:List Int):(MQ ae ws).length=ws.length+1:=by simp[MQ]
theorem Td    (h:i<=ws.length):(MQ ae ws)[i]?=some (AL ae (ws.take i)):=by
 unfold MQ
 rw[List.getElem?_map,List.getElem?_range s!""];rfl
theorem QP (ae:List (List Int))(ws:List Int):(MQ ae ws)[ws.length]?=some (AL ae ws):=by
 rw[Td (Nat.le_refl _),List.take_length]
end GW
namespace L2
open PySem PySem.Spec PyProof.Rows GW
noncomputable def Rows (K:PySem.W.Frag)(H:Hp)(w:Addr)(ae:List (List Int)):Prop:=∃ts:List Addr,SqT K H w (ts.map V.ref)/\ts.length=ae.length/\∀(i:Nat) (t:Addr) (row:List Int),ts[i]?=some t->ae[i]?=some row->SqT K H t (row.map V.int)
noncomputable def Bz (K:PySem.W.Frag)(H:Hp)(h:Addr)(L:Int)(aa:List Int)(ae:List (List Int)):Prop:=∃m w:Addr,SqT K H h [.int L,.ref m,.ref w]/\SqT K H m (aa.map V.int)/\Rows K H w ae
theorem Rows.mono {K:PySem.W.Frag}    (h:Rows K H w ae)(e:Same H H'):Rows K H' w ae:=by
 obtain⟨ts,h1,h2,h3⟩:=h
 exact⟨ts,e.seqT h1,h2,fun i t r a b=>e.seqT (h3 i t r a b)⟩
theorem Bz.mono {K:PySem.W.Frag}      (x:Bz K H h L aa ae)(e:Same H H'):Bz K H' h L aa ae:=by
 obtain⟨m,w,h1,h2,h3⟩:=x
 exact⟨m,w,e.seqT h1,e.seqT h2,h3.mono e⟩
theorem Rows.at {K:PySem.W.Frag}{H:Hp}{w:Addr}{ae:List (List Int)}(h:Rows K H w ae){i:Nat}{row:List Int}(hr:ae[i]?=some row):∃xs t,SqT K H w xs/\atI xs (i:Int)=some (V.ref t)/\SqT K H t (row.map V.int):=by
 obtain⟨ts,h1,h2,h3⟩:=h
 have ar:i<ts.length:=by rw[h2];exact (List.getElem?_eq_some_iff.mp hr).1
 have ht:ts[i]?=some ts[i]:=by simp[ar]
 exact⟨_,ts[i],h1,Gb (by rw[List.getElem?_map,ht];rfl),h3 i _ _ ht hr⟩
theorem Rows.atZ {K:PySem.W.Frag}    (h:Rows K H w ae)   (h0:0<=r)(hr:ae[r.toNat]?=some row):∃xs t,SqT K H w xs/\atI xs r=some (V.ref t)/\SqT K H t (row.map V.int):=by
 obtain⟨xs,t,a,b,c⟩:=h.at hr
 exact⟨xs,t,a,by rw[<-b];congr 1;lia,c⟩
theorem Vt    (h:xs[xs.length-1]?=some v):atI xs (-1)=some v:=by
 have ar:=(List.getElem?_eq_some_iff.mp h).1
 unfold atI ixN
 rw[if_neg s!"",if_pos s!""]
 show xs[(-1+(xs.length:Int)).toNat]?=some v
 rw[show (-1+(xs.length:Int)).toNat=xs.length-1 by lia]
 exact h
theorem CF {ns:List Int}{i:Int}{v:Int}(h0:0<=i)(h:ns[i.toNat]?=some v):atI (ns.map V.int) i=some (V.int v):=Ed h0 (by rw[List.getElem?_map,h];rfl)
theorem Nv {K:PySem.W.Frag}    (hp:H p=some (.lst zs))(h:SqT K H t xs):SqT K (upd H p (.lst ys)) t xs:=by
 rcases h with (q|⟨o,q⟩)|q
 ·refine .inl (.inl ?_)
  rw[Ah (fun z=>by rw[z,hp]at q;cases q)];exact q
 ·refine .inl (.inr ⟨o,?_⟩)
  rw[Ah (fun z=>by rw[z,hp]at q;cases q)];exact q
 ·exact .inr q
noncomputable def DX (K:PySem.W.Frag)(H:Hp)(l:Addr)(ws:List (List Int)):Prop:=∃ts:List Addr,H l=some (.lst (ts.map V.ref))/\ts.length=ws.length/\∀(i:Nat) (t:Addr) (w:List Int),ts[i]?=some t->ws[i]?=some w->SqT K H t (w.map V.int)
theorem DX.mono {K:PySem.W.Frag}    (h:DX K H l ws)(e:Same H H'):DX K H' l ws:=by
 obtain⟨ts,h1,h2,h3⟩:=h
 exact⟨ts,e _ _ h1,h2,fun i t w a b=>e.seqT (h3 i t w a b)⟩
theorem DX.off {K:PySem.W.Frag}     (h:DX K H l ws)(hp:H p=some (.lst zs))(ne:l≠p):DX K (upd H p (.lst ys)) l ws:=by
 obtain⟨ts,h1,h2,h3⟩:=h
 exact⟨ts,by rw[Ah ne];exact h1,h2,fun i t w a b=>Nv hp (h3 i t w a b)⟩
theorem DX.push {K:PySem.W.Frag}     (h:DX K H l ws)(hw:SqT K H t (w.map V.int)):∃xs,H l=some (.lst xs)/\xs.length=ws.length/\DX K (upd H l (.lst (xs++[V.ref t]))) l (ws++[w]):=by
 obtain⟨ts,h1,h2,h3⟩:=h
 refine⟨ts.map V.ref,h1,by rw[List.length_map,h2],ts++[t],by rw[Ab,List.map_append];rfl,by simp[h2],fun i t' w' a b=>Nv h1 ?_⟩
 by_cases hi:i<ts.length
 ·rw[List.getElem?_append_left hi]at a
  rw[List.getElem?_append_left s!""]at b
  exact h3 i t' w' a b
 ·have ht:=(List.getElem?_eq_some_iff.mp a).1
  rw[List.length_append,List.length_singleton]at ht
  have e:i=ts.length:=by lia
  subst e
  rw[List.getElem?_append_right (Nat.le_refl _),Nat.sub_self]at a
  rw[List.getElem?_append_right s!"",h2,Nat.sub_self]at b
  simp at a b
  subst a b
  exact hw
theorem DX.nil {K:PySem.W.Frag}   (h:H l=some (.lst [])):DX K H l []:=⟨[],h,rfl,fun i t w a _=>by simp at a⟩
theorem DX.rows {K:PySem.W.Frag}    (h:DX K H l ws):∃xs,H l=some (.lst xs)/\∀t,H t=none->Rows K (upd H t (.tup xs)) t ws:=by
 obtain⟨ts,h1,h2,h3⟩:=h
 exact⟨_,h1,fun t ht=>⟨ts,SqT.of Ab,h2,fun i t' w a b=>(Same.new ht).seqT (h3 i t' w a b)⟩⟩
end L2
namespace PySem
open Sem (wp)
open AutoSeq1 (wpAny_loadPart')
section
variable {prog:Program} {w:World} {A:Around} {E:Value->Shared->Prop} {s:Shared}
theorem newT   (hl:l.length<=sizeLine)(h:∀h',s.heap.push {cls:=.type "tuple",data:=.seq l.toArray}=h'->Q (.ref s.heap.objs.size) {s with heap:=h' }):wpAny (model prog w) A (newTuple l) Q E s:=wpAny_newTuple (h _ rfl)
theorem psh {h h':Heap}{o:Obj}(q:h.push o=h')(ho:o.isFreed=false):(∀c u,h.get? c=some u->h'.get? c=some u)/\h'.get? h.objs.size=some o/\h'.objs.size=h.objs.size+1:=by
 subst q
 exact⟨fun c u x=>Heap.get?_push_of_some _ x,Heap.get?_push_size _ ho,Heap.size_push ..⟩
theorem IG {it l:Addr}    (aY:s.heap.IsTupleIter it l i)(hl:s.heap.IsTuple l items)
  (hQ:∀x h',items[i]?=some x->h'.IsTupleIter it l (i+1)->Heap.SameBut it s.heap h'->Q x {s with heap:=h' })
  (hE:items[i]?=none->A.handled=none/\∀h' e,Heap.ExtBut it s.heap h'->(∃o,h'.get? e=some o/\o.cls=.type "StopIteration")->E (.ref e) {s with heap:=h' }):wpAny (model prog w) A (Builtin.SmallTypes.nextOf (.ref it)) Q E s:=by
 obtain⟨⟨c,dc,da,sl⟩,ho,hc,hd⟩:=id aY
 obtain⟨⟨c',dc',da',j0⟩,lE,fH,nl,mU⟩:=hl
 replace hc:c=_:=hc;replace hd:da=_:=hd;replace fH:c'=_:=fH;replace mU:da'=_:=mU
 subst hc hd fH mU
 have e1:=F.slot_tuple_iterator_next
 unfold Builtin.SmallTypes.nextOf
 refine wpAny_bind (wpAny_callSpecial?_slot aY.typeIs e1 (wpAny_call_entry e1 aY.typeIs F.entry_tuple_iterator_next ?_ (F.args_tuple_iterator_next_1 _)))
 wp_walk
 cases hx:items[i]? with
 |some x=>
  simp only[Int.toNat_natCast,hx]
  wp_walk
  exact⟨x,rfl,wpAny_pure (hQ x _ hx ⟨_,Heap.get?_update_self _ ho (by simp[Obj.mapFields,Obj.isFreed]),rfl,by simp[Obj.mapFields,rawInt]⟩ (Heap.SameBut.update ..))⟩
 |none=>
  obtain⟨hh,hE⟩:=hE hx
  have h1:A.in1.handled=none:=hh
  simp only[Int.toNat_natCast,hx]
  wp_walk
  unfold raiseNew
  wp_walk
  exact hE _ _ (((Heap.SameBut.update ..).extBut.push _).push _) ⟨_,Heap.get?_push_size _ rfl,rfl⟩
theorem Draws.tuple (hh:A.handled=none)(it l:Addr)(aE:l≠it)(items:Array Value):
  Draws prog w A it [it,l] items.size (fun i v=>items[i]?=some v) (fun i h=>h.IsTupleIter it l i/\h.IsTuple l items) where
 live:=fun _ _ st=>let ⟨o,e,_⟩:=st.1;⟨o,e⟩
 frame:=fun _ _ _ st k=>⟨st.1.at fun o e=>k it (by simp) o e,let ⟨o,e,r⟩:=st.2;⟨o,k l (by simp) o e,r⟩⟩
 item:=fun i t Q E hi st q=>IG st.1 st.2 (fun x h' e1 e2 e3=>q x h' t.toks e1 ⟨e2,st.2.extBut e3.extBut aE⟩ e3) fun z=>by rw[Array.getElem?_eq_none_iff]at z;lia
 done:=fun t Q E st q=>IG st.1 st.2 (fun x h' e1=>by have:=(Array.getElem?_eq_some_iff.mp e1).1;lia) fun _=>⟨hh,q⟩
theorem GY    (hL:s.heap.IsTuple l items)
  (h:∀h',IsEnum h' (s.heap.objs.size+1) s.heap.objs.size 0 .none->h'.IsTupleIter s.heap.objs.size l 0->h'.objs.size=s.heap.objs.size+2->(∀b o,s.heap.get? b=some o->h'.get? b=some o)->Q (.ref (s.heap.objs.size+1)) {s with heap:=h' }):
  wpAny (model prog w) A (call (.type "enumerate") [.ref l]) Q E s:=by
 have M:Meets (Builtin.«enumerate.__new__» ⟨[.type "enumerate",.ref l],[]⟩) fun _ R t=>t.heap.IsTuple l items/\∀h',IsEnum h' (t.heap.objs.size+1) t.heap.objs.size 0 .none->h'.IsTupleIter t.heap.objs.size l 0->h'.objs.size=t.heap.objs.size+2->(∀b o,t.heap.get? b=some o->h'.get? b=some o)->R (.ok (.ret (.ref (t.heap.objs.size+1)))) {t with heap:=h' }:=.of_wp fun prog w A R t ⟨hl,q⟩=>by
  have bX:=sub_enumerate
  obtain⟨hp,g,d,tk,os⟩:=t
  obtain⟨⟨c,dc,da,sl⟩,e1,hc,n,hd⟩:=id hl
  have fin:∀f,f=Fin.done (.ret (.ref (hp.push {cls:=.type "tuple_iterator",data:=.fields #[.ref l,.int 0 0]}).objs.size))->∃x,f=.done (.ret x)/\R (.ok (.ret x)) ⟨(hp.push {cls:=.type "tuple_iterator",data:=.fields #[.ref l,.int 0 0]}).push {cls:=.type "enumerate",data:=.fields #[.none,.bool false,.ref hp.objs.size,rawInt 0,.none,.none]},g,d,tk,os⟩:=fun f hf=>by
   have z:=Heap.size_push hp {cls:=.type "tuple_iterator",data:=.fields #[.ref l,.int 0 0]}
   rw[z]at hf
   have y:=Heap.get?_push_size (hp.push {cls:=.type "tuple_iterator",data:=.fields #[.ref l,.int 0 0]}) (o:={cls:=.type "enumerate",data:=.fields #[.none,.bool false,.ref hp.objs.size,rawInt 0,.none,.none]}) rfl
   rw[z]at y
   exact⟨_,hf,q _ y ⟨_,Heap.get?_push_of_some _ (Heap.get?_push_size _ rfl),rfl,rfl⟩ (by rw[Heap.size_push,z]) fun b o x=>Heap.get?_push_of_some _ (Heap.get?_push_of_some _ x)⟩
  wp_walk using AutoSeq1.wpAny_loadPart' e1
  refine wpAny_stack_any fun st=>wpAny_pure ?_
  split
  ·rename_i c _ _ _ _ _
   cases (c==Value.type "enumerate")<;>(wp_walk using AutoSeq1.wpAny_loadPart' e1,wpAny_pyIter_tuple hl;exact fin _ rfl)
  ·wp_walk using AutoSeq1.wpAny_loadPart' e1,wpAny_pyIter_tuple hl
   exact fin _ rfl
 exact callType_new F.called_enumerate (by decide) (F.typeCall_enumerate_1 _) (F.newCall_enumerate_1 _) (fun obj=>F.args_object_init_2 obj _) F.entry_enumerate_new M ⟨hL,fun h' a b c d=>⟨⟨_,a,rfl⟩,h h' a b c d⟩⟩
end
end PySem
namespace L2
open PySem PySem.Spec PyProof.Rows
section
variable {X:Cx} {af:List (Addr×Obj)} {σ:St} {H:Hp} {s:Shared}
theorem Inv.un2  {e it:Addr}(I:Inv X af σ H s)(k:∀b o,b≠e->b≠it->s.heap.get? b=some o->h'.get? b=some o)(f1:FpOk X af H e)(f2:FpOk X af H it):Un (frs X.stack) [e,it] H H s.heap h'/\HOk X.prog X.w H h':=by
 have ne:∀b u,H b=some u->b≠e/\b≠it:=fun b u q=>⟨(fun z=>by rw[z,f1.1]at q;cases q),(fun z=>by rw[z,f2.1]at q;cases q)⟩
 have ef:∀{b:Addr},b ∉ [e,it]->b≠e/\b≠it:=fun hb=>by simpa using hb
 refine⟨⟨fun b o q _ _ hb=>k b o (ef hb).1 (ef hb).2 q,fun b o q _ _ hb=>⟨o.slots,k b o (ef hb).1 (ef hb).2 q⟩,fun _ _ _ n _=>n,fun b o q hb=>⟨o,k b o (ef hb).1 (ef hb).2 q⟩,fun _ _ q=>q,fun _ _ _ q=>q,fun b ps q=>⟨#[],by rw[q];simp⟩⟩,fun b u q=>?_⟩
 refine (I.hok b u q).stay (fun c v hc qv=>?_) (fun _ q=>q) fun _ _ q=>q
 have aE:c≠e/\c≠it:=by
  rcases hc with rfl|hc
  ·exact ne _ _ q
  ·exact ne _ _ hc
 exact k c v aE.1 aE.2 qv
theorem FpOk.ch  (f:FpOk X af H b):(b∈X.ex\/X.s₀.heap.objs.size<=b)/\b≠X.env.locals/\(∀x c,X.env.cells.lookup x=some c->c≠b)/\∀p∈X.pn++af,p.1≠b:=⟨f.2.2.2.1,f.2.1,f.2.2.2.2.1,f.2.2.2.2.2⟩
end
noncomputable def Itn (K:PySem.W.Frag)(a:Addr)(xs:List V):It:=⟨fun i H=>i<xs.length/\SqT K H a xs,fun i H x H'=>∃t v,H t=none/\xs[i]?=some v/\x=.ref t/\H'=upd H t (.tup [.int i,v]),fun i H=>i=xs.length/\SqT K H a xs⟩
theorem Te {P:Program}{w:World}{K:PySem.W.Frag}{eX:List Expr}{x1}{dQ:Pos}(a e it:Addr)(kb:e≠it)(kc:a≠it)(hae:a≠e)(xs:List V):Turn P w K (.Tuple eX x1 dQ) (Itn K a xs) [e,it] e (fun i h=>∃old,IsEnum h e it (i:Nat) old/\h.IsTupleIter it a i) where
 mem:=by simp
 obj:=fun i h st b hb=>by
  obtain⟨old,h1,o,h2,c,d⟩:=st
  rcases List.mem_cons.mp hb with rfl|hb
  ·exact⟨_,h1,fun v z=>by cases z⟩
  ·rw[List.mem_singleton.mp hb]
   exact⟨o,h2,fun v z=>by rw[d]at z;cases z⟩
 keep:=fun i h h' st k=>by
  obtain⟨old,h1,h2⟩:=st
  exact⟨old,k e (by simp) _ h1,h2.at fun o q=>k it (by simp) o q⟩
 item:=by
  intro X hP hw hK hc i af s σ H E I hf st hg
  subst hP hw hK
  obtain⟨hi,hq⟩:=hg
  obtain⟨old,he,aY⟩:=st
  obtain⟨its,rv,p,hz⟩:=I.tuple hq
  have hl:=rv.length
  have pt:s.heap.IsTuple a its.toArray:=p
  have f1:=hf e (by simp)
  have f2:=hf it (by simp)
  have Dw:=Draws.tuple (prog:=X.prog) (w:=X.w) (A:=X.A.in1) (I.ok.hd hc) it a kc its.toArray
  refine wpAny_pyNext_enum_itemD Dw he ⟨aY,pt⟩ (by simp;lia) kb (by simp[kb,Ne.symm hae]) fun u h' tk hu gE hst' hget hsz hk=>?_
  have hT:s.heap.objs.size≠e:=Nat.ne_of_gt (Heap.lt_size he)
  refine⟨_,rfl,wpAny_letOwnedTupleGo_enum gE fun h2 mV bY=>?_⟩
  have fO:∀b o,b≠e->b≠it->s.heap.get? b=some o->h2.get? b=some o:=fun b o h1 h3 q=>(bY.2 b h1).trans (hk b o h1 h3 q)
  obtain⟨un,hok⟩:=I.un2 fO f1 f2
  have hn:H s.heap.objs.size=none:=I.hok.fresh (Nat.le_refl _)
  have hv:xs[i]?=some xs[i]:=by simp[hi]
  obtain⟨u',gI,ru⟩:=rv.get hv
  have eu:u'=u:=by
   have ke:its[i]?=some u:=by simpa using hu
   rw[gI]at ke
   exact Option.some.inj ke
  subst eu
  have hget2:h2.get? s.heap.objs.size=some {cls:=.type "tuple",data:=.seq #[.int i tk,u']}:=(bY.2 _ hT).trans hget
  have new:Cz X.prog X.w (upd H s.heap.objs.size (.tup [.int i,xs[i]])) h2 s.heap.objs.size (.tup [.int i,xs[i]]):=⟨by have:=AA;simp;lia,[.int i tk,u'],.cons ⟨tk,rfl⟩ (.cons ru .nil),_,hget2,rfl,_,rfl⟩
  refine⟨.ref s.heap.objs.size,upd H s.heap.objs.size (.tup [.int i,xs[i]]),I.call' (s':={s with heap:=h2,toks:=tk+1}) (ch:=[e,it]) rfl (un.track (Nat.le_refl _) hn) (hok.track hn new) I.bare (fun b hb=>?_),rfl,⟨_,_,hn,hv,rfl,rfl⟩,?_,fun b hb=>?_⟩
  ·exact (hf b hb).ch
  ·refine⟨u',by simpa using mV,?_⟩
   exact hst'.1.at fun o q=>(bY.2 it (Ne.symm kb)).trans q
  ·have fU:=hf b hb
   have:∃o,s.heap.get? b=some o:=by
    rcases List.mem_cons.mp hb with rfl|hb
    ·exact⟨_,he⟩
    ·rw[List.mem_singleton.mp hb]
     obtain⟨o,ho,_⟩:=aY
     exact⟨o,ho⟩
   obtain⟨o,ho⟩:=this
   rw[Ah (Nat.ne_of_lt (Heap.lt_size ho))]
   exact fU.1
 done:=by
  intro X hP hw hK hc i af s σ H E I hf st hg
  subst hP hw hK
  obtain⟨hi,hq⟩:=hg
  subst hi
  obtain⟨old,he,aY⟩:=st
  obtain⟨its,rv,p,hz⟩:=I.tuple hq
  have hl:=rv.length
  have pt:s.heap.IsTuple a its.toArray:=p
  have Dw:=Draws.tuple (prog:=X.prog) (w:=X.w) (A:=X.A.in1) (I.ok.hd hc) it a kc its.toArray
  obtain⟨f0,f1,f2,f3,f4,f5⟩:=hf it (by simp)
  refine wpAny_pyNext_enum_endD Dw he ⟨by rw[List.size_toArray,<-hl];exact aY,pt⟩ fun h' eb=>⟨rfl,I.turned (t':=s.toks) (fun b o hb e=>eb b o hb e) f0 f1 f3 f4 f5⟩
 self:=fun A i s Q E st h=>by
  obtain⟨old,he,_⟩:=st
  exact wpAny_pyIter_enum he h
noncomputable def YH (K:PySem.W.Frag)(tl:TE):TI:=fun σ H R=>tl σ H fun x H1=>∃a xs,x=.ref a/\SqT K H1 a xs/\R (Itn K a xs) H1
theorem Se {K:PySem.W.Frag}     : YH K te σ H Z=te σ H fun x H1=>∃a xs,x=.ref a/\SqT K H1 a xs/\Z (Itn K a xs) H1:=rfl
theorem YI {K:PySem.W.Frag}       : gTup K n t v σ H N=∃a xs,v=.ref a/\SqT K H a xs/\xs.length=n/\t xs σ H N:=rfl
theorem Vu       : AS_ t u vs σ H N=∃v r,vs=v::r/\t v σ H fun ah H'=>u r ah H' N:=rfl
theorem YJ     : gNil vs σ H N=(vs=[]/\N σ H):=rfl
theorem W5   {x1}     (hg:Gl X "enumerate")(hm:X.mg "enumerate"=none)(he:PE X e te)(hs:starEach [e] X.env=[(false,eval e X.env)]:=by rfl):PI X (.Tuple eX x1 dQ) (.Call (.Name "enumerate" p) [e] [] pos) (YH X.K te):=by
 intro af s σ H R I h
 refine Call_ (He I hg hm boot_enumerate (PyProof.Rows.callWith_type1 (thn (Aa he Ad hs pos af s σ H (fun vs H1=>∃a xs,vs=[.ref a]/\SqT X.K H1 a xs/\R (Itn X.K a xs) H1) I ?_) fun us s1 ⟨vs,H1,I1,r1,q1⟩=>?_) hs rfl))
 ·show te σ H _
  have:(fun x H1=>∃a xs,x=V.ref a/\SqT X.K H1 a xs/\R (Itn X.K a xs) H1)=(fun x H1=>tNil σ H1 fun xs H2=>∃a ys,x::xs=[V.ref a]/\SqT X.K H2 a ys/\R (Itn X.K a ys) H2):=by
   funext x H1
   simp[tNil]
  rw[<-this]
  exact h
 ·obtain⟨a,xs,rfl,hq,q⟩:=q1
  cases r1 with
  |cons r rr=>
   cases rr
   cases r
   obtain⟨its,rv,p,hz⟩:=I1.tuple hq
   have pt:s1.heap.IsTuple a its.toArray:=p
   obtain⟨oa,hoa,_⟩:=id pt
   have ha:=Heap.lt_size hoa
   refine GY pt fun h' eA dS hsz hk=>?_
   refine wpAny_pyIter_enum (s:={s1 with heap:=h' }) eA ?_
   have I2:Inv X af σ H1 {s1 with heap:=h' }:=I1.kept (t':=s1.toks) hk
   refine⟨s1.heap.objs.size+1,[s1.heap.objs.size+1,s1.heap.objs.size],_,_,H1,rfl,I2,Te a (s1.heap.objs.size+1) s1.heap.objs.size (Nat.succ_ne_self _) (Nat.ne_of_lt ha) (Nat.ne_of_lt (Nat.lt_succ_of_lt ha)) xs,⟨_,eA,dS⟩,fun b hb=>?_,q⟩
   have aN:s1.heap.objs.size<=b:=by
    rcases List.mem_cons.mp hb with rfl|hb
    ·lia
    ·rw[List.mem_singleton.mp hb];exact Nat.le_refl _
   exact I1.fpOk aN (I1.hok.fresh aN)
theorem forN {K:PySem.W.Frag}        (Pv:Nat->St->Hp->Prop)(h0:Pv 0 σ H)(hl:∀i σ H,i<=xs.length->Pv i σ H->SqT K H a xs)
  (hs:∀i v σ H t,xs[i]?=some v->Pv i σ H->H t=none->g (.ref t) σ (upd H t (.tup [.int i,v])) fun aj H2=>tb {D with nx:=Pv (i+1),ct:=Pv (i+1),bk:=D.nx} aj H2) (hd:∀σ H,Pv xs.length σ H->D.nx σ H):ForW (Itn K a xs) g tb D σ H:=by
 refine⟨fun i m σ H=>m=xs.length-i/\i<=xs.length/\Pv i σ H,⟨xs.length,by simp,Nat.zero_le _,h0⟩,?_⟩
 rintro i m σ H ⟨rfl,hi,p⟩
 by_cases ar:i<xs.length
 ·refine .inr ⟨⟨ar,hl i σ H hi p⟩,Pv (i+1),fun ah H' p'=>⟨xs.length-(i+1),by lia,rfl,ar,p'⟩,fun x H' y=>?_⟩
  obtain⟨t,v,hn,hv,rfl,rfl⟩:=y
  exact hs i v σ H t hv p hn
 ·have e:i=xs.length:=by lia
  subst e
  exact .inl ⟨⟨rfl,hl _ σ H hi p⟩,hd σ H p⟩
section
variable {td ty tv tx:TE} {D:Ends} {σ:St} {H:Hp} {Q:VK}
theorem YK:Bj_ td ty σ H Q=td σ H fun x H1=>ty σ H1 fun y H2=>∃a v,x=.ref a/\DGet H2 a y (some v)/\Q v H2:=rfl
theorem Sf:U7 ty td σ H Q=ty σ H fun y H1=>td σ H1 fun x H2=>∃a o,x=.ref a/\DGet H2 a y o/\Q (.bl (!o.isSome)) H2:=rfl
theorem YL:Bk_ td ty tv D σ H=tv σ H fun v H1=>td σ H1 fun x H2=>ty σ H2 fun y H3=>∃a H4,x=.ref a/\DPut H3 a y v H4/\D.nx σ H4:=rfl
theorem Vv:Vb td ty σ H Q=td σ H fun x H1=>∃a,x=.ref a/\IsD H1 a/\ty σ H1 fun y H2=>∃o,DGet H2 a y o/\Q (o.getD .non) H2:=rfl
theorem YM  : ZH fY σ H Q=∀p,H p=none->KC fY σ (upd H p (.dK [])) fun ps H2=>H2 p=some (.dK [])/\∃kvs:List (Key×V),ps=kvs.map (fun kv=>(kV kv.1,kv.2))/\kvs.length<=15/\Q (.ref p) (upd H2 p (.dK (Jw [] kvs))):=rfl
theorem Sg  : KC [] σ H R=R [] H:=rfl
theorem Sh   : KC ((td,tv)::r) σ H R=td σ H fun x H1=>tv σ H1 fun y H2=>KC r σ H2 fun ps H3=>R ((x,y)::ps) H3:=rfl
end
end L2
namespace GW
noncomputable def EB (w:List Int):List (Int×List Int)->Nat->List Int->List (Int×List Int)
 |ents,_,[]=>ents
 |ents,x,g::r=>EB w (if g∈ents.map (·.1) then ents else ents++[(g,w++[(x:Int)])]) (x+1) r
noncomputable def bfs (ae:List (List Int)):Nat->List (Int×List Int)->Nat->List (Int×List Int)
 |0,ents,_=>ents
 |f+1,ents,i=>match ents[i]? with
  |none=>ents
  |some e=>bfs ae f (EB e.2 ents 0 (ae.getD e.1.toNat [])) (i+1)
noncomputable def Ax (ae:List (List Int)):List (Int×List Int):=bfs ae (ae.length+1) [(0,[])] 0
theorem Nw {ae:List (List Int)}{ents:List (Int×List Int)}{i:Nat}(h:ents[i]?=none):∀f,bfs ae f ents i=ents
 |0=>rfl
 |f+1=>by rw[bfs,h]
theorem Nx  {ents:List (Int×List Int)}   (h:ents[i]?=some e)(f:Nat):bfs ae (f+1) ents i=bfs ae f (EB e.2 ents 0 (ae.getD e.1.toNat [])) (i+1):=by rw[bfs,h]
theorem KI:∀(n:Nat) {l:List Int},l.Nodup->(∀x∈l,0<=x/\x<(n:Int))->l.length<=n
 |0,l,_,h=>by
  cases l with
  |nil=>simp
  |cons x r=>have:=h x List.mem_cons_self;lia
 |n+1,l,hn,h=>by
  by_cases hm:(n:Int)∈l
  ·have e:=List.length_erase_of_mem hm
   have:=KI n (l:=l.erase (n:Int)) (hn.erase _) (fun x hx=>by
    have h1:=(hn.mem_erase_iff).mp hx
    have h2:=h x h1.2
    have h3:=h1.1
    lia)
   lia
  ·have:=KI n hn (fun x hx=>by
    have h2:=h x hx
    have:x≠n:=fun z=>hm (z ▸ hx)
    lia)
   lia
structure Bfs (L:Int)(n:Nat)(ae:List (List Int))(ents:List (Int×List Int))(i:Nat)(top:Int):Prop where
 hd:ents[0]?=some (0,[])
 il:i<=ents.length
 sh:∀(j:Nat) (e:Int×List Int),ents[j]?=some e->e.2.length<=j
 nod:(ents.map (·.1)).Nodup
 rng:∀e∈ents,0<=e.1/\e.1<(n:Int)
 wd:∀e∈ents,isW L e.2=true/\AL ae e.2=e.1
 inc:∀(j k:Nat) (a b:Int×List Int),j<k->ents[j]?=some a->ents[k]?=some b->AG L a.2<AG L b.2
 bnd:∀e∈ents,AG L e.2<top
 don:∀j,j<i->∀e,ents[j]?=some e->∀x:Int,0<=x->x<L->∃e'∈ents,e'.1=Bm ae e.1 x/\AG L e'.2<=AG L (e.2++[x])
theorem Bfs.len    {ents:List (Int×List Int)}   (h:Bfs L n ae ents i top):ents.length<=n:=by
 have:=KI n h.nod (fun x hx=>by
  obtain⟨e,he,rfl⟩:=List.mem_map.mp hx
  exact h.rng e he)
 simpa using this
theorem Bfs.start (L:Int)  (hn:1<=n)(ae:List (List Int)):Bfs L n ae [(0,[])] 0 1:=by
 refine⟨rfl,by simp,(fun j e he=>by cases j with|zero=>(simp at he;subst he;simp)|succ j=>simp at he),by simp,fun e he=>?_,fun e he=>?_,fun j k a b h h1 h2=>?_,fun e he=>?_,fun j hj=>absurd hj (Nat.not_lt_zero _)⟩
 ·simp at he;subst he;simp;lia
 ·simp at he;subst he;exact⟨rfl,rfl⟩
 ·have:=(List.getElem?_eq_some_iff.mp h2).1;simp at this;lia
 ·simp at he;subst he;simp[AG,Dd]
theorem Bfs.add  (hL:0<L)   {ents:List (Int×List Int)}   (h:Bfs L n ae ents i top)   (hw:(r,w)∈ents)(hx:0<=x/\x<L)(ht:top<=AG L w*L+x+1)
  (hg:g=Bm ae r x) (cA:0<=g/\g<(n:Int)) (ie:g∉ents.map (·.1)):Bfs L n ae (ents++[(g,w++[x])]) i (AG L w*L+x+2):=by
 obtain⟨v1,v2⟩:=h.wd _ hw
 have hp:=IF L w x
 have ak:0<ents.length:=by have:=(List.getElem?_eq_some_iff.mp h.hd).1;lia
 refine⟨?_,by have:=h.il;simp;lia,fun j e he=>?_,?_,fun e he=>?_,fun e he=>?_,fun j k a b gJ h1 h2=>?_,fun e he=>?_,fun j hj e he y kf iu=>?_⟩
 ·rw[List.getElem?_append_left ak];exact h.hd
 ·have hj:=(List.getElem?_eq_some_iff.mp he).1
  rw[List.length_append,List.length_singleton]at hj
  by_cases dU:j<ents.length
  ·rw[List.getElem?_append_left dU]at he
   exact h.sh j e he
  ·have e1:j=ents.length:=by lia
   subst e1
   rw[List.getElem?_append_right (Nat.le_refl _),Nat.sub_self]at he
   simp at he
   subst he
   obtain⟨j',eB,ej⟩:=List.getElem_of_mem hw
   have:=h.sh j' (r,w) (by rw[List.getElem?_eq_getElem eB,ej])
   have this':w.length<=j':=this
   show (w++[x]).length<=ents.length
   simp;lia
 ·rw[List.map_append,List.nodup_append]
  refine⟨h.nod,by simp,fun a ha b hb=>?_⟩
  simp at hb
  subst hb
  exact fun z=>ie (z ▸ ha)
 ·rcases List.mem_append.mp he with he|he
  ·exact h.rng e he
  ·rw[List.mem_singleton.mp he];exact cA
 ·rcases List.mem_append.mp he with he|he
  ·exact h.wd e he
  ·rw[List.mem_singleton.mp he]
   refine⟨?_,?_⟩
   ·rw[AU]at v1 ⊢
    intro z hz
    rcases List.mem_append.mp hz with hz|hz
    ·exact v1 z hz
    ·rw[List.mem_singleton.mp hz];exact hx
   ·show AL ae (w++[x])=g
    rw[EV]
    have v2':AL ae w=r:=v2
    rw[v2',hg]
 ·have hk:=(List.getElem?_eq_some_iff.mp h2).1
  rw[List.length_append,List.length_singleton]at hk
  by_cases mW:k<ents.length
  ·rw[List.getElem?_append_left mW]at h2
   rw[List.getElem?_append_left s!""]at h1
   exact h.inc j k a b gJ h1 h2
  ·have hke:k=ents.length:=by lia
   subst hke
   rw[List.getElem?_append_left s!""]at h1
   rw[List.getElem?_append_right (Nat.le_refl _),Nat.sub_self]at h2
   simp at h2
   subst h2
   have:=h.bnd a (List.mem_of_getElem? h1)
   show AG L a.2<AG L (w++[x])
   rw[hp];lia
 ·rcases List.mem_append.mp he with he|he
  ·have:=h.bnd e he;lia
  ·rw[List.mem_singleton.mp he]
   show AG L (w++[x])<_
   rw[hp];lia
 ·have dU:j<ents.length\/j=ents.length:=by
   have:=(List.getElem?_eq_some_iff.mp he).1
   rw[List.length_append,List.length_singleton]at this
   lia
  rcases dU with dU|dU
  ·rw[List.getElem?_append_left dU]at he
   obtain⟨e',m,q⟩:=h.don j hj e he y kf iu
   exact⟨e',List.mem_append_left _ m,q⟩
  ·exact absurd dU (by have:=h.il;lia)
theorem Bfs.up    {ents:List (Int×List Int)}   (h:Bfs L n ae ents i top)(ht:top<=eY):Bfs L n ae ents i eY :=
 ⟨h.hd,h.il,h.sh,h.nod,h.rng,h.wd,h.inc,fun e he=>Int.lt_of_lt_of_le (h.bnd e he) ht,h.don⟩
noncomputable def Seen (L:Int)(ae:List (List Int))(ents:List (Int×List Int))(r:Int)(w:List Int)(x:Nat):Prop:=∀y:Int,0<=y->y<x->∃e'∈ents,e'.1=Bm ae r y/\AG L e'.2<=AG L (w++[y])
theorem Bfs.letter {L:Int}(hL:0<L){n:Nat}{ae:List (List Int)}{ents:List (Int×List Int)}{i x:Nat}{w:List Int}{r g:Int}(h:Bfs L n ae ents i (AG L w*L+x+1))(hs:Seen L ae ents r w x)(hw:(r,w)∈ents)(hx:(x:Int)<L)
  (hg:g=Bm ae r x) (cA:0<=g/\g<(n:Int)):Bfs L n ae (if g∈ents.map (·.1) then ents else ents++[(g,w++[(x:Int)])]) i (AG L w*L+((x+1:Nat):Int)+1)/\Seen L ae (if g∈ents.map (·.1) then ents else ents++[(g,w++[(x:Int)])]) r w (x+1):=by
 by_cases hm:g∈ents.map (·.1)
 ·rw[if_pos hm]
  refine⟨h.up (by push_cast;lia),fun y kf iu=>?_⟩
  by_cases j4:y<x
  ·exact hs y kf j4
  ·have e:y=x:=by push_cast at iu;lia
   subst e
   obtain⟨e',eA,e1⟩:=List.mem_map.mp hm
   refine⟨e',eA,by rw[<-hg];exact e1,?_⟩
   have:=h.bnd e' eA
   rw[IF];lia
 ·rw[if_neg hm]
  refine⟨(h.add hL hw ⟨by lia,hx⟩ (Int.le_refl _) hg cA hm).up (by push_cast;lia),fun y kf iu=>?_⟩
  by_cases j4:y<x
  ·obtain⟨e',m,q⟩:=hs y kf j4
   exact⟨e',List.mem_append_left _ m,q⟩
  ·have e:y=x:=by push_cast at iu;lia
   subst e
   exact⟨_,List.mem_append_right _ List.mem_cons_self,hg,Int.le_refl _⟩
theorem Bfs.next {L:Int}(hL:0<L){n i m:Nat}{ae:List (List Int)}{ents:List (Int×List Int)}{w:List Int}{r:Int}(h:Bfs L n ae ents i (AG L w*L+m+1))(hm:(m:Int)=L)(hs:Seen L ae ents r w m)(hw:ents[i]?=some (r,w)):
  Bfs L n ae ents (i+1) (AG L w*L+L+1)/\∀e,ents[i+1]?=some e->AG L w*L+L+1<=AG L e.2*L+1:=by
 have hi:=(List.getElem?_eq_some_iff.mp hw).1
 rw[hm]at h
 refine⟨⟨h.hd,hi,h.sh,h.nod,h.rng,h.wd,h.inc,h.bnd,fun j hj e he x h0 h1=>?_⟩,fun e he=>?_⟩
 ·by_cases hji:j<i
  ·exact h.don j hji e he x h0 h1
  ·have e1:j=i:=by lia
   subst e1
   rw[hw]at he
   cases he
   exact hs x h0 s!""
 ·have:=h.inc i (i+1) _ _ (Nat.lt_succ_self _) hw he
  have h2:=Int.mul_le_mul_of_nonneg_right (show AG L w+1<=AG L e.2 from this) (Int.le_of_lt hL)
  rw[Int.add_mul]at h2
  lia
theorem IH (w:List Int)(ents:List (Int×List Int))(x:Nat):EB w ents x []=ents:=rfl
theorem Hq (w:List Int)(ents:List (Int×List Int))(x:Nat)(g:Int)(r:List Int):EB w ents x (g::r)=EB w (if g∈ents.map (·.1) then ents else ents++[(g,w++[(x:Int)])]) (x+1) r:=rfl
theorem Hr {ents:List (Int×List Int)}{g:Int}{v:List Int}{i:Nat}{e:Int×List Int}(h:ents[i]?=some e):(if g∈ents.map (·.1) then ents else ents++[(g,v)])[i]?=some e:=by
 split
 ·exact h
 ·rw[List.getElem?_append_left (List.getElem?_eq_some_iff.mp h).1];exact h
end GW
namespace L2
open PySem PySem.Spec PyProof.Rows
noncomputable def ups (n:Nat):List Int:=(List.range n).map fun i:Nat=>(i:Int)
noncomputable def Si (te:TE):TE:=fun σ H Q=>te σ H fun x H1=>∃j:Int,x=.int j/\0<=j/\j<=100000/\∀p,H1 p=none->Q (.ref p) (upd H1 p (.lst ((ups j.toNat).map V.int)))
theorem Po     : Si te σ H Q=te σ H fun x H1=>∃j:Int,x=.int j/\0<=j/\j<=100000/\∀p,H1 p=none->Q (.ref p) (upd H1 p (.lst ((ups j.toNat).map V.int))):=rfl
theorem Vw   (h:ItemsOf (fun i v=>∃t,v=.int ((0:Int)+(i:Nat)*1) t) ai n):Vals ((ups n).map V.int) ai.toList:=by
 have hs:=h.1
 have key:∀(l:List Value) (k:Nat),(∀i v,l[i]?=some v->∃t,v=Value.int ((k+i:Nat):Int) t)->Vals (((List.range l.length).map fun i=>((k+i:Nat):Int)).map V.int) l:=by
  intro l
  induction l with
  |nil=>intro k _;exact .nil
  |cons u r ih=>
   intro k hk
   rw[List.length_cons,List.range_succ_eq_map,List.map_cons,List.map_cons]
   refine .cons ?_ ?_
   ·obtain⟨t,e⟩:=hk 0 u (by simp)
    exact⟨t,by simpa using e⟩
   ·have:=ih (k+1) (fun i v hv=>by
     obtain⟨t,e⟩:=hk (i+1) v (by simpa using hv)
     exact⟨t,by rw[e];congr 1;push_cast;lia⟩)
    have e:((List.map Nat.succ (List.range r.length)).map fun i=>((k+i:Nat):Int))=((List.range r.length).map fun i=>((k+1+i:Nat):Int)):=by
     rw[List.map_map]
     apply List.map_congr_left
     intro i _
     show ((k+(i+1):Nat):Int)=_
     congr 1;lia
    rw[e]
    exact this
 have:=key ai.toList 0 (fun i v hv=>by
  obtain⟨t,e⟩:=h.2 i v (by simpa using hv)
  exact⟨t,by rw[e];congr 1;push_cast;lia⟩)
 have hl:ai.toList.length=n:=by simpa using hs
 rw[hl]at this
 have e2:((List.range n).map fun i=>((0+i:Nat):Int))=ups n:=by
  unfold ups
  apply List.map_congr_left
  intro i _
  congr 1;lia
 rw[e2]at this
 exact this
theorem II     (hc:X.calm=true)(hg:Gl X "list")(hm:X.mg "list"=none)(iw:Gl X "range")(kg:X.mg "range"=none)(he:PE X e te)
  (jz:starEach [.Call (.Name "range" p2) [e] [] cT] X.env=[(false,eval (.Call (.Name "range" p2) [e] [] cT) X.env)]:=by rfl) (hs:starEach [e] X.env=[(false,eval e X.env)]:=by rfl):
  PE X (.Call (.Name "list" p) [.Call (.Name "range" p2) [e] [] cT] [] pos) (Si te):=by
 intro af s σ H Q I h
 refine wpAny_Call_Name_kw (He I hg hm boot_list ?_)
 refine PyProof.Rows.callWith_type1 ?_ jz rfl
 rw[jz]
 refine Calls.spliced_cons ?_
 refine Call_ (He I iw kg boot_range (PyProof.Rows.callWith_type1 (thn (Aa he Ad hs cT af s σ H (fun vs H1=>∃j:Int,vs=[.int j]/\0<=j/\j<=100000/\∀p,H1 p=none->Q (.ref p) (upd H1 p (.lst ((ups j.toNat).map V.int)))) I ?_) fun us s1 ⟨vs,H1,I1,r1,q1⟩=>?_) hs rfl))
 ·show te σ H _
  have:(fun x H1=>∃j:Int,x=V.int j/\0<=j/\j<=100000/\∀p,H1 p=none->Q (.ref p) (upd H1 p (.lst ((ups j.toNat).map V.int))))=(fun x H1=>tNil σ H1 fun xs H2=>∃j:Int,x::xs=[V.int j]/\0<=j/\j<=100000/\∀p,H2 p=none->Q (.ref p) (upd H2 p (.lst ((ups j.toNat).map V.int)))):=by
   funext x H1
   simp[tNil]
  rw[<-this]
  exact h
 ·obtain⟨j,rfl,h0,h1,q⟩:=q1
  cases r1 with
  |cons r rr=>
   cases rr
   obtain⟨t,rfl⟩:=r
   refine call_range_1 ?_
   refine Calls.spliced_nil ?_
   refine call_list_range (n:=j.toNat) (I.ok.hd hc) (IsRange.new ..) (small_one s!"" s!"" s!"" s!"") ?_ s!"" fun h' tk cU c' hk hS bV=>?_
   ·rw[rangeSize_one];split<;>lia
   ·have kp:∀b o,s1.heap.get? b=some o->h'.get? b=some o:=fun b o e=>hk b o (Heap.get?_push_of_some _ e)
    have hz:(ups j.toNat).length=j.toNat:=by simp[ups]
    have hl:=AA
    refine⟨.ref _,_,I1.laid (t':=tk) kp (by rw[Heap.size_push];exact Nat.le_succ _) (show Cz X.prog X.w _ h' _ (.lst ((ups j.toNat).map V.int)) from ⟨by rw[List.length_map,hz];lia,cU.toList,c',Vw bV,by simpa using hS⟩),rfl,q _ (I1.hok.fresh (by rw[Heap.size_push];exact Nat.le_succ _))⟩
noncomputable def rNeD (K:PySem.W.Frag)(n:Nat):R2:=fun x y H Q=>∃a c b,x=.ref a/\y=.ref c/\EqD K H n x y b/\Q (.bl (!b)) H
theorem BK_ {K:PySem.W.Frag}     : rNeD K n x y H Q=∃a c b,x=.ref a/\y=.ref c/\EqD K H n x y b/\Q (.bl (!b)) H:=rfl
theorem YN  (n:Nat)(hu:X.A.units+n<cLine):OpR X (compareOp .NotEq) (rNeD X.K n):=by
 intro af s σ H x y v u Q I rx ry h
 obtain⟨a,c,b,rfl,rfl,h,q⟩:=h
 cases rx
 cases ry
 cases n with
 |zero=>exact absurd (show false=true from h.1) Bool.false_ne_true
 |succ n=>
  rcases h with ⟨fx,_⟩|⟨a',c',xs,ys,e1,e2,hq,e,he,rfl⟩
  ·exact absurd (show false=true from fx) Bool.false_ne_true
  ·cases e1
   cases e2
   have key:∀(its az:List Value),Vals xs its->Vals ys az->∀j (h1:j<its.toArray.size) (h2:j<az.toArray.size),SeqAt.EqAt X.A.in1 s its.toArray[j] az.toArray[j] (e j):=fun its az r1 r2 j h1 h2=>by
    have l1:=r1.length
    have l2:=r2.length
    rw[List.size_toArray]at h1 h2
    obtain⟨u1,g1,q1⟩:=r1.get (i:=j) (x:=xs[j]'s!"") (by simp[show j<xs.length by lia])
    obtain⟨u2,g2,q2⟩:=r2.get (i:=j) (x:=ys[j]'s!"") (by simp[show j<ys.length by lia])
    have k1:its.toArray[j]'(by rw[List.size_toArray];exact h1)=u1:=by
     have:=(List.getElem?_eq_some_iff.mp g1).2
     simpa using this
    have k2:az.toArray[j]'(by rw[List.size_toArray];exact h2)=u2:=by
     have:=(List.getElem?_eq_some_iff.mp g2).2
     simpa using this
    rw[k1,k2]
    exact (EqD.at I n X.A.in1 (by rw[in1_units];lia) q1 q2 (he j _ _ (by simp[show j<xs.length by lia]) (by simp[show j<ys.length by lia]))).1
   have fin:EP X af σ Q (.bool (!(decide (xs.length=ys.length)&&(List.range (min xs.length ys.length)).all e))) s:=⟨.bl _,H,I,rfl,q⟩
   rcases hq with ⟨h1,h2⟩|⟨h1,h2⟩
   ·obtain⟨its,r1,p1,_⟩:=I.list h1
    obtain⟨az,r2,p2,_⟩:=I.list h2
    have l1:=r1.length
    have l2:=r2.length
    by_cases hl:xs.length=ys.length
    ·have:=SeqAt.RcNeAt.lists (e:=e) p1.isList p2.isList (by rw[List.size_toArray,List.size_toArray];lia) s!"" (key its az r1 r2)
     rw[List.size_toArray,<-l1]at this
     rw[decide_eq_true hl,Bool.true_and,<-hl,Nat.min_self]at fin
     exact this _ _ _ _ fin
    ·have:=SeqAt.RcNeAt.lists_lengths (A:=X.A) p1.isList p2.isList (by rw[List.size_toArray,List.size_toArray];simp;lia) s!""
     rw[decide_eq_false hl,Bool.false_and]at fin
     exact this _ _ _ _ fin
   ·obtain⟨its,r1,p1,_⟩:=I.tuple h1
    obtain⟨az,r2,p2,_⟩:=I.tuple h2
    have l1:=r1.length
    have l2:=r2.length
    have:=SeqAt.RcNeAt.tuples (e:=e) (show s.heap.IsTuple a its.toArray from p1) (show s.heap.IsTuple c az.toArray from p2) s!"" (key its az r1 r2)
    rw[List.size_toArray,List.size_toArray,<-l1,<-l2,Vg]at this
    exact this _ _ _ _ fin
noncomputable def Vx (tk tv:TE):TE:=ZH [(tk,tv)]
theorem W6     (hk:PE X k tk)(hv:PE X v tv):PE X (.Dict [some k] [v] pos) (Vx tk tv):=ZI (WY hk hv ZG) rfl rfl (by intro z;cases z) (by show 1<=15;decide)
theorem Vy     : Vx tk tv σ H Q=∀p,H p=none->tk σ (upd H p (.dK [])) fun x H1=>tv σ H1 fun y H2=>H2 p=some (.dK [])/\∃kvs:List (Key×V),[(x,y)]=kvs.map (fun kv=>(kV kv.1,kv.2))/\kvs.length<=15/\Q (.ref p) (upd H2 p (.dK (Jw [] kvs))):=rfl
theorem ZQ {X:Cx}{i:Nat}{x:Str}{k v:Expr}{tk tv:TE}{pos bK dpos:Pos}(hN:X.N.Nodup)(hi:X.N[i]?=some x)(hx:Loc X.env.scope x)(hk:PE X k tk)(hv:PE X v tv)(hs:swapsWith (.Dict [some k] [v] dpos) (some (.Name x bK)) pos.line X.env=pure false)
  (hf:X.fn x=true\/X.env.scope.names.lookup x=some .local):PS X (.Assign [.Name x bK] (.Dict [some k] [v] dpos) pos) (tAsg (Vx tk tv) (Mb i)):=CG hN hi hx (W6 hk hv) hs hf
end L2
namespace L2
open PySem GW
noncomputable def mkW (aa:List Int)(r:Int):Int:=aa.getD r.toNat 0
theorem YO   (h0:0<=r)(h1:r<aa.length):mkW aa r∈aa:=by
 have ar:r.toNat<aa.length:=by lia
 unfold mkW
 rw[List.getD_eq_getElem?_getD,List.getElem?_eq_getElem ar]
 exact List.getElem_mem ar
theorem BL_   (h0:0<=r)(h1:r<aa.length):atI (aa.map V.int) r=some (V.int (mkW aa r)):=by
 have ar:r.toNat<aa.length:=by lia
 refine CF h0 ?_
 unfold mkW
 rw[List.getD_eq_getElem?_getD,List.getElem?_eq_getElem ar];rfl
end L2
namespace GW
theorem Bfs.least {L:Int}{n:Nat}{ae:List (List Int)}{top:Int}{ents:List (Int×List Int)}(h:Bfs L n ae ents ents.length top){ws:List Int}(hv:isW L ws=true):∀i,i<=ws.length->∃w',(AL ae (ws.take i),w')∈ents/\AG L w'<=AG L (ws.take i)
 |0,_=>⟨[],by simpa [AL] using List.mem_of_getElem? h.hd,by simp⟩
 |i+1,hi=>by
  obtain⟨w',m,hp⟩:=Bfs.least h hv i s!""
  have fL:ws[i]?=some ws[i]:=by simp
  have bC:=AU.mp hv ws[i] (List.getElem_mem _)
  obtain⟨j,hj,ej⟩:=List.getElem_of_mem m
  obtain⟨e',me,e1,e2⟩:=h.don j hj _ (by rw[List.getElem?_eq_getElem hj,ej]) ws[i] bC.1 bC.2
  obtain⟨g,v⟩:=e'
  have e1:g=Bm ae (AL ae (ws.take i)) ws[i]:=e1
  have e2:AG L v<=AG L (w'++[ws[i]]):=e2
  have et:ws.take (i+1)=ws.take i++[ws[i]]:=by rw[List.take_add_one,fL];rfl
  have hL:0<=L:=by lia
  refine⟨v,?_,?_⟩
  ·rw[et,EV,<-e1];exact me
  ·rw[et]
   rw[IF]at e2 ⊢
   have:=Int.mul_le_mul_of_nonneg_right hp hL
   lia
end GW
namespace L2
open PySem PySem.Spec PyProof.Rows
theorem Vals.ofIx:∀{xs:List V} {us:List Value},us.length=xs.length->(∀(i:Nat) (v:Value),us[i]?=some v->∃x,xs[i]?=some x/\RelV x v)->Vals xs us
 |[],[],_,_=>.nil
 |[],_::_,h,_=>by simp at h
 |_::_,[],h,_=>by simp at h
 |x::xs,u::us,h,k=>by
  refine .cons ?_ (Vals.ofIx (by simpa using h) fun i v hv=>?_)
  ·obtain⟨y,e,r⟩:=k 0 u rfl
   cases e
   exact r
  ·obtain⟨y,e,r⟩:=k (i+1) v (by simpa using hv)
   exact⟨y,by simpa using e,r⟩
theorem Vz   (h:Qz k v=true):RelV (kV k) v:=by
 rcases BG h with ⟨i,t,rfl,e⟩|⟨x,t,rfl,e⟩
 ·exact⟨t,e⟩
 ·exact⟨t,e⟩
theorem Mf  (hc:X.calm=true):EG X (.type "list") (fun xs H Q=>∃p kvs,xs=[.ref p]/\H p=some (.dK kvs)/\∀l,H l=none->Q (.ref l) (upd H l (.lst (kvs.map fun kv=>kV kv.1)))):=by
 intro af s σ H xs us Q I r h
 obtain⟨p,kvs,rfl,hp,q⟩:=h
 obtain⟨u,rfl,rx⟩:=vals1 r
 cases rx
 obtain⟨hz,hS,vs,rr,m⟩:=WW I.hok hp
 obtain⟨ep,kh⟩:=m.dictAt
 have ak:=rr.length
 have hks:=rr.keys
 refine PySem.W.kdl_call (PySem.W.kdl_dict (knd:=BM X.prog X.w) (kvs:=vs) (ep:=ep) hS) (I.ok.hd hc) kh s!"" fun h' tk cU c' hk hD bV=>?_
 have hv:Vals (kvs.map fun kv=>kV kv.1) cU.toList:=by
  refine Vals.ofIx (by rw[List.length_map,ak];simpa using bV.1) fun i v hv=>?_
  obtain⟨k,x,hx,bM⟩:=bV.2 i v (by simpa using hv)
  refine⟨kV k,?_,Vz bM⟩
  have e1:(kvs.map (·.1))[i]?=some k:=by rw[hks,List.getElem?_map,hx];rfl
  rw[List.getElem?_map]at e1 ⊢
  cases hq:kvs[i]? with
  |none=>rw[hq]at e1;cases e1
  |some kv=>rw[hq]at e1;cases e1;rfl
 exact⟨.ref _,_,I.laid (t':=tk) hk (Nat.le_refl _) (show Cz X.prog X.w _ h' _ (.lst (kvs.map fun kv=>kV kv.1)) from ⟨by rw[List.length_map];exact hz,cU.toList,c',hv,by simpa using hD⟩),rfl,q _ (I.hok.fresh (Nat.le_refl _))⟩
end L2
namespace L2
theorem r_in {K:PySem.W.Frag}     : rIn K ig x y H Q=∃p xs,y=.ref p/\(SqL K H p xs\/SqT K H p xs)/\DO x=true/\xs.all DO=true/\Q (.bl (if ig then !inV x xs else inV x xs)) H:=rfl
theorem KJ (ns:List Int):(ns.map V.int).all DO=true:=by
 rw[List.all_eq_true]
 intro x hx
 obtain⟨n,_,rfl⟩:=List.mem_map.mp hx
 rfl
theorem Sj (g:Int)(ns:List Int):inV (.int g) (ns.map V.int)=decide (g∈ns):=by
 unfold inV
 rw[List.any_map,Bool.eq_iff_iff,List.any_eq_true,decide_eq_true_eq]
 constructor
 ·rintro⟨n,hn,e⟩
  have e:decide (n=g)=true:=by simpa [eqV] using e
  rw[<-of_decide_eq_true e];exact hn
 ·exact fun h=>⟨g,h,by simp[eqV]⟩
end L2
namespace L2
open PySem PySem.Spec PyProof.Rows
noncomputable def rng (i j:Int):List Int:=(List.range (j-i).toNat).map fun k:Nat=>i+(k:Int)
end L2
namespace GW
open L2
theorem KL:∀{l m:List Int},l.Nodup->(∀x∈l,x∈m)->m.length<=l.length->l.Perm m
 |[],m,_,_,h=>by
  have:m=[]:=List.eq_nil_of_length_eq_zero (by simpa using h)
  subst this;exact .refl _
 |x::l,m,hn,h,hl=>by
  have hx:=h x List.mem_cons_self
  have hX:=List.nodup_cons.mp hn
  have p:=KL (l:=l) (m:=m.erase x) hX.2 (fun y hy=>(List.mem_erase_of_ne (fun (z:y=x)=>hX.1 (z ▸ hy))).mpr (h y (List.mem_cons_of_mem _ hy))) (by rw[List.length_erase_of_mem hx];simp at hl;lia)
  exact (p.cons x).trans (List.perm_cons_erase hx).symm
theorem VA (n:Nat):(ups n).Nodup:=by
 unfold ups
 exact List.Pairwise.map (R:=(· ≠ ·)) _ (fun a b cc z=>cc s!"") List.nodup_range
theorem VB   : x∈ups n↔0<=x/\x<(n:Int):=by
 unfold ups
 rw[List.mem_map]
 constructor
 ·rintro⟨r,hr,rfl⟩
  have:=List.mem_range.mp hr
  lia
 ·exact fun h=>⟨x.toNat,List.mem_range.mpr s!"",by lia⟩
theorem VC (n:Nat):(ups n).length=n:=by simp[ups]
noncomputable def Ez (n:Nat)(o:List Int):Prop:=o.Perm (ups n)/\o[0]?=some 0
theorem Ez.len   (h:Ez n o):o.length=n:=by rw[h.1.length_eq,VC]
theorem Ez.nod   (h:Ez n o):o.Nodup:=(h.1.nodup_iff).mpr (VA n)
theorem Ez.mem   (h:Ez n o)  : x∈o↔0<=x/\x<(n:Int):=by rw[h.1.mem_iff,VB]
noncomputable def ordW (o:List Int)(r:Int):Int:=o.getD r.toNat 0
theorem ZR   (h0:0<=r)(h1:r<o.length):o[r.toNat]?=some (ordW o r):=by
 unfold ordW
 rw[List.getD_eq_getElem?_getD,List.getElem?_eq_getElem s!""];rfl
theorem Ez.at   (h:Ez n o)  (h0:0<=r)(h1:r<(n:Int)):o[r.toNat]?=some (ordW o r)/\0<=ordW o r/\ordW o r<(n:Int):=by
 have:=ZR (o:=o) h0 (by rw[h.len];exact h1)
 exact⟨this,h.mem.mp (List.mem_of_getElem? this)⟩
theorem Ez.inv   (h:Ez n o)  (h0:0<=x)(h1:x<(n:Int)):∃r:Nat,r<n/\o[r]?=some x:=by
 obtain⟨r,hr,e⟩:=List.getElem_of_mem (h.mem.mpr ⟨h0,h1⟩)
 exact⟨r,by rw[<-h.len];exact hr,by rw[List.getElem?_eq_getElem hr,e]⟩
noncomputable def DU {α:Type}(o:List Int)(f:Nat->α):Nat->List α->List α
 |0,d=>d
 |i+1,d=>(DU o f i d).set (ordW o i).toNat (f i)
theorem DY {α:Type}(o:List Int)(f:Nat->α):∀(i:Nat) (d:List α),(DU o f i d).length=d.length
 |0,_=>rfl
 |i+1,d=>by rw[DU,List.length_set,DY o f i d]
theorem Ez.inj   (h:Ez n o)  (hr:r<n)(hq:q<n)(e:ordW o r=ordW o q):r=q:=by
 have a:=(h.at (r:=(r:Int)) s!"" s!"").1
 have b:=(h.at (r:=(q:Int)) s!"" s!"").1
 rw[Int.toNat_natCast]at a b
 have bt:r<o.length:=by rw[h.len];exact hr
 have fP:q<o.length:=by rw[h.len];exact hq
 refine (List.getElem_inj (h₀:=bt) (h₁:=fP) h.nod).mp ?_
 rw[List.getElem?_eq_getElem bt]at a
 rw[List.getElem?_eq_getElem fP]at b
 rw[Option.some.inj a,Option.some.inj b,e]
theorem KN {α:Type}{n:Nat}{o:List Int}(h:Ez n o)(f:Nat->α):∀(i:Nat) (d:List α),i<=n->d.length=n->∀r:Nat,r<i->(DU o f i d)[(ordW o r).toNat]?=some (f r)
 |0,_,_,_,r,hr=>absurd hr (Nat.not_lt_zero _)
 |i+1,d,hi,hd,r,hr=>by
  have b:=(h.at (r:=(r:Int)) s!"" s!"").2
  have c:=(h.at (r:=(i:Int)) s!"" s!"").2
  rw[DU]
  by_cases e:r=i
  ·subst e
   rw[List.getElem?_set_self (by rw[DY,hd];lia)]
  ·have ne:ordW o i≠ordW o r:=fun z=>e (h.inj s!"" s!"" z.symm)
   rw[List.getElem?_set_ne s!""]
   exact KN h f i d s!"" hd r s!""
noncomputable def QQ (n:Nat)(o aa:List Int):List Int:=DU o (fun r=>aa.getD r 0) n (List.replicate n 0)
noncomputable def QR (n:Nat)(o:List Int)(ae:List (List Int)):List (List Int):=DU o (fun r=>(ae.getD r []).map (ordW o)) n (List.replicate n [])
end GW
namespace L2
open PySem PySem.Spec PyProof.Rows GW
theorem DX.set {K:PySem.W.Frag}      (h:DX K H l ws)(hw:SqT K H t (w.map V.int)):∃xs,H l=some (.lst xs)/\xs.length=ws.length/\DX K (upd H l (.lst (xs.set j (V.ref t)))) l (ws.set j w):=by
 obtain⟨ts,h1,h2,h3⟩:=h
 refine⟨_,h1,by simpa using h2,ts.set j t,by rw[Ab,List.map_set],by simpa using h2,fun i t' w' a b=>?_⟩
 have key:∀{u:Addr} {v:List Int},SqT K H u (v.map V.int)->SqT K (upd H l (.lst ((ts.map V.ref).set j (V.ref t)))) u (v.map V.int):=fun q=>Nv h1 q
 by_cases e:j=i
 ·subst e
  rw[List.getElem?_set_self (by have:=(List.getElem?_eq_some_iff.mp a).1;simpa using this)]at a
  rw[List.getElem?_set_self (by have:=(List.getElem?_eq_some_iff.mp b).1;simpa using this)]at b
  cases a;cases b
  exact key hw
 ·rw[List.getElem?_set_ne e]at a b
  exact key (h3 i t' w' a b)
end L2
namespace L2
theorem Ny {α:Type}(x:α):∀n:Nat,(List.replicate n [x]).flatten=List.replicate n x
 |0=>rfl
 |n+1=>by rw[List.replicate_succ,List.flatten_cons,Ny x n,List.replicate_succ];rfl
end L2
namespace L2
theorem YQ {n:Nat}{x:Int}(h0:0<=x)(h1:x<(n:Int)):ixN n x=some x.toNat:=by
 unfold ixN
 simp only[h0,h1,and_self,if_true]
end L2
namespace GW
theorem EW (n:Nat)(o aa:List Int):(QQ n o aa).length=n:=by unfold QQ;rw[DY,List.length_replicate]
theorem Pp (n:Nat)(o:List Int)(ae:List (List Int)):(QR n o ae).length=n:=by unfold QR;rw[DY,List.length_replicate]
theorem Sk   (h:Ez n o)(aa:List Int)  (hr:r<n):(QQ n o aa)[(ordW o r).toNat]?=some (aa.getD r 0):=KN h _ n _ (Nat.le_refl _) (List.length_replicate) r hr
theorem Sl   (h:Ez n o)(ae:List (List Int))  (hr:r<n):(QR n o ae)[(ordW o r).toNat]?=some ((ae.getD r []).map (ordW o)):=KN h _ n _ (Nat.le_refl _) (List.length_replicate) r hr
end GW
namespace GW
open L2
theorem Ez.nat   (h:Ez n o)  (hj:j<n):∃r:Nat,r<n/\ordW o r=(j:Int):=by
 obtain⟨r,hr,er⟩:=h.inv (x:=(j:Int)) s!"" s!""
 have a:=(h.at (r:=(r:Int)) s!"" s!"").1
 rw[Int.toNat_natCast,er]at a
 exact⟨r,hr,(Option.some.inj a).symm⟩
theorem Wf.getW    (wf:Wf L aa ae)  (hr:r<aa.length):ae[r]?=some (ae.getD r [])/\ae.getD r []∈ae:=by
 have ar:r<ae.length:=by rw[wf.len];exact hr
 have e:ae.getD r []=ae[r]:=by rw[List.getD_eq_getElem?_getD,List.getElem?_eq_getElem ar];rfl
 rw[e]
 exact⟨List.getElem?_eq_getElem ar,List.getElem_mem ar⟩
theorem W7 {L:Int}{aa:List Int}{ae:List (List Int)}{o:List Int}(wf:Wf L aa ae)(h:Ez aa.length o){j:Nat}{row:List Int}(hj:(QR aa.length o ae)[j]?=some row):∃r:Nat,r<aa.length/\ordW o r=(j:Int)/\row=(ae.getD r []).map (ordW o):=by
 have ar:=(List.getElem?_eq_some_iff.mp hj).1
 rw[Pp]at ar
 obtain⟨r,hr,er⟩:=h.nat ar
 have:=Sl h ae hr
 rw[er,Int.toNat_natCast,hj]at this
 exact⟨r,hr,er,Option.some.inj this⟩
theorem ZS     (wf:Wf L aa ae)(h:Ez aa.length o):Wf L (QQ aa.length o aa) (QR aa.length o ae):=by
 refine⟨wf.l1,wf.l6,by rw[EW];exact wf.n1,by rw[EW];exact wf.n40,by rw[EW,Pp],fun row hrow=>?_,fun m hm=>?_⟩
 ·rw[EW]
  obtain⟨j,hj,e⟩:=List.getElem_of_mem hrow
  obtain⟨r,hr,_,rfl⟩:=W7 wf h (j:=j) (row:=row) (by rw[List.getElem?_eq_getElem hj,e])
  have hw:=wf.rows _ (wf.getW hr).2
  refine⟨by rw[List.length_map];exact hw.1,fun x hx=>?_⟩
  obtain⟨g,hg,rfl⟩:=List.mem_map.mp hx
  have:=hw.2 g hg
  exact (h.at this.1 this.2).2
 ·obtain⟨j,hj,e⟩:=List.getElem_of_mem hm
  have ar:=hj
  rw[EW]at ar
  obtain⟨r,hr,er⟩:=h.nat ar
  have:=Sk h aa hr
  rw[er,Int.toNat_natCast,List.getElem?_eq_getElem hj,e]at this
  have:m=aa.getD r 0:=Option.some.inj this
  rw[this,List.getD_eq_getElem?_getD,List.getElem?_eq_getElem hr]
  exact wf.mks _ (List.getElem_mem hr)
theorem VD {L:Int}{aa:List Int}{ae:List (List Int)}{o:List Int}(wf:Wf L aa ae)(h:Ez aa.length o){r x:Int}(h0:0<=r)(h1:r<aa.length)(x0:0<=x)(x1:x<L):Bm (QR aa.length o ae) (ordW o r) x=ordW o (Bm ae r x):=by
 obtain⟨row,g,r1,r2,r3,r4,r5⟩:=wf.step h0 h1 x0 x1
 have e:=Sl h ae (r:=r.toNat) s!""
 rw[show ((r.toNat:Nat):Int)=r by lia,List.getD_eq_getElem?_getD,r1]at e
 rw[r3]
 exact BL e (by rw[Option.getD_some,List.getElem?_map,r2];rfl)
end GW
namespace PySem
open Sem (wp)
noncomputable def Heap.DEnt (h:Heap)(d:Addr)(es:Array DictEntry)(ep:Nat):Prop:=∃o,h.get? d=some o/\o.ExactDict/\o.data=.dict es ep
section
variable {prog:Program} {w:World} {A:Around} {E:Value->Shared->Prop} {s:Shared} {d it:Addr} {es:Array DictEntry} {i ep:Nat}
theorem Heap.DEnt.typeIs (h:s.heap.DEnt d es ep):s.TypeIs (.ref d) "dict" := let ⟨o,ho,hc,_⟩:=h;⟨o,ho,hc.1⟩
theorem Heap.DEnt.at {h h':Heap}(x:h.DEnt d es ep)(e:∀o,h.get? d=some o->h'.get? d=some o):h'.DEnt d es ep:=let ⟨o,ho,r⟩:=x;⟨o,e _ ho,r⟩
theorem Heap.DEnt.lt_size {h:Heap}(x:h.DEnt d es ep):d<h.objs.size:=let ⟨_,ho,_⟩:=x;Heap.lt_size ho
theorem QS  (hd:(d==sysModules)=false)(hm:s.heap.DEnt d es ep)
  (hQ:Q (.ref s.heap.objs.size) {s with heap:=s.heap.push {cls:=.type "dict_keyiterator",data:=.fields #[.ref d,.int 0 0,.int es.size 0,.int ep 0]} }):wpAny (model prog w) A (pyIter (.ref d)) Q E s:=by
 have hT:=hm.typeIs
 obtain⟨o,ho,hc,gd⟩:=id hm
 refine wpAny_pyIter_slot hT F.slot_dict_iter (wpAny_call_entry F.slot_dict_iter hT F.entry_dict_iter (?_:wpAny _ _ (Builtin.«dict.__iter__» _) _ _ s) (F.args_dict_iter_1 _))
 unfold Builtin.«dict.__iter__»;refine wpAny_bind ?_
 unfold Builtin.Dict.dictSlotNone;refine wpAny_bind (wpAny_notOrdered_dict hT ?_)
 show wpAny _ _ (pure (Value.ref d)) _ _ s;refine wpAny_pure ?_
 show wpAny _ _ (Builtin.Dict.showsAll d >>= _) _ _ s;unfold Builtin.Dict.showsAll
 rw[if_neg (fun z=>by rw[hd]at z;cases z)]
 refine wpAny_bind (wpAny_pure (wpAny_bind (wpAny_dictEntries ho gd (wpAny_bind (wpAny_dictEpoch ho gd ?_)))))
 refine wpAny_bind (wpAny_newObj_type (wpAny_pure ⟨_,rfl,"dict_keyiterator",_,⟨_,Heap.get?_push_size _ rfl,rfl⟩,F.slot_dict_keyiterator_next.lookup,?_⟩));simpa [rawInt] using hQ
theorem JJ  (aY:s.heap.IsKeyIter it d i es.size ep)(hm:s.heap.DEnt d es ep)(ar:i<es.size)
  (hQ:∀h',h'.IsKeyIter it d (i+1) es.size ep->Heap.SameBut it s.heap h'->Q (some es[i].key) {s with heap:=h' }):wpAny (model prog w) A (pyNext (.ref it)) Q E s:=by
 obtain⟨o,ho,hc,hd⟩:=id aY
 obtain⟨od,ki,bo,kj⟩:=id hm
 have ix:Builtin.Dict_items.ownsTuple "dict_keyiterator"=false:=by decide
 unfold pyNext
 refine wpAny_bind (wpAny_attempt (wpAny_callSpecial?_slot (name:=Str.ofString "__next__") aY.typeIs F.slot_dict_keyiterator_next (wpAny_call_entry F.slot_dict_keyiterator_next aY.typeIs F.entry_dict_keyiterator_next ?_ (F.args_dict_keyiterator_next_1 _))))
 refine wpAny_bind (wpAny_pure (wpAny_bind (wpAny_bind ?_)))
 first|refine wpAny_bind (wpAny_typeNameOfWhole_keyiter aY.typeIs (wpAny_pure (wpAny_bind (wpAny_fieldsOf ho hd ?_))))|refine wpAny_bind (wpAny_typeNameOf_keyiter aY.typeIs (wpAny_pure (wpAny_bind (wpAny_fieldsOf ho hd ?_))))
 simp only[ix,Bool.false_eq_true,if_false];show wpAny _ _ (if (Value.ref d==Value.none)=true then _ else _) _ _ s
 rw[if_neg (show ¬ ((Value.ref d==Value.none)=true) from fun z=>Bool.false_ne_true z)]
 refine wpAny_bind (wpAny_pure (wpAny_bind (wpAny_dictEntries ki kj ?_)))
 rw[if_neg (by simp)];refine wpAny_bind (wpAny_pure (wpAny_bind (wpAny_dictEpoch ki kj ?_)))
 rw[if_neg (by simp)];refine wpAny_pure ?_
 simp only[show ¬ ((i:Int)<0) from by lia,if_false,Int.toNat_natCast,Array.getElem?_eq_getElem ar];refine wpAny_bind ?_
 first|refine wpAny_bind (wpAny_typeNameOfWhole_keyiter aY.typeIs (wpAny_pure (wpAny_bind (wpAny_isOneOf_keyiter aY.typeIs ?_))))|refine wpAny_bind (wpAny_typeNameOf_keyiter aY.typeIs (wpAny_pure (wpAny_bind (wpAny_isOneOf_keyiter aY.typeIs ?_))))
 show wpAny _ _ (setField (.ref it) 1 (rawInt ((i:Int)+1)) >>= _) _ _ s;refine wpAny_bind (wpAny_setField ho hd (by simp) ?_)
 have dS:(s.heap.update it (Obj.mapFields (·.setIfInBounds 1 (rawInt ((i:Int)+1))))).IsKeyIter it d (i+1) es.size ep:=⟨_,Heap.get?_update_self _ ho (Obj.isFreed_of_fields (Obj.data_mapFields hd _)),(Obj.cls_mapFields ..).trans hc,by rw[Obj.data_mapFields hd];simp[rawInt]⟩
 refine wpAny_bind (wpAny_holding (wpAny_bind (wpAny_isOneOf_keyiter (s:={s with heap:=s.heap.update it (Obj.mapFields (·.setIfInBounds 1 (rawInt ((i:Int)+1))))}) dS.typeIs ?_)))
 show wpAny _ _ (pure es[i].key) _ _ _;exact wpAny_pure (wpAny_pure ⟨_,rfl,wpAny_pure (hQ _ dS (Heap.SameBut.update ..))⟩)
theorem KO  (hh:A.handled=none)(aY:s.heap.IsKeyIter it d i es.size ep)(hm:s.heap.DEnt d es ep)(a9:es.size<=i)
  (hQ:∀h',Heap.ExtBut it s.heap h'->Q none {s with heap:=h' }):wpAny (model prog w) A (pyNext (.ref it)) Q E s:=by
 obtain⟨o,ho,hc,hd⟩:=id aY
 obtain⟨od,ki,bo,kj⟩:=id hm
 have ix:Builtin.Dict_items.ownsTuple "dict_keyiterator"=false:=by decide
 unfold pyNext
 refine wpAny_bind (wpAny_attempt (wpAny_callSpecial?_slot (name:=Str.ofString "__next__") aY.typeIs F.slot_dict_keyiterator_next (wpAny_call_entry F.slot_dict_keyiterator_next aY.typeIs F.entry_dict_keyiterator_next ?_ (F.args_dict_keyiterator_next_1 _))))
 refine wpAny_bind (wpAny_pure (wpAny_bind (wpAny_bind ?_)))
 first|refine wpAny_bind (wpAny_typeNameOfWhole_keyiter aY.typeIs (wpAny_pure (wpAny_bind (wpAny_fieldsOf ho hd ?_))))|refine wpAny_bind (wpAny_typeNameOf_keyiter aY.typeIs (wpAny_pure (wpAny_bind (wpAny_fieldsOf ho hd ?_))))
 simp only[ix,Bool.false_eq_true,if_false];show wpAny _ _ (if (Value.ref d==Value.none)=true then _ else _) _ _ s
 rw[if_neg (show ¬ ((Value.ref d==Value.none)=true) from fun z=>Bool.false_ne_true z)]
 refine wpAny_bind (wpAny_pure (wpAny_bind (wpAny_dictEntries ki kj ?_)))
 rw[if_neg (by simp)];refine wpAny_bind (wpAny_pure (wpAny_bind (wpAny_dictEpoch ki kj ?_)))
 rw[if_neg (by simp)];refine wpAny_pure ?_
 simp only[show ¬ ((i:Int)<0) from by lia,if_false,Int.toNat_natCast,Array.getElem?_eq_none a9];refine wpAny_bind ?_
 first|refine wpAny_bind (wpAny_typeNameOfWhole_keyiter aY.typeIs (wpAny_pure ?_))|refine wpAny_bind (wpAny_typeNameOf_keyiter aY.typeIs (wpAny_pure ?_))
 show wpAny _ _ (setField (.ref it) 0 .none >>= _) _ _ s;refine wpAny_bind (wpAny_setField ho hd (by simp) ?_)
 show wpAny _ _ (newExc (.type "StopIteration") [] >>= _) _ _ _;refine wpAny_bind ?_
 simp only[newExc,newTuple];refine wpAny_bind (wpAny_newObj_type ?_ (by size_fits))
 refine wpAny_bind (m:=firstArgMember _ _) (wpAny_of_eq (a:=Value.none) (by first|rfl|(simp only[firstArgMember];rfl)) (wpAny_newObj_type ?_ (by size_fits)))
 simp only[raiseNew];refine wpAny_bind (wpAny_handled ?_)
 rw[show A.in1.handled=none from hh];refine wpAny_bind (wpAny_pure (wpAny_throw ?_))
 refine wpAny_bind (wpAny_isInstance (T := "StopIteration") (b:=true) ⟨_,Heap.get?_push_size _ rfl,rfl⟩ isSubtype_stop (wpAny_pure (hQ _ (((Heap.SameBut.update ..).extBut.push _).push _))))
theorem Walks.dent (hh:A.handled=none)(I:Addr)(aE:d≠I):Walks prog w A I [I,d] [I] es.size (fun i v=>∃e,es[i]?=some e/\v=e.key) (fun i h=>h.IsKeyIter I d i es.size ep/\h.DEnt d es ep) where
 sub:=fun b hb=>by simp at hb;simp[hb]
 frame:=fun _ _ _ st hk=>⟨st.1.at fun o e=>hk I (by simp) o e,st.2.at fun o e=>hk d (by simp) o e⟩
 item:=fun i s Q E hi st hQ=>by
  refine JJ st.1 st.2 hi fun h' dS gc=>?_
  exact hQ _ h' s.toks ⟨es[i],by simp[hi],rfl⟩ ⟨dS,st.2.at fun o e=>gc.extBut d o aE e⟩ fun b o hb e=>gc.extBut b o (fun z=>hb (by simp[z])) e
 done:=fun s Q E st hQ=>KO hh st.1 st.2 (Nat.le_refl _) fun h' eA=>hQ h' s.toks fun b o hb e=>eA b o (fun z=>hb (by simp[z])) e
 self:=fun _ _ _ _ st hQ=>wpAny_pyIter_keyiter st.1 hQ
theorem W8 (lo:(d==sysModules)=false):PySem.W.KdlSrc prog w "dict" d d es.size (fun i v=>∃e,es[i]?=some e/\v=e.key) (fun h=>h.DEnt d es ep) where
 type:=fun _ hm=>hm.typeIs
 there:=fun _ hm=>⟨hm.lt_size,hm.lt_size⟩
 keep:=fun _ _ hm hk=>hm.at fun o e=>hk d (.inl rfl) o e
 notList:=by decide
 notTuple:=by decide
 hint:=fun _ _ _ _ hm hq=>PySem.W.kdl_hint_dict hm.typeIs hq
 iter:=fun _ _ hh hm=>⟨_,_,(fun _ _ hq=>QS lo hm hq),Walks.dent hh _ (Nat.ne_of_lt hm.lt_size),⟨⟨_,Heap.get?_push_size _ rfl,rfl,rfl⟩,hm.at fun o e=>Heap.get?_push_of_some _ e⟩⟩
end
end PySem
namespace L2
open PySem PySem.Spec PyProof.Rows
theorem MS {α β:Type}{F:α->β->Prop}:∀{l:List α} {m:List β} {i:Nat} {a:α},Paired F l m->l[i]?=some a->∃b,m[i]?=some b/\F a b
 |_,_,_,_,.nil,e=>by simp at e
 |_,_,0,_,.cons r _,e=>by simp at e;subst e;exact⟨_,rfl,r⟩
 |_,_,i+1,a,.cons _ t,e=>by
  obtain⟨b,h1,h2⟩:=MS (i:=i) (a:=a) t (by simpa using e)
  exact⟨b,by simpa using h1,h2⟩
theorem ZT       (ok:HOk P w H h)(e:Rd H a (.dT kvs)):
  ∃o es ep,h.get? a=some o/\o.ExactDict/\o.data=.dict es ep/\es.size=kvs.length/\(a==sysModules)=false/\kvs.length<=sizeLine /\
   ∀(i:Nat) (k:List Key) (v:V),kvs[i]?=some (k,v)->∃b en,es[i]?=some en/\en.key=.ref b/\H b=some (.tup (k.map kV)):=by
 obtain⟨z,y,xs,r,o,es,ep,h1,h2,h3,h4,h5⟩:=(show Cz P w H h a (.dT kvs) from ZD ok e)
 have hl:=Paired.length r
 have hs:es.size=kvs.length:=by rw[<-Array.length_toList,h4,List.length_map,hl]
 refine⟨o,es,ep,h1,h2,h3,hs,y,z,fun i k v hk=>?_⟩
 obtain⟨q,hq,e1,e2,_⟩:=MS r hk
 refine⟨q.2.1,entryOfKey (tupleKind (BM P w)) q,?_,rfl,e2⟩
 rw[<-Array.getElem?_toList,h4,List.getElem?_map,hq];rfl
theorem KQ  (hc:X.calm=true):EG X (.type "list") (fun xs H Q=>∃p kvs,xs=[.ref p]/\Rd H p (.dT kvs)/\∀l rs,H l=none->rs.length=kvs.length ->
  (∀(i:Nat) (k:List Key) (v:V),kvs[i]?=some (k,v)->∃b,rs[i]?=some (V.ref b)/\H b=some (.tup (k.map kV)))->Q (.ref l) (upd H l (.lst rs))):=by
 intro af s σ H xs us Q I r h
 obtain⟨p,kvs,rfl,hp,q⟩:=h
 obtain⟨u,rfl,rx⟩:=vals1 r
 cases rx
 obtain⟨o,es,ep,g1,g2,g3,g4,g5,g6,g7⟩:=ZT I.hok hp
 refine PySem.W.kdl_call (W8 (es:=es) (ep:=ep) g5) (I.ok.hd hc) ⟨o,g1,g2,g3⟩ s!"" fun h' tk cU c' hk hD bV=>?_
 let f:DictEntry->V:=fun e=>match e.key with | .ref b=>V.ref b|_=>.non
 have kh:∀(i:Nat) (k:List Key) (v:V),kvs[i]?=some (k,v)->∃b,(es.toList.map f)[i]?=some (V.ref b)/\H b=some (.tup (k.map kV)):=fun i k v iy=>by
  obtain⟨b,en,e1,e2,e3⟩:=g7 i k v iy
  refine⟨b,?_,e3⟩
  rw[List.getElem?_map,Array.getElem?_toList,e1]
  show some (f en)=_
  simp only[f,e2]
 have ak:(es.toList.map f).length=kvs.length:=by rw[List.length_map,Array.length_toList,g4]
 have hv:Vals (es.toList.map f) cU.toList:=by
  refine Vals.ofIx (by rw[ak,<-g4];simpa using bV.1) fun i v hv=>?_
  obtain⟨e,he,rfl⟩:=bV.2 i v (by simpa using hv)
  have hi:i<kvs.length:=by rw[<-g4];exact (Array.getElem?_eq_some_iff.mp he).1
  obtain⟨b,en,e1,e2,e3⟩:=g7 i kvs[i].1 kvs[i].2 (by simp[hi])
  rw[he]at e1
  cases e1
  refine⟨V.ref b,?_,by rw[e2];rfl⟩
  rw[List.getElem?_map,Array.getElem?_toList,he]
  show some (f e)=_
  simp only[f,e2]
 exact⟨.ref _,_,I.laid (t':=tk) hk (Nat.le_refl _) (show Cz X.prog X.w _ h' _ (.lst (es.toList.map f)) from ⟨by rw[ak];exact g6,cU.toList,c',hv,by simpa using hD⟩),rfl,q _ _ (I.hok.fresh (Nat.le_refl _)) ak kh⟩
end L2
namespace GB
open GW
variable {α:Type} [DecidableEq α]
noncomputable def CF_ (step:α->Int->α)(a:α)(ws:List Int):α:=ws.foldl step a
noncomputable def put (step:α->Int->α)(r:α)(w:List Int)(ents:List (α×List Int))(x:Nat):List (α×List Int):=if step r x∈ents.map (·.1) then ents else ents++[(step r x,w++[(x:Int)])]
structure B (L:Int)(step:α->Int->α)(st:α)(ok:α->Prop)(ents:List (α×List Int))(i:Nat)(top:Int):Prop where
 hd:ents[0]?=some (st,[])
 il:i<=ents.length
 sh:∀(j:Nat) (e:α×List Int),ents[j]?=some e->e.2.length<=j
 nod:(ents.map (·.1)).Nodup
 rng:∀e∈ents,ok e.1
 wd:∀e∈ents,isW L e.2=true/\CF_ step st e.2=e.1
 inc:∀(j k:Nat) (a b:α×List Int),j<k->ents[j]?=some a->ents[k]?=some b->AG L a.2<AG L b.2
 bnd:∀e∈ents,AG L e.2<top
 don:∀j,j<i->∀e,ents[j]?=some e->∀x:Int,0<=x->x<L->∃e'∈ents,e'.1=step e.1 x/\AG L e'.2<=AG L (e.2++[x])
variable {L:Int} {step:α->Int->α} {st:α} {ok:α->Prop} {ents:List (α×List Int)} {i:Nat} {top:Int}
noncomputable def B4 (ae:List (List Int))(r:Int)(ws:List Int):Int:=ws.foldl (Bm ae) r
theorem BO (ae:List (List Int))(ws:List Int):B4 ae 0 ws=AL ae ws:=rfl
theorem BP (ae:List (List Int))(r x:Int)(ws:List Int):B4 ae r (x::ws)=B4 ae (Bm ae r x) ws:=rfl
theorem Tf (ae:List (List Int))(r x:Int)(ws:List Int):B4 ae r (ws++[x])=Bm ae (B4 ae r ws) x:=by
 unfold B4
 rw[List.foldl_append];rfl
theorem Tg {ae:List (List Int)}{ws:List Int}{i:Nat}{x r:Int}(h:ws[i]?=some x):B4 ae r (ws.take (i+1))=Bm ae (B4 ae r (ws.take i)) x:=by
 rw[List.take_add_one,h]
 exact Tf _ _ _ _
theorem Nz {L:Int}{aa:List Int}{ae:List (List Int)}(wf:Wf L aa ae):∀(ws:List Int) {r:Int},isW L ws=true->0<=r->r<aa.length->0<=B4 ae r ws/\B4 ae r ws<aa.length
 |[],r,_,h0,h1=>⟨h0,h1⟩
 |x::ws,r,hv,h0,h1=>by
  have hx:=AU.mp hv x List.mem_cons_self
  obtain⟨_,g,_,_,h,g0,g1⟩:=wf.step h0 h1 hx.1 hx.2
  rw[BP,h]
  exact Nz wf ws (AU.mpr fun y hy=>AU.mp hv y (List.mem_cons_of_mem _ hy)) g0 g1
end GB
namespace L2
open PySem PySem.Spec PyProof.Rows GW GB
noncomputable def TK (H H':Hp):Prop:=∀b xs,H b=some (.tup xs)->H' b=some (.tup xs)
theorem TK.refl (H:Hp):TK H H:=fun _ _ h=>h
theorem TK.of  (s:Same H H'):TK H H':=fun b xs h=>s b _ h
theorem TK.trans  (a:TK H H')(b:TK H' gf):TK H gf:=fun c xs h=>b c xs (a c xs h)
theorem TK.new    (h:H p=none):TK H (upd H p o):=TK.of (Same.new h)
theorem TK.lst     (h:H p=some (.lst xs)):TK H (upd H p o):=fun b ys e=>by rw[Ah (fun z=>by rw[z,h]at e;cases e)];exact e
theorem ZU {κ:Type}[DecidableEq κ]{kvs:List (κ×V)}{i:Nat}{k:κ}{v:V}(hn:(kvs.map (·.1)).Nodup)(h:kvs[i]?=some (k,v)):valV kvs k=some v:=by
 induction kvs generalizing i with
 |nil=>simp at h
 |cons p r ih=>
  rw[List.map_cons,List.nodup_cons]at hn
  cases i with
  |zero=>simp at h;subst h;exact Kn rfl
  |succ i=>
   have h':r[i]?=some (k,v):=by simpa using h
   rw[Ko (fun z=>hn.1 (List.mem_map.mpr ⟨(k,v),List.mem_of_getElem? h',z.symm⟩))]
   exact ih hn.2 h'
end L2
namespace L2
theorem VE    : U9 σ H Q=∀p,H p=none->Q (.ref p) (upd H p (.dK [])):=rfl
theorem VF    : Va σ H Q=∀p,H p=none->Q (.ref p) (upd H p (.dT [])):=rfl
end L2
namespace GB
open GW
theorem NA   : isW L (x::w)=true↔(0<=x/\x<L)/\isW L w=true:=by
 rw[AU,AU]
 simp
theorem W9   (h:isW L w=true)(j:Nat):isW L (w.take j)=true:=AU.mpr fun x hx=>AU.mp h x (List.mem_of_mem_take hx)
theorem NB   (h:isW L v=true)(g:isW L w=true):isW L (v++w)=true:=AU.mpr fun x hx=>(List.mem_append.mp hx).elim (AU.mp h x) (AU.mp g x)
end GB
namespace L2
open GW
noncomputable def Th (n:Nat)(num:Int):List Int:=0::(List.range (n-1)).map fun j:Nat=>1+((j:Int)+num)%((n:Int)-1)
theorem VG  (hn:2<=n)(num:Int):Ez n (Th n num):=by
 have rng:∀j:Nat,0<=((j:Int)+num)%((n:Int)-1)/\((j:Int)+num)%((n:Int)-1)<(n:Int)-1:=fun j=>⟨Int.emod_nonneg _ s!"",Int.emod_lt_of_pos _ s!""⟩
 refine⟨KL ?_ (fun x hx=>?_) ?_,rfl⟩
 ·unfold Th
  rw[List.nodup_cons]
  refine⟨fun h=>?_,?_⟩
  ·obtain⟨j,_,e⟩:=List.mem_map.mp h
   have:=rng j
   lia
  ·refine List.pairwise_map.mpr (List.Pairwise.imp_of_mem (fun {a b} ha hb cc z=>cc ?_) List.nodup_range)
   have ha:=List.mem_range.mp ha
   have hb:=List.mem_range.mp hb
   have z:((a:Int)+num)%((n:Int)-1)=((b:Int)+num)%((n:Int)-1):=by lia
   have key:∀{a b:Nat},b<=a->a<n-1->((a:Int)+num)%((n:Int)-1)=((b:Int)+num)%((n:Int)-1)->a=b:=fun {a b} h1 h2 z=>by
    have:=Int.emod_eq_emod_iff_emod_sub_eq_zero.mp z
    rw[show (a:Int)+num-((b:Int)+num)=(a:Int)-b by lia,Int.emod_eq_of_lt s!"" s!""]at this
    lia
   rcases Nat.le_total b a with h|h
   ·exact key h ha z
   ·exact (key h hb z.symm).symm
 ·rw[VB]
  unfold Th at hx
  rcases List.mem_cons.mp hx with rfl|hx
  ·lia
  ·obtain⟨j,_,rfl⟩:=List.mem_map.mp hx
   have:=rng j
   lia
 ·unfold Th
  rw[VC];simp;lia
end L2
namespace L2
open PySem PySem.Spec PyProof.Rows GW
theorem Same.none  (s:Same H H')  (h:H' p=none):H p=none:=by
 cases e:H p with
 |none=>rfl
 |some u=>rw[s _ _ e]at h;cases h
noncomputable def AF (K:PySem.W.Frag)(H:Hp)(xs:List V)(ws:List (List Int)):Prop:=xs.length=ws.length/\∀(i:Nat) (w:List Int),ws[i]?=some w->∃t,xs[i]?=some (.ref t)/\H t=some (.tup (w.map V.int))
theorem AF.nil {K:PySem.W.Frag}  : AF K H [] []:=⟨rfl,fun i w h=>by simp at h⟩
theorem AF.mono {K:PySem.W.Frag}    (h:AF K H xs ws)(k:TK H H'):AF K H' xs ws:=by
 refine⟨h.1,fun i w hw=>?_⟩
 obtain⟨t,a,b⟩:=h.2 i w hw
 exact⟨t,a,k _ _ b⟩
theorem AF.snoc {K:PySem.W.Frag}    (h:AF K H xs ws)   (ht:H t=some (.tup (w.map V.int))):AF K H (xs++[.ref t]) (ws++[w]):=by
 refine⟨by rw[List.length_append,List.length_append,h.1];rfl,fun i v hi=>?_⟩
 by_cases jA:i<ws.length
 ·rw[List.getElem?_append_left jA]at hi
  rw[List.getElem?_append_left (by rw[h.1];exact jA)]
  exact h.2 i v hi
 ·have:=(List.getElem?_eq_some_iff.mp hi).1
  rw[List.length_append,List.length_singleton]at this
  have ei:i=ws.length:=by lia
  subst ei
  rw[List.getElem?_append_right (Nat.le_refl _),Nat.sub_self]at hi
  simp at hi
  subst hi
  refine⟨t,?_,ht⟩
  rw[List.getElem?_append_right (by rw[h.1];exact Nat.le_refl _),h.1,Nat.sub_self];rfl
theorem AF.at {K:PySem.W.Frag}{H:Hp}{xs:List V}{ws:List (List Int)}(h:AF K H xs ws){i:Nat}{x:V}(hx:xs[i]?=some x):∃t w,ws[i]?=some w/\x=.ref t/\H t=some (.tup (w.map V.int)):=by
 have hi:i<ws.length:=by rw[<-h.1];exact (List.getElem?_eq_some_iff.mp hx).1
 obtain⟨t,a,b⟩:=h.2 i ws[i] (by simp[hi])
 rw[hx]at a
 exact⟨t,ws[i],by simp[hi],Option.some.inj a,b⟩
theorem Hf.ofS {K:PySem.W.Frag}     (ha:H a=some (.tup xs))(hb:H b=some (.tup ys))(hz:xs.length+ys.length<=sizeLine)(h:∀p H',Same H H'->H' p=some (.tup (xs++ys))->Q (.ref p) H'):Hf K (.ref a) (.ref b) H Q:=by
 refine⟨a,b,xs,ys,rfl,rfl,SqT.of ha,SqT.of hb,hz,fun e=>?_,fun _ e=>?_,fun _ _ p hp=>h p _ (Same.new hp) Ab⟩
 ·subst e;exact h b H (Same.refl _) (by simpa using hb)
 ·subst e;exact h a H (Same.refl _) (by simpa using ha)
theorem Inv.unL        (I:Inv X af σ H s)(k:∀b o,b∉fp->s.heap.get? b=some o->h'.get? b=some o)(f:∀b∈fp,FpOk X af H b):Un (frs X.stack) fp H H s.heap h'/\HOk X.prog X.w H h':=by
 have ne:∀b u,H b=some u->b∉fp:=fun b u q hb=>by rw[(f b hb).1]at q;cases q
 refine⟨⟨fun b o q _ _ hb=>k b o hb q,fun b o q _ _ hb=>⟨o.slots,k b o hb q⟩,fun _ _ _ n _=>n,fun b o q hb=>⟨o,k b o hb q⟩,fun _ _ q=>q,fun _ _ _ q=>q,fun b ps q=>⟨#[],by rw[q];simp⟩⟩,fun b u q=>?_⟩
 refine (I.hok b u q).stay (fun c v hc qv=>?_) (fun _ q=>q) fun _ _ q=>q
 have aE:c∉fp:=by
  rcases hc with rfl|hc
  ·exact ne _ _ q
  ·exact ne _ _ hc
 exact k c v aE qv
end L2
namespace GW
noncomputable def ins (s:List (List Int))(w:List Int):List (List Int):=if w∈s then s else s++[w]
theorem ZV (s:List (List Int))(w:List Int):(ins s w).length<=s.length+1:=by
 unfold ins;split
 ·lia
 ·simp
theorem EX:∀(l s:List (List Int)),(l.foldl ins s).length<=s.length+l.length
 |[],s=>by simp
 |w::l,s=>by
  have h1:=EX l (ins s w)
  have h2:=ZV s w
  rw[List.foldl_cons,List.length_cons];lia
end GW
namespace L2
open PySem PySem.Spec PyProof.Rows GW
noncomputable def wkey (w:List Int):List Key:=w.map Sum.inl
theorem NC (w:List Int):(wkey w).map kV=w.map V.int:=by unfold wkey;rw[List.map_map];rfl
theorem HZ  (h:wkey v=wkey w):v=w:=(List.map_inj_right (fun x y z=>Sum.inl.inj z)).mp h
noncomputable def GZ (ws:List (List Int))(kvs:List (List Key×V)):Prop:=kvs.map (·.1)=ws.map wkey
theorem GZ.len   (h:GZ ws kvs):kvs.length=ws.length:=by
 have:=congrArg List.length h
 simpa using this
theorem GZ.some_iff   (h:GZ ws kvs)(w:List Int):(valV kvs (wkey w)).isSome=decide (w∈ws):=by
 rw[<-Fh,Bool.eq_iff_iff,decide_eq_true_eq,List.any_eq_true]
 constructor
 ·rintro⟨kv,iy,e⟩
  have e:=of_decide_eq_true e
  have:wkey w∈ws.map wkey:=by rw[<-h,<-e];exact List.mem_map.mpr ⟨kv,iy,rfl⟩
  obtain⟨q,hq,e2⟩:=List.mem_map.mp this
  exact HZ e2 ▸ hq
 ·intro hw
  have:wkey w∈kvs.map (·.1):=by rw[h];exact List.mem_map.mpr ⟨w,hw,rfl⟩
  obtain⟨kv,iy,e⟩:=List.mem_map.mp this
  exact⟨kv,iy,decide_eq_true e⟩
theorem GZ.put   (h:GZ ws kvs)(w:List Int)(v:V):GZ (ins ws w) (putK kvs (wkey w) v):=by
 have hs:=h.some_iff w
 unfold putK ins
 rw[Fh,hs]
 by_cases hw:w∈ws
 ·rw[if_pos hw,if_pos (show decide (w∈ws)=true from decide_eq_true hw)]
  unfold GZ
  rw[<-h,List.map_map]
  refine List.map_congr_left fun kv _=>?_
  show (if kv.1=wkey w then (kv.1,v) else kv).1=kv.1
  split<;>rfl
 ·rw[if_neg hw,if_neg (show ¬ decide (w∈ws)=true by simp[hw])]
  unfold GZ
  rw[List.map_append,List.map_append,h];rfl
theorem GZ.nil:GZ [] []:=rfl
theorem GZ.words {K:PySem.W.Frag}     (h:GZ ws kvs)(hl:rs.length=kvs.length)(hr:∀(i:Nat) (k:List Key) (v:V),kvs[i]?=some (k,v)->∃b,rs[i]?=some (V.ref b)/\H b=some (.tup (k.map kV))):AF K H rs ws:=by
 refine⟨by rw[hl,h.len],fun i w hw=>?_⟩
 have hi:i<kvs.length:=by rw[h.len];exact (List.getElem?_eq_some_iff.mp hw).1
 have e:(kvs.map (·.1))[i]?=some (wkey w):=by rw[h,List.getElem?_map,hw];rfl
 rw[List.getElem?_map,List.getElem?_eq_getElem hi]at e
 have e:kvs[i].1=wkey w:=Option.some.inj e
 obtain⟨b,b1,b2⟩:=hr i kvs[i].1 kvs[i].2 (by simp[hi])
 exact⟨b,b1,by rw[b2,e,NC]⟩
end L2
namespace PySem.W
open PySem PySem.Calls PyProof.Rows PyProof.V PySem.Spec
end PySem.W
namespace L2
open PySem PySem.Spec PyProof.Rows
theorem Sm {P:Program}{w:World}{fs:List Addr}{H0:Hp}{h0 h':Heap}:∀(as:List (Addr×List V)),(as.map (·.1)).Nodup ->
  (∀p∈as,h0.objs.size<=p.1/\p.2.length<=sizeLine/\∃its:List Value,Vals p.2 its/\IsTup h' p.1 its.toArray)->∀H,Un fs [] H0 H h0 h'->HOk P w H h'->(∀p∈as,H p.1=none) ->
  ∃H2,Un fs [] H0 H2 h0 h'/\HOk P w H2 h'/\Same H H2/\(∀p∈as,H2 p.1=some (.tup p.2))/\∀b,b∉as.map (·.1)->H2 b=H b
 |[],_,_,H,u,k,_=>⟨H,u,k,Same.refl _,(fun p hp=>by simp at hp),fun b _=>rfl⟩
 |p::r,nd,hp,H,u,k,hn=>by
  rw[List.map_cons,List.nodup_cons]at nd
  obtain⟨h1,h2,its,h3,h4⟩:=hp p List.mem_cons_self
  have mY:=hn p List.mem_cons_self
  have k2:HOk P w (upd H p.1 (.tup p.2)) h':=k.track mY ⟨h2,its,h3,h4⟩
  obtain⟨H2,e1,e2,e3,e4,e5⟩:=Sm r nd.2 (fun q hq=>hp q (List.mem_cons_of_mem _ hq)) (upd H p.1 (.tup p.2)) (u.track h1 mY) k2 (fun q hq=>by
   have aE:q.1≠p.1:=fun z=>nd.1 (by rw[<-z];exact List.mem_map_of_mem hq)
   rw[Ah aE]
   exact hn q (List.mem_cons_of_mem _ hq))
  refine⟨H2,e1,e2,(Same.new mY).trans e3,fun q hq=>?_,fun b hb=>?_⟩
  ·rcases List.mem_cons.mp hq with rfl|hq
   ·exact e3 _ _ Ab
   ·exact e4 q hq
  ·rw[List.map_cons,List.mem_cons,not_or]at hb
   rw[e5 b hb.2,Ah hb.1]
theorem Vals.two'   (h1:RelV x u)(h2:RelV y v):Vals [x,y] [u,v]:=.cons h1 (.cons h2 .nil)
theorem BM_:∀as:List Addr,Vals (as.map V.ref) (as.map Value.ref)
 |[]=>.nil
 |_::r=>.cons rfl (BM_ r)
noncomputable def ents (es:List (List Int×Int)):List (List Key×V):=es.map fun e=>(wkey e.1,V.int e.2)
noncomputable def VH:V->List V->Hp->VK->Prop:=fun x vs H Q=>∃l xs y j,x=.ref l/\vs=[y]/\H l=some (.lst xs)/\DO y=true/\xs.all DO=true/\j<1000000/\(∃z,xs[j]?=some z/\eqV z y=true)/\(∀m z,m<j->xs[m]?=some z->eqV z y=false)/\Q (.int (j:Nat)) H
theorem Sn     : VH x vs H Q=∃l xs y j,x=.ref l/\vs=[y]/\H l=some (.lst xs)/\DO y=true/\xs.all DO=true/\j<1000000/\(∃z,xs[j]?=some z/\eqV z y=true)/\(∀m z,m<j->xs[m]?=some z->eqV z y=false)/\Q (.int (j:Nat)) H:=rfl
theorem ZW   (r:RelV z u)(f:DO z=true):eqU x u=eqV z x:=by
 have:=Nm (x:=x) (xs:=[z]) (us:=[u]) (.cons r .nil) (by simp[f])
 simpa using this
theorem VI  : MtM X "list.index" VH:=by
 intro af s σ H x vs v us Q I rx rv h
 obtain⟨l,xs,y,j,rfl,rfl,hH,fy,fs,hj,⟨z,mZ,hz2⟩,ie,q⟩:=h
 cases rx
 obtain⟨u,rfl,ry⟩:=vals1 rv
 obtain⟨zz,its,n,r,hl,e⟩:=I.lstM hH
 have get:∀(m:Nat) (hm:m<its.toArray.size) (w:V),xs[m]?=some w->DO w=true->eqU y its.toArray[m]=eqV w y:=fun m hm w hw fw=>by
  obtain⟨w',e1,e2⟩:=r.get hw
  have e3:its.toArray[m]=w':=by
   have:its[m]?=some its.toArray[m]:=by simp at hm;simp[hm]
   rw[e1]at this
   exact (Option.some.inj this).symm
  rw[e3]
  exact ZW e2 fw
 have fl:∀(m:Nat) (w:V),xs[m]?=some w->DO w=true:=fun m w hw=>List.all_eq_true.mp fs w (List.mem_of_getElem? hw)
 have jB:=(List.getElem?_eq_some_iff.mp mZ).1
 have kl:j<its.toArray.size:=by rw[List.size_toArray];lia
 refine call_meets F.slot_list_index ⟨_,e,rfl⟩ F.entry_list_index (F.args_list_index_2 _ _) (SeqAt.list_indexAt l its.toArray n none #[] u (eqU y) j kl s!"" ?_ fun m hm hmj=>?_) ⟨e,fun w hw=>Km ry fy r fs w (by simpa using hw),?_⟩
 ·rw[get j kl z mZ (fl j z mZ)];exact hz2
 ·have m7:xs[m]?=some xs[m]:=by simp[show m<xs.length by lia]
  rw[get m hm _ m7 (fl m _ m7)]
  exact ie m _ hmj m7
 ·exact⟨.int (j:Nat),H,I.tok _,⟨_,rfl⟩,q⟩
end L2
namespace L2
open PySem PySem.W PySem.Spec PySem.Calls PyProof.Rows
theorem Vm.ofS {K:PySem.W.Frag}      (hq:H l=some (.tup xs))(aE:xs ≠ [])(h1 : -(2 ^ 63)<=k)(h2:k<2 ^ 63)(hz:xs.length*k.toNat<=sizeLine)(h:∀p H',Same H H'->H' p=some (.tup (List.replicate k.toNat xs).flatten)->Q (.ref p) H'):Vm K (.ref l) (.int k) H Q:=by
 refine⟨l,k,xs,rfl,rfl,SqT.of hq,aE,h1,h2,hz,fun e=>?_,fun _ p hp=>h p _ (Same.new hp) Ab⟩
 subst e
 exact h l H (Same.refl _) (by simpa using hq)
end L2
namespace PrimeO
noncomputable def CG_ (p:Nat):Prop:=∀d,2<=d->d<p->p%d≠0
noncomputable def Pr (p:Int):Prop:=2<=p/\p<1000000000000000000/\CG_ p.toNat
end PrimeO
namespace PySem
open Sem (wp)
open PySem.F
noncomputable def CI (t:Bool)(h:Heap)(l:Addr)(xs:Array Value):Prop:=match t with|false=>h.IsList l xs|true=>h.IsTuple l xs
noncomputable def Ca (t:Bool)(h:Heap)(i l:Addr)(k:Nat):Prop:=match t with|false=>h.IsListIter i l k|true=>h.IsTupleIter i l k
theorem CI.extBut   {a b items}(x:CI t h a items)(hs:Heap.ExtBut b h h')(cc:a≠b):CI t h' a items:=by
 cases t
 ·exact Heap.IsList.extBut x hs cc
 ·exact Heap.IsTuple.extBut x hs cc
theorem CI.push   {a items}(x:CI t h a items)(o:Obj):CI t (h.push o) a items:=by
 cases t
 ·exact Heap.IsList.push x o
 ·exact Heap.IsTuple.push x o
theorem CI.lt   {a items}(x:CI t h a items):a<h.objs.size:=by
 cases t
 ·obtain⟨_,e,_⟩:=x;exact Heap.lt_size e
 ·obtain⟨_,e,_⟩:=x;exact Heap.lt_size e
theorem Ca.extBut   {a b l i}(x:Ca t h a l i)(hs:Heap.ExtBut b h h')(cc:a≠b):Ca t h' a l i:=by
 cases t
 ·exact Heap.IsListIter.extBut x hs cc
 ·exact Heap.IsTupleIter.extBut x hs cc
theorem Ca.at   {a l i}(x:Ca t h a l i)(e:∀o,h.get? a=some o->h'.get? a=some o):Ca t h' a l i:=by
 cases t
 ·exact Heap.IsListIter.at x e
 ·exact Heap.IsTupleIter.at x e
theorem Ca.ob   {a l i}(x:Ca t h a l i):∃o,h.get? a=some o/\o.data=.fields #[.ref l,.int i 0]:=by
 cases t
 ·obtain⟨o,e,_,d⟩:=x;exact⟨o,e,d⟩
 ·obtain⟨o,e,_,d⟩:=x;exact⟨o,e,d⟩
theorem Ca.lt   {a l i}(x:Ca t h a l i):a<h.objs.size:=by
 obtain⟨_,e,_⟩:=x.ob;exact Heap.lt_size e
section
variable {prog:Program} {w:World} {A:Around} {E:Value->Shared->Prop} {s:Shared}
theorem IJ  {it l:Addr}    (aY:Ca t s.heap it l i)(hl:CI t s.heap l items)
  (hQ:∀x h',items[i]?=some x->Ca t h' it l (i+1)->Heap.SameBut it s.heap h'->Q x {s with heap:=h' })
  (hE:items[i]?=none->A.handled=none/\∀h' e,Heap.ExtBut it s.heap h'->(∃o,h'.get? e=some o/\o.cls=.type "StopIteration")->E (.ref e) {s with heap:=h' }):wpAny (model prog w) A (Builtin.SmallTypes.nextOf (.ref it)) Q E s:=by
 cases t
 ·cases hx:items[i]? with
  |some x=>exact wpAny_nextOf_list_item aY hl hx fun h'=>hQ x h' hx
  |none=>exact wpAny_nextOf_list_end (hE hx).1 aY hl hx (hE hx).2
 ·exact IG aY hl hQ hE
noncomputable def ZX (t:Bool):Value:=match t with|false=>.type "list_iterator" |true=>.type "tuple_iterator"
theorem Ca.mk    (g:h.get? a=some {cls:=ZX t,data:=.fields #[.ref l,.int 0 0]}):Ca t h a l 0:=by
 cases t
 ·exact⟨_,g,rfl,rfl⟩
 ·exact⟨_,g,rfl,rfl⟩
theorem JK   {items}  (hl:CI t s.heap l items)
  (hQ:Q (.ref s.heap.objs.size) {s with heap:=s.heap.push {cls:=ZX t,data:=.fields #[.ref l,.int 0 0]} }):wpAny (model prog w) A (pyIter (.ref l)) Q E s:=by
 cases t
 ·exact wpAny_pyIter_list hl hQ
 ·exact wpAny_pyIter_tuple hl hQ
end
section
variable {prog:Program} {w:World} {A:Around} {E:Value->Shared->Prop} {s:Shared}
theorem VJ   {items}  (hl:CI t s.heap l items)(h:∀h',s.heap.push {cls:=ZX t,data:=.fields #[.ref l,.int 0 0]}=h'->Q (.ref s.heap.objs.size) {s with heap:=h' }):wpAny (model prog w) A (pyIter (.ref l)) Q E s:=JK hl (h _ rfl)
theorem zipN  {z TI TO i1 i2 l1 l2:Addr}     (D:ZipApart z TI TO i1 i2 l1 l2)(hz:IsZip s.heap z TI TO .none)(eC:IsPair s.heap TI (.ref i1) (.ref i2))(eZ:IsPair s.heap TO a b)
  (h1:Ca t1 s.heap i1 l1 k1) (h2:Ca t2 s.heap i2 l2 k2) (bj:CI t1 s.heap l1 xs) (cx:CI t2 s.heap l2 ys)
  (hQ:∀x y h',xs[k1]?=some x->ys[k2]?=some y->IsZip h' z TI TO (rawInt s.heap.objs.size)->IsPair h' TO x y->Ca t1 h' i1 l1 (k1+1)->Ca t2 h' i2 l2 (k2+1)->IsPair h' s.heap.objs.size x y->h'.objs.size=s.heap.objs.size+1->(∀c o,c≠z->c≠TO->c≠i1->c≠i2->s.heap.get? c=some o->h'.get? c=some o)->Q (some (.ref s.heap.objs.size)) {s with heap:=h' })
  (hN:xs[k1]?=none\/ys[k2]?=none->A.handled=none/\∀h',(∀c o,c≠z->c≠TO->c≠i1->c≠i2->s.heap.get? c=some o->h'.get? c=some o)->Q none {s with heap:=h' }):wpAny (model prog w) A (pyNext (.ref z)) Q E s:=by
 have hT:s.TypeIs (.ref z) "zip" := ⟨_,hz,rfl⟩
 have e1:=F.slot_zip_next
 unfold pyNext
 refine wpAny_bind (wpAny_attempt (wpAny_callSpecial?_slot hT e1 (wpAny_call_entry e1 hT F.entry_zip_next ?_ (F.args_zip_next_1 _))))
 wp_walk using wpAny_setField_rec hz
 ·exact Nat.lt_of_sub_eq_succ rfl
 intro u0 g0 k0
 replace g0:IsZip u0 z TI TO .ellipsis:=g0
 have m1:Ca t1 u0 i1 l1 k1:=h1.extBut k0.extBut D.i1z
 have m2:CI t1 u0 l1 xs:=bj.extBut k0.extBut D.l1z
 simp only[List.zipIdx_cons,List.zipIdx_nil,List.forIn_cons,List.forIn_nil]
 have stop:∀h' (e:Addr),(∀c o,c≠z->c≠TO->c≠i1->c≠i2->s.heap.get? c=some o->h'.get? c=some o)->IsZip h' z TI TO .ellipsis->(∃o,h'.get? e=some o/\o.cls=.type "StopIteration")->xs[k1]?=none\/ys[k2]?=none ->
   wpAny (model prog w) A.in1 (setField (.ref z) 0 .none) (fun _ ic=>wpAny (model prog w) A (do if <- isInstance (.ref e) (.type "StopIteration") then pure none else throw (.ref e)) Q E ic) (fun e s'=>wpAny (model prog w) A (do if <- isInstance e (.type "StopIteration") then pure none else throw e) Q E s') {s with heap:=h' }:=fun h' e kk hz' he hx=>by
  obtain⟨o,e2,e3⟩:=he
  have n:e≠z:=fun x=>by subst x;rw[hz']at e2;cases e2;simp at e3
  refine wpAny_setField_rec hz' (Nat.lt_of_sub_eq_succ rfl) fun h2 _ k2=>wpAny_bind (wpAny_isInstance (T := "StopIteration") (b:=true) ⟨o,k2.extBut e o n e2,e3⟩ isSubtype_stop (wpAny_pure ((hN hx).2 h2 fun c o n1 n2 n3 n4 q=>k2.extBut c o n1 (kk c o n1 n2 n3 n4 q))))
 wp_walk using wpAny_onRaise,IJ (A:=A.in1) (s:={s with heap:=u0}) m1 m2
 ·intro x u1 hx m3 k3
  have y0:IsPair u1 TO a b:=k3.extBut TO _ D.TOi1 (k0.extBut TO _ D.TOz eZ)
  wp_walk using wpAny_updateSeq_pair y0
  intro u2 y2 k4
  replace y2:IsPair u2 TO x b:=y2
  have kk:∀c o,c≠z->c≠TO->c≠i1->s.heap.get? c=some o->u2.get? c=some o:=fun c o n1 n2 n3 q=>k4.extBut c o n2 (k3.extBut c o n3 (k0.extBut c o n1 q))
  have g2:IsZip u2 z TI TO .ellipsis:=k4.extBut _ _ D.TOz.symm (k3.extBut _ _ D.i1z.symm g0)
  have m4:Ca t2 u2 i2 l2 k2:=h2.at fun o q=>kk _ o D.i2z D.TOi2.symm D.i12.symm q
  have m5:CI t2 u2 l2 ys:=((cx.extBut k0.extBut D.l2z).extBut k3.extBut D.l2i1).extBut k4.extBut D.l2TO
  wp_walk using wpAny_onRaise,IJ (A:=A.in1) (s:={s with heap:=u2}) m4 m5
  ·intro y u3 hy m6 k5
   have y3:IsPair u3 TO x b:=k5.extBut TO _ D.TOi2 y2
   wp_walk using wpAny_updateSeq_pair y3
   intro u4 y4 k6
   replace y4:IsPair u4 TO x y:=y4
   have g4:IsZip u4 z TI TO .ellipsis:=k6.extBut _ _ D.TOz.symm (k5.extBut _ _ D.i2z.symm g2)
   have zz:u4.objs.size=s.heap.objs.size:=k6.1.trans (k5.1.trans (k4.1.trans (k3.1.trans k0.1)))
   wp_walk using newT
   ·exact (show 2<=sizeLine from by decide)
   intro u5 q5
   have kp:∀c o,u4.get? c=some o->u5.get? c=some o:=fun c o q=>by rw[<-q5];exact Heap.get?_push_of_some _ q
   have g5:=kp z _ g4
   have y5:IsPair u5 u4.objs.size x y:=by rw[<-q5];exact Heap.get?_push_size _ rfl
   have z5:u5.objs.size=u4.objs.size+1:=by rw[<-q5];exact Heap.size_push ..
   wp_walk using wpAny_setField_rec g5
   ·exact Nat.lt_of_sub_eq_succ rfl
   intro u6 g6 k7
   replace g6:IsZip u6 z TI TO (rawInt u4.objs.size):=g6
   wp_walk using wpAny_setField_rec g6
   ·exact Nat.lt_of_sub_eq_succ rfl
   intro u7 g7 k8
   replace g7:IsZip u7 z TI TO (rawInt u4.objs.size):=g7
   refine wpAny_pure ⟨_,rfl,wpAny_pure ?_⟩
   show Q (some (Value.ref u4.objs.size)) _
   have up:∀c o,c≠z->u4.get? c=some o->u7.get? c=some o:=fun c o n q=>k8.extBut c o n (k7.extBut c o n (kp c o q))
   have nz:u4.objs.size≠z:=Nat.ne_of_gt (Heap.lt_size g4)
   have y7:=k8.extBut _ _ nz (k7.extBut _ _ nz y5)
   rw[zz]at g7 y7 z5 ⊢
   exact hQ x y u7 hx hy g7 (up _ _ D.TOz y4) ((m3.at fun o q=>k6.extBut _ o D.TOi1.symm (k5.extBut _ o D.i12 (k4.extBut _ o D.TOi1.symm q))).at fun o q=>up _ o D.i1z q) ((m6.at fun o q=>k6.extBut _ o D.TOi2.symm q).at fun o q=>up _ o D.i2z q) y7 ((k8.1.trans k7.1).trans z5)
    fun c o n1 n2 n3 n4 q=>up c o n1 (k6.extBut c o n2 (k5.extBut c o n4 (kk c o n1 n2 n3 q)))
  ·refine fun hy=>⟨(hN (.inr hy)).1,fun u3 e k5 he=>?_⟩
   exact stop u3 e (fun c o n1 n2 n3 n4 q=>k5 c o n4 (kk c o n1 n2 n3 q)) (k5 z _ D.i2z.symm g2) he (.inr hy)
 ·refine fun hx=>⟨(hN (.inl hx)).1,fun u1 e k3 he=>?_⟩
  exact stop u1 e (fun c o n1 n2 n3 n4 q=>k3 c o n3 (k0.extBut c o n1 q)) (k3 z _ D.i1z.symm g0) he (.inl hx)
theorem KR     (bj:CI t1 s.heap l1 xs)(cx:CI t2 s.heap l2 ys)
  (h:∀h',IsZip h' (s.heap.objs.size+4) (s.heap.objs.size+2) (s.heap.objs.size+3) .none->IsPair h' (s.heap.objs.size+2) (.ref s.heap.objs.size) (.ref (s.heap.objs.size+1))->IsPair h' (s.heap.objs.size+3) .none .none->Ca t1 h' s.heap.objs.size l1 0->Ca t2 h' (s.heap.objs.size+1) l2 0->h'.objs.size=s.heap.objs.size+5->(∀c o,s.heap.get? c=some o->h'.get? c=some o)->Q (.ref (s.heap.objs.size+4)) {s with heap:=h' }):
  wpAny (model prog w) A (call (.type "zip") [.ref l1,.ref l2]) Q E s:=by
 have M:Meets (Builtin.«zip.__new__» ⟨[.type "zip",.ref l1,.ref l2],[]⟩) fun _ R t=>t=s/\∀h',IsZip h' (s.heap.objs.size+4) (s.heap.objs.size+2) (s.heap.objs.size+3) .none->IsPair h' (s.heap.objs.size+2) (.ref s.heap.objs.size) (.ref (s.heap.objs.size+1))->IsPair h' (s.heap.objs.size+3) .none .none->Ca t1 h' s.heap.objs.size l1 0->Ca t2 h' (s.heap.objs.size+1) l2 0->h'.objs.size=s.heap.objs.size+5->(∀c o,s.heap.get? c=some o->h'.get? c=some o)->R (.ok (.ret (.ref (s.heap.objs.size+4)))) {s with heap:=h' }:=.of_wp fun prog w A R t ⟨e,q⟩=>by
  subst e
  obtain⟨hp,g,d,tk,os⟩:=t
  have bX:=sub_zip
  wp_walk using VJ bj
  intro u1 q1
  obtain⟨a1,b1,c1⟩:=psh q1 rfl
  have hl2':CI t2 u1 l2 ys:=by rw[<-q1];exact CI.push cx _
  wp_walk using VJ (s:=⟨u1,g,d,tk,os⟩) hl2'
  intro u2 q2
  obtain⟨a2,b2,c2⟩:=psh q2 rfl
  wp_walk using newT
  ·exact (show 2<=sizeLine from by decide)
  intro u3 q3
  obtain⟨a3,b3,c3⟩:=psh q3 rfl
  wp_walk using newT
  ·exact (show 2<=sizeLine from by decide)
  intro u4 q4
  obtain⟨a4,b4,c4⟩:=psh q4 rfl
  wp_walk
  refine⟨_,rfl,?_⟩
  have Z1:u1.objs.size=hp.objs.size+1:=c1
  have Z2:u2.objs.size=hp.objs.size+2:=(show u2.objs.size=u1.objs.size+1 from c2).trans (by rw[Z1])
  have Z3:u3.objs.size=hp.objs.size+3:=(show u3.objs.size=u2.objs.size+1 from c3).trans (by rw[Z2])
  have Z4:u4.objs.size=hp.objs.size+4:=(show u4.objs.size=u3.objs.size+1 from c4).trans (by rw[Z3])
  obtain⟨a5,b5,c5⟩:=psh (rfl:u4.push {cls:=.type "zip",data:=.fields #[.none,.bool false,.bool false,.ref u2.objs.size,.ref u3.objs.size]}=_) rfl
  replace b1:u1.get? hp.objs.size=_:=b1
  replace b2:u2.get? u1.objs.size=_:=b2
  replace b3:IsPair u3 u2.objs.size (.ref hp.objs.size) (.ref u1.objs.size):=b3
  replace b4:IsPair u4 u3.objs.size .none .none:=b4
  show R (.ok (.ret (.ref u4.objs.size))) ⟨u4.push {cls:=.type "zip",data:=.fields #[.none,.bool false,.bool false,.ref u2.objs.size,.ref u3.objs.size]},g,d,tk,os⟩
  rw[Z1,Z2]at b3
  rw[Z1]at b2
  rw[Z3]at b4
  rw[Z2,Z3,Z4]at b5
  rw[Z2,Z3]at a5 c5 ⊢
  rw[Z4]at c5 ⊢
  exact q _ b5 (a5 _ _ (a4 _ _ b3)) (a5 _ _ b4) (Ca.mk (a5 _ _ (a4 _ _ (a3 _ _ (a2 _ _ b1))))) (Ca.mk (a5 _ _ (a4 _ _ (a3 _ _ b2)))) c5 fun c o x=>a5 _ _ (a4 _ _ (a3 _ _ (a2 _ _ (a1 _ _ x))))
 exact callType_new F.called_zip (by decide) (F.typeCall_zip_2 _ _) (F.newCall_zip_2 _ _) (fun obj=>F.args_object_init_3 obj _ _) F.entry_zip_new M ⟨rfl,fun h' a b c d e f g=>⟨⟨_,a,rfl⟩,h h' a b c d e f g⟩⟩
end
end PySem
namespace PySem
section
variable {prog:Program} {w:World} {A:Around} {E:Value->Shared->Prop} {s:Shared}
noncomputable abbrev zpO (T TI TO:Addr)(f:Bool):Obj:={cls:=.type "zip",dict:=none,data:=.fields #[rawInt T,.bool f,.bool false,.ref TI,.ref TO],slots := #[]}
theorem zipH  {z TI TO T i1 i2 l1 l2:Addr}      (D:ZipApart z TI TO i1 i2 l1 l2)(hz:s.heap.get? z=some (zpO T TI TO f))(hTo:s.heap.get? T=some oT)(eC:IsPair s.heap TI (.ref i1) (.ref i2))
  (h1:Ca t1 s.heap i1 l1 k1) (h2:Ca t2 s.heap i2 l2 k2) (bj:CI t1 s.heap l1 xs) (cx:CI t2 s.heap l2 ys)
  (hQ:∀x y h',xs[k1]?=some x->ys[k2]?=some y->h'.get? z=some (zpO T TI TO true)->Ca t1 h' i1 l1 (k1+1)->Ca t2 h' i2 l2 (k2+1)->IsPair h' s.heap.objs.size x y->h'.objs.size=s.heap.objs.size+1->(∀c o,c≠z->c≠i1->c≠i2->s.heap.get? c=some o->h'.get? c=some o)->Q (some (.ref s.heap.objs.size)) {s with heap:=h' })
  (hN:xs[k1]?=none\/ys[k2]?=none->A.handled=none/\∀h',(∀c o,c≠z->c≠i1->c≠i2->s.heap.get? c=some o->h'.get? c=some o)->Q none {s with heap:=h' }):wpAny (model prog w) A (pyNext (.ref z)) Q E s:=by
 have hT:s.TypeIs (.ref z) "zip" := ⟨_,hz,rfl⟩
 have e1:=F.slot_zip_next
 have e:((T:Int)).toNat=T:=Int.toNat_natCast T
 have lz:=Heap.lt_size hz
 unfold pyNext
 refine wpAny_bind (wpAny_attempt (wpAny_callSpecial?_slot hT e1 (wpAny_call_entry e1 hT F.entry_zip_next ?_ (F.args_zip_next_1 _))))
 wp_walk
 simp only[<-Array.forIn_toList,List.forIn_cons,List.forIn_nil]
 refine PySem.W.kdx_alive (a:=(T:Int).toNat) (by rw[e];exact hTo) ?_
 have stop:∀h' (e:Addr),(∀c o,c≠z->c≠i1->c≠i2->s.heap.get? c=some o->h'.get? c=some o)->(∃o,h'.get? e=some o/\o.cls=.type "StopIteration")->xs[k1]?=none\/ys[k2]?=none ->
   wpAny (model prog w) A (do if <- isInstance (.ref e) (.type "StopIteration") then pure none else throw (.ref e)) Q E {s with heap:=h' }:=fun h' e kk ⟨o,e2,e3⟩ hx=>wpAny_bind (wpAny_isInstance (T := "StopIteration") (b:=true) ⟨o,e2,e3⟩ isSubtype_stop (wpAny_pure ((hN hx).2 h' kk)))
 cases f
 ·wp_walk using wpAny_setField_rec hz
  ·exact Nat.lt_of_sub_eq_succ rfl
  intro u0 g0 k0
  have m1:=h1.extBut k0.extBut D.i1z
  have m2:=bj.extBut k0.extBut D.l1z
  wp_walk using IJ (A:=A.in1) (s:={s with heap:=u0}) m1 m2
  ·intro x u1 hx m3 k3
   have m4:=(h2.extBut k0.extBut D.i2z).extBut k3.extBut D.i12.symm
   have m5:=(cx.extBut k0.extBut D.l2z).extBut k3.extBut D.l2i1
   wp_walk using IJ (A:=A.in1) (s:={s with heap:=u1}) m4 m5
   ·intro y u2 hy m6 k4
    wp_walk using newT
    ·exact (show 2<=sizeLine from by decide)
    intro u3 q3
    obtain⟨a3,b3,c3⟩:=psh q3 rfl
    wp_walk
    have zz:u2.objs.size=s.heap.objs.size:=k4.1.trans (k3.1.trans k0.1)
    have b4:IsPair u3 u2.objs.size x y:=b3
    have c4:u3.objs.size=u2.objs.size+1:=c3
    have kk:∀c o,c≠z->c≠i1->c≠i2->s.heap.get? c=some o->u3.get? c=some o:=fun c o n1 n2 n3 q=>a3 _ _ (k4.extBut c o n3 (k3.extBut c o n2 (k0.extBut c o n1 q)))
    have g3:=a3 _ _ (k4.extBut z _ D.i2z.symm (k3.extBut z _ D.i1z.symm g0))
    refine⟨_,rfl,wpAny_pure ?_⟩
    show Q (some (Value.ref u2.objs.size)) _
    rw[zz]at b4 c4 ⊢
    exact hQ x y u3 hx hy g3 ((m3.extBut k4.extBut D.i12).at fun o q=>a3 _ _ q) (m6.at fun o q=>a3 _ _ q) b4 c4 kk
   ·exact fun hy=>⟨(hN (.inr hy)).1,fun u2 e k4 he=>stop u2 e (fun c o n1 n2 n3 q=>k4 c o n3 (k3.extBut c o n2 (k0.extBut c o n1 q))) he (.inr hy)⟩
  ·exact fun hx=>⟨(hN (.inl hx)).1,fun u1 e k3 he=>stop u1 e (fun c o n1 n2 n3 q=>k3 c o n2 (k0.extBut c o n1 q)) he (.inl hx)⟩
 ·have k0:=Heap.SameBut.refl z s.heap
  have m1:=h1.extBut k0.extBut D.i1z
  have m2:=bj.extBut k0.extBut D.l1z
  wp_walk using IJ (A:=A.in1) (s:={s with heap:=s.heap}) m1 m2
  ·intro x u1 hx m3 k3
   have m4:=(h2.extBut k0.extBut D.i2z).extBut k3.extBut D.i12.symm
   have m5:=(cx.extBut k0.extBut D.l2z).extBut k3.extBut D.l2i1
   wp_walk using IJ (A:=A.in1) (s:={s with heap:=u1}) m4 m5
   ·intro y u2 hy m6 k4
    wp_walk using newT
    ·exact (show 2<=sizeLine from by decide)
    intro u3 q3
    obtain⟨a3,b3,c3⟩:=psh q3 rfl
    wp_walk
    have zz:u2.objs.size=s.heap.objs.size:=k4.1.trans (k3.1.trans k0.1)
    have b4:IsPair u3 u2.objs.size x y:=b3
    have c4:u3.objs.size=u2.objs.size+1:=c3
    have kk:∀c o,c≠z->c≠i1->c≠i2->s.heap.get? c=some o->u3.get? c=some o:=fun c o n1 n2 n3 q=>a3 _ _ (k4.extBut c o n3 (k3.extBut c o n2 (k0.extBut c o n1 q)))
    have g3:=a3 _ _ (k4.extBut z _ D.i2z.symm (k3.extBut z _ D.i1z.symm hz))
    refine⟨_,rfl,wpAny_pure ?_⟩
    show Q (some (Value.ref u2.objs.size)) _
    rw[zz]at b4 c4 ⊢
    exact hQ x y u3 hx hy g3 ((m3.extBut k4.extBut D.i12).at fun o q=>a3 _ _ q) (m6.at fun o q=>a3 _ _ q) b4 c4 kk
   ·exact fun hy=>⟨(hN (.inr hy)).1,fun u2 e k4 he=>stop u2 e (fun c o n1 n2 n3 q=>k4 c o n3 (k3.extBut c o n2 (k0.extBut c o n1 q))) he (.inr hy)⟩
  ·exact fun hx=>⟨(hN (.inl hx)).1,fun u1 e k3 he=>stop u1 e (fun c o n1 n2 n3 q=>k3 c o n2 (k0.extBut c o n1 q)) he (.inl hx)⟩
end
noncomputable def ZTp (xs ys:Array Value)(lo:Addr)(h:Heap)(as:List Addr):Prop:=as.Pairwise (· < ·)/\∀(j:Nat) a,as[j]?=some a->lo<a/\∃x y,xs[j]?=some x/\ys[j]?=some y/\IsPair h a x y
theorem ZTp.keep  {lo:Addr}   (g:ZTp xs ys lo h as)(k:∀b o,lo<b->h.get? b=some o->h'.get? b=some o):ZTp xs ys lo h' as:=⟨g.1,fun j a q=>let ⟨l,x,y,e1,e2,e3⟩:=g.2 j a q;⟨l,x,y,e1,e2,k a _ l e3⟩⟩
theorem ZTp.snoc  {lo b:Addr}    (g:ZTp xs ys lo h as)(hl:lo<b)(hb:∀a o,h.get? a=some o->a∈as->a<b)(e1:xs[as.length]?=some x)(e2:ys[as.length]?=some y)(ht:IsPair h b x y):ZTp xs ys lo h (as++[b]):=by
 refine⟨List.pairwise_append.mpr ⟨g.1,List.pairwise_singleton _ _,fun a ha c hc=>?_⟩,fun j a q=>?_⟩
 ·obtain⟨j,hj⟩:=List.mem_iff_getElem?.mp ha
  obtain⟨_,_,_,_,_,e⟩:=g.2 j a hj
  rw[List.mem_singleton.mp hc]
  exact hb a _ e ha
 ·rcases Nat.lt_or_ge j as.length with l|l
  ·rw[List.getElem?_append_left l]at q
   exact g.2 j a q
  ·have:=(List.getElem?_eq_some_iff.mp q).1
   obtain rfl:j=as.length:=by simp at this;lia
   rw[List.getElem?_append_right l,Nat.sub_self]at q
   obtain rfl:b=a:=by simpa using q
   exact⟨hl,x,y,e1,e2,ht⟩
section
variable {prog:Program} {w:World} {s:Shared}
theorem Ti:typeLookup (.type "zip") "__len__"=pure none:=by rw[typeLookup_type,builtinLookup_eq_fast];kernel_rfl
theorem QT:typeLookup (.type "zip") "__length_hint__"=pure none:=by rw[typeLookup_type,builtinLookup_eq_fast];kernel_rfl
theorem ZY  {z TI TO i1 i2 l1 l2:Addr}   (D:ZipApart z TI TO i1 i2 l1 l2)(hn:xs.size<=sizeLine)(hxy:xs.size=ys.size)(hz:IsZip s.heap z TI TO .none)(eC:IsPair s.heap TI (.ref i1) (.ref i2))(eZ:IsPair s.heap TO a b)(h1:Ca t1 s.heap i1 l1 0)(h2:Ca t2 s.heap i2 l2 0)(bj:CI t1 s.heap l1 xs)(cx:CI t2 s.heap l2 ys):
  Gat prog w s z z "zip" xs.size (fun b=>b=z\/b=TO\/b=i1\/b=i2) (fun i ai h=>∃as,ai=as.map Value.ref/\as.length=i/\ZTp xs ys s.heap.objs.size h as/\(IsPair h TI (.ref i1) (.ref i2)/\Ca t1 h i1 l1 i/\Ca t2 h i2 l2 i/\CI t1 h l1 xs/\CI t2 h l2 ys)/\((IsZip h z TI TO .none/\∃a b,IsPair h TO a b) \/ ∃T f oT,h.get? z=some (zpO T TI TO f)/\h.get? T=some oT/\s.heap.objs.size<T)) (fun ai h=>∃as,ai=as.map Value.ref/\as.length=xs.size/\ZTp xs ys s.heap.objs.size h as):=by
 have lz:=Heap.lt_size hz
 have lI:=Heap.lt_size eC
 have lO:=Heap.lt_size eZ
 have a1:=h1.lt
 have a2:=h2.lt
 have b1:=bj.lt
 have b2:=cx.lt
 have sq:∀{t:Bool} {h h':Heap} {l:Addr} {v:Array Value},CI t h l v->(∀o,h.get? l=some o->h'.get? l=some o)->CI t h' l v:=fun {t} {h h' l v} x k=>by
  cases t
  ·obtain⟨o,e,r⟩:=x;exact⟨o,k o e,r⟩
  ·obtain⟨o,e,r⟩:=x;exact⟨o,k o e,r⟩
 refine⟨⟨_,hz,rfl⟩,by decide,by decide,hn,fun A t Q E k q=>?_,fun A u Q E k zz q=>?_,fun A i ai t Q E hh j hl hi lt q1 q2=>?_,fun i ai h h' j k=>?_,?_⟩
 ·have hT:t.TypeIs (.ref z) "zip" := ⟨_,k _ _ hz,rfl⟩
  unfold Builtin.List.listLengthHint
  wp_walk using wpAny_specialOf hT Ti,wpAny_specialOf hT QT
  exact q _ t.toks
 ·exact wpAny_pyIter_zip (k _ _ hz) (q u ⟨[],rfl,rfl,⟨.nil,fun j a e=>by simp at e⟩,⟨k _ _ eC,h1.at fun o e=>k _ o e,h2.at fun o e=>k _ o e,sq bj fun o e=>k _ o e,sq cx fun o e=>k _ o e⟩,.inl ⟨k _ _ hz,_,_,k _ _ eZ⟩⟩ fun b o e=>e)
 ·obtain⟨as,rfl,e2,e3,⟨e4,e5,e6,e7,e8⟩,e9⟩:=j
  have old:∀{b:Addr},s.heap.objs.size<b->¬ (b=z\/b=TO\/b=i1\/b=i2):=fun {b} l x=>by
   rcases x with rfl|rfl|rfl|rfl
   ·exact absurd lz (Nat.not_lt.mpr (Nat.le_of_lt l))
   ·exact absurd lO (Nat.not_lt.mpr (Nat.le_of_lt l))
   ·exact absurd a1 (Nat.not_lt.mpr (Nat.le_of_lt l))
   ·exact absurd a2 (Nat.not_lt.mpr (Nat.le_of_lt l))
  have fin:∀h',(xs[i]?=none\/ys[i]?=none)->KP (fun b=>b=z\/b=TO\/b=i1\/b=i2) t.heap h'->Q none {t with heap:=h' }:=fun h' e k=>by
   have:i=xs.size:=by rcases e with e|e<;>rw[Array.getElem?_eq_none_iff]at e<;>lia
   exact q2 h' t.toks this ⟨as,rfl,by lia,e3.keep fun b o l q=>k b o (old l) q⟩ k
  have one:∀x y h',xs[i]?=some x->ys[i]?=some y->Ca t1 h' i1 l1 (i+1)->Ca t2 h' i2 l2 (i+1)->IsPair h' t.heap.objs.size x y->KP (fun b=>b=z\/b=TO\/b=i1\/b=i2) t.heap h'->(∃T f oT,h'.get? z=some (zpO T TI TO f)/\h'.get? T=some oT/\s.heap.objs.size<T)->Q (some (.ref t.heap.objs.size)) {t with heap:=h' }:=fun x y h' ex ey i1' i2' hp k st=>by
   refine q1 _ h' t.toks (Array.getElem?_eq_some_iff.mp ex).1 ⟨as++[t.heap.objs.size],by simp,by simp[e2],(e3.keep fun b o l q=>k b o (old l) q).snoc lt (fun a o _ m=>?_) (by rw[e2];exact ex) (by rw[e2];exact ey) hp,⟨k _ _ (fun x=>?_) e4,i1',i2',sq e7 fun o q=>k _ o (fun x=>?_) q,sq e8 fun o q=>k _ o (fun x=>?_) q⟩,.inr st⟩ k
   ·obtain⟨j,hj⟩:=List.mem_iff_getElem?.mp m
    obtain⟨_,_,_,_,_,e⟩:=e3.2 j a hj
    exact Heap.lt_size e
   ·rcases x with x|x|x|x
    ·exact D.TIz x
    ·exact D.TITO x
    ·exact D.TIi1 x
    ·exact D.TIi2 x
   ·rcases x with x|x|x|x
    ·exact D.l1z x
    ·exact D.l1TO x
    ·exact D.l1i1 x
    ·exact D.l1i2 x
   ·rcases x with x|x|x|x
    ·exact D.l2z x
    ·exact D.l2TO x
    ·exact D.l2i1 x
    ·exact D.l2i2 x
  rcases e9 with ⟨c1,c,d,c2⟩|⟨T,f,oT,c1,c2,c3⟩
  ·refine zipN D c1 e4 c2 e5 e6 e7 e8 (fun x y h' ex ey g1 g2 g3 g4 g5 gs gk=>one x y h' ex ey g3 g4 g5 (fun b o n q=>gk b o (fun z=>n (.inl z)) (fun z=>n (.inr (.inl z))) (fun z=>n (.inr (.inr (.inl z)))) (fun z=>n (.inr (.inr (.inr z)))) q) ⟨_,false,_,g1,g5,lt⟩) fun e=>⟨hh,fun h' gk=>fin h' e fun b o n q=>gk b o (fun z=>n (.inl z)) (fun z=>n (.inr (.inl z))) (fun z=>n (.inr (.inr (.inl z)))) (fun z=>n (.inr (.inr (.inr z)))) q⟩
  ·refine zipH D c1 c2 e4 e5 e6 e7 e8 (fun x y h' ex ey g1 g3 g4 g5 gs gk=>one x y h' ex ey g3 g4 g5 (fun b o n q=>gk b o (fun z=>n (.inl z)) (fun z=>n (.inr (.inr (.inl z)))) (fun z=>n (.inr (.inr (.inr z)))) q) ⟨T,true,oT,g1,gk T oT (fun z=>old c3 (.inl z)) (fun z=>old c3 (.inr (.inr (.inl z)))) (fun z=>old c3 (.inr (.inr (.inr z)))) c2,c3⟩) fun e=>⟨hh,fun h' gk=>fin h' e fun b o n q=>gk b o (fun z=>n (.inl z)) (fun z=>n (.inr (.inr (.inl z)))) (fun z=>n (.inr (.inr (.inr z)))) q⟩
 ·obtain⟨as,r1,r2,r3,⟨r4,r5,r6,r7,r8⟩,r9⟩:=j
  refine⟨as,r1,r2,r3.keep fun b o l q=>k b o (Nat.ne_of_gt l) q,⟨k _ _ (Nat.ne_of_lt lI) r4,r5.at fun o q=>k _ o (Nat.ne_of_lt a1) q,r6.at fun o q=>k _ o (Nat.ne_of_lt a2) q,sq r7 fun o q=>k _ o (Nat.ne_of_lt b1) q,sq r8 fun o q=>k _ o (Nat.ne_of_lt b2) q⟩,?_⟩
  rcases r9 with ⟨c1,c,d,c2⟩|⟨T,f,oT,c1,c2,c3⟩
  ·exact .inl ⟨k _ _ (Nat.ne_of_lt lz) c1,c,d,k _ _ (Nat.ne_of_lt lO) c2⟩
  ·exact .inr ⟨T,f,oT,k _ _ (Nat.ne_of_lt lz) c1,k _ _ (Nat.ne_of_gt c3) c2,c3⟩
 ·rintro (x|x|x|x)
  ·exact absurd x (Nat.ne_of_gt lz)
  ·exact absurd x (Nat.ne_of_gt lO)
  ·exact absurd x (Nat.ne_of_gt a1)
  ·exact absurd x (Nat.ne_of_gt a2)
end
end PySem
namespace L2
open PySem PySem.Spec PyProof.Rows GW
noncomputable def SqB (K:PySem.W.Frag)(H:Hp)(t:Bool)(a:Addr)(xs:List V):Prop:=match t with|false=>SqL K H a xs|true=>SqT K H a xs
theorem Inv.seqB         (I:Inv X af σ H s)(h:SqB X.K H t a xs):∃its:List Value,Vals xs its/\CI t s.heap a its.toArray:=by
 cases t
 ·obtain⟨its,r,p,_⟩:=I.list h
  exact⟨its,r,p.isList⟩
 ·obtain⟨its,r,p,_⟩:=I.tuple h
  exact⟨its,r,p⟩
noncomputable def Itz2 (K:PySem.W.Frag)(t1 t2:Bool)(a b:Addr)(xs ys:List V):It:=⟨fun i H=>i<xs.length/\i<ys.length/\SqB K H t1 a xs/\SqB K H t2 b ys,fun i H x H'=>∃t u v,H t=none/\xs[i]?=some u/\ys[i]?=some v/\x=.ref t/\H'=upd H t (.tup [u,v]),fun i H=>(xs.length<=i\/ys.length<=i)/\SqB K H t1 a xs/\SqB K H t2 b ys⟩
theorem VL {P:Program}{w:World}{K:PySem.W.Frag}{eX:List Expr}{x1}{dQ:Pos}{t1 t2:Bool}{a b z TI TO i1 i2:Addr}(D:ZipApart z TI TO i1 i2 a b)(xs ys:List V):Turn P w K (.Tuple eX x1 dQ) (Itz2 K t1 t2 a b xs ys) [z,TI,TO,i1,i2] z
  (fun i h=>IsZip h z TI TO .none/\IsPair h TI (.ref i1) (.ref i2)/\(∃c d,IsPair h TO c d)/\Ca t1 h i1 a i/\Ca t2 h i2 b i) where
 mem:=by simp
 obj:=fun i h st c hc=>by
  obtain⟨h1,h2,⟨u,v,h3⟩,h4',h5'⟩:=st
  obtain⟨o4,h4,d4⟩:=h4'.ob
  obtain⟨o5,h5,d5⟩:=h5'.ob
  simp only[List.mem_cons,List.not_mem_nil,or_false]at hc
  rcases hc with rfl|rfl|rfl|rfl|rfl
  ·exact⟨_,h1,fun v z=>by cases z⟩
  ·exact⟨_,h2,fun v z=>by cases z⟩
  ·exact⟨_,h3,fun v z=>by cases z⟩
  ·exact⟨o4,h4,fun v z=>by rw[d4]at z;cases z⟩
  ·exact⟨o5,h5,fun v z=>by rw[d5]at z;cases z⟩
 keep:=fun i h h' st k=>by
  obtain⟨h1,h2,⟨u,v,h3⟩,h4,h5⟩:=st
  exact⟨k z (by simp) _ h1,k TI (by simp) _ h2,⟨u,v,k TO (by simp) _ h3⟩,h4.at fun o q=>k i1 (by simp) o q,h5.at fun o q=>k i2 (by simp) o q⟩
 item:=by
  intro X hP hw hK hc i af s σ H E I hf st hg
  subst hP hw hK
  obtain⟨hi,hj,hq,bZ⟩:=hg
  obtain⟨hz,eC,⟨c,d,eZ⟩,h1,h2⟩:=st
  obtain⟨its,rv,p⟩:=I.seqB hq
  obtain⟨az,iz,p2⟩:=I.seqB bZ
  obtain⟨u,hu,ru⟩:=rv.get (i:=i) (x:=xs[i]) (by simp[hi])
  obtain⟨v,hv,m8⟩:=iz.get (i:=i) (x:=ys[i]) (by simp[hj])
  have l1:=rv.length
  have l2:=iz.length
  refine zipN D hz eC eZ h1 h2 p p2 (fun u' v' h' eu ev g1 g2 g3 g4 g5 gs gk=>?_) fun y=>by simp at y;lia
  obtain rfl:u=u':=by simpa [hu] using eu
  obtain rfl:v=v':=by simpa [hv] using ev
  have hTz:s.heap.objs.size≠z:=Nat.ne_of_gt (Heap.lt_size hz)
  refine⟨_,rfl,wpAny_letOwnedTupleGo_zip g1 fun ip e1 bY=>?_⟩
  have fO:∀b o,b ∉ [z,TI,TO,i1,i2]->s.heap.get? b=some o->ip.get? b=some o:=fun b o hb q=>by
   simp only[List.mem_cons,List.not_mem_nil,or_false,not_or]at hb
   exact (bY.2 b hb.1).trans (gk b o hb.1 hb.2.2.1 hb.2.2.2.1 hb.2.2.2.2 q)
  obtain⟨un,hok⟩:=I.unL fO hf
  have hn:H s.heap.objs.size=none:=I.hok.fresh (Nat.le_refl _)
  have new:Cz X.prog X.w (upd H s.heap.objs.size (.tup [xs[i],ys[i]])) ip s.heap.objs.size (.tup [xs[i],ys[i]]):=⟨by have:=AA;simp;lia,[u,v],.cons ru (.cons m8 .nil),_,(bY.2 _ hTz).trans g5,rfl,_,rfl⟩
  refine⟨.ref s.heap.objs.size,upd H s.heap.objs.size (.tup [xs[i],ys[i]]),I.call' (s':={s with heap:=ip }) (ch:=[z,TI,TO,i1,i2]) rfl (un.track (Nat.le_refl _) hn) (hok.track hn new) I.bare (fun b hb=>?_),rfl,⟨_,_,_,hn,by simp[hi],by simp[hj],rfl,rfl⟩,?_,fun b hb=>?_⟩
  ·exact (hf b hb).ch
  ·refine⟨e1,(bY.2 TI D.TIz).trans (gk TI _ D.TIz D.TITO D.TIi1 D.TIi2 eC),⟨u,v,(bY.2 TO D.TOz).trans g2⟩,g3.at fun o q=>(bY.2 i1 D.i1z).trans q,g4.at fun o q=>(bY.2 i2 D.i2z).trans q⟩
  ·have fU:=hf b hb
   have:∃o,s.heap.get? b=some o:=by
    simp only[List.mem_cons,List.not_mem_nil,or_false]at hb
    rcases hb with rfl|rfl|rfl|rfl|rfl
    ·exact⟨_,hz⟩
    ·exact⟨_,eC⟩
    ·exact⟨_,eZ⟩
    ·obtain⟨o,ho,_⟩:=h1.ob;exact⟨o,ho⟩
    ·obtain⟨o,ho,_⟩:=h2.ob;exact⟨o,ho⟩
   obtain⟨o,ho⟩:=this
   rw[Ah (Nat.ne_of_lt (Heap.lt_size ho))]
   exact fU.1
 done:=by
  intro X hP hw hK hc i af s σ H E I hf st hg
  subst hP hw hK
  obtain⟨hi,hq,bZ⟩:=hg
  obtain⟨hz,eC,⟨c,d,eZ⟩,h1,h2⟩:=st
  obtain⟨its,rv,p⟩:=I.seqB hq
  obtain⟨az,iz,p2⟩:=I.seqB bZ
  have l1:=rv.length
  have l2:=iz.length
  refine zipN D hz eC eZ h1 h2 p p2 (fun u v h' eu ev=>by have a:=(Array.getElem?_eq_some_iff.mp eu).1;have b:=(Array.getElem?_eq_some_iff.mp ev).1;simp at a b;lia) fun _=>⟨I.ok.hd hc,fun h' gk=>⟨rfl,?_⟩⟩
  obtain⟨un,hok⟩:=I.unL (h':=h') (fun b o hb q=>by
   simp only[List.mem_cons,List.not_mem_nil,or_false,not_or]at hb
   exact gk b o hb.1 hb.2.2.1 hb.2.2.2.1 hb.2.2.2.2 q) hf
  exact I.call' (s':={s with heap:=h' }) (ch:=[z,TI,TO,i1,i2]) rfl un hok I.bare fun b hb=>(hf b hb).ch
 self:=fun A i s Q E st h=>wpAny_pyIter_zip st.1 h
noncomputable def BN_ (K:PySem.W.Frag)(ta:TA):TI:=fun σ H R=>ta σ H fun vs H1=>∃a b xs ys t1 t2,vs=[.ref a,.ref b]/\SqB K H1 t1 a xs/\SqB K H1 t2 b ys/\R (Itz2 K t1 t2 a b xs ys) H1
theorem VM {K:PySem.W.Frag}     : BN_ K ta σ H Z=ta σ H fun vs H1=>∃a b xs ys t1 t2,vs=[.ref a,.ref b]/\SqB K H1 t1 a xs/\SqB K H1 t2 b ys/\Z (Itz2 K t1 t2 a b xs ys) H1:=rfl
theorem ZZ   {x1}     (hg:Gl X "zip")(hm:X.mg "zip"=none)(ha:PA X [e,f] ta)(hs:starEach [e,f] X.env=[(false,eval e X.env),(false,eval f X.env)]:=by rfl)(bY:starEach [f] X.env=[(false,eval f X.env)]:=by rfl):PI X (.Tuple eX x1 dQ) (.Call (.Name "zip" p) [e,f] [] pos) (BN_ X.K ta):=by
 intro af s σ H R I h
 refine Call_ (He I hg hm boot_zip (PyProof.Rows.callWith_type1 (thn (ha pos af s σ H _ I h) fun us s1 ⟨vs,H1,I1,r1,q1⟩=>?_) (by rw[hs,bY]) (by rw[bY];rfl)))
 obtain⟨a,b,xs,ys,t1,t2,ev,hq,bZ,q⟩:=q1
 subst ev
 cases r1 with
 |cons r rr=>cases rr with
  |cons r' rr=>
   cases rr
   cases r
   cases r'
   obtain⟨its,rv,pl⟩:=I1.seqB hq
   obtain⟨az,iz,gK⟩:=I1.seqB bZ
   refine KR pl gK fun h' hz eC eZ hi1 hi2 hsz hk=>?_
   refine wpAny_pyIter_zip (s:={s1 with heap:=h' }) hz ?_
   have I2:Inv X af σ H1 {s1 with heap:=h' }:=I1.kept (t':=s1.toks) hk
   refine⟨_,_,_,_,H1,rfl,I2,VL (zipApart_new pl.lt gK.lt) xs ys,⟨hz,eC,⟨_,_,eZ⟩,hi1,hi2⟩,fun c hc=>?_,q⟩
   have aN:s1.heap.objs.size<=c:=by
    simp only[List.mem_cons,List.not_mem_nil,or_false]at hc
    rcases hc with rfl|rfl|rfl|rfl|rfl
    ·exact Nat.le_add_right _ 4
    ·exact Nat.le_add_right _ 2
    ·exact Nat.le_add_right _ 3
    ·exact Nat.le_refl _
    ·exact Nat.le_add_right _ 1
   exact I1.fpOk aN (I1.hok.fresh aN)
theorem CH_ {K:PySem.W.Frag}         (n:Nat)(bR:n<=xs.length)(fb:n<=ys.length)(hn3:xs.length=n\/ys.length=n)(Pv:Nat->St->Hp->Prop)(h0:Pv 0 σ H)(hl:∀i σ H,i<=n->Pv i σ H->SqB K H t1 a xs/\SqB K H t2 b ys)
  (hs:∀i u v σ H t,i<n->xs[i]?=some u->ys[i]?=some v->Pv i σ H->H t=none->g (.ref t) σ (upd H t (.tup [u,v])) fun aj H2=>tb {D with nx:=Pv (i+1),ct:=Pv (i+1),bk:=D.nx} aj H2) (hd:∀σ H,Pv n σ H->D.nx σ H):ForW (Itz2 K t1 t2 a b xs ys) g tb D σ H:=by
 refine⟨fun i m σ H=>m+i=n/\Pv i σ H,⟨n,by lia,h0⟩,fun i m σ H ⟨hm,hp⟩=>?_⟩
 obtain⟨q1,q2⟩:=hl i σ H s!"" hp
 by_cases hi:i<n
 ·refine .inr ⟨⟨by lia,by lia,q1,q2⟩,Pv (i+1),fun ah H' h=>⟨m-1,by lia,by lia,h⟩,fun x H' hy=>?_⟩
  obtain⟨t,u,v,e1,e2,e3,rfl,rfl⟩:=hy
  exact hs i u v σ H t hi e2 e3 hp e1
 ·have e:i=n:=by lia
  subst e
  exact .inl ⟨⟨by lia,q1,q2⟩,hd σ H hp⟩
end L2
namespace Nest
noncomputable def sl (row:List Int)(b i:Nat):List Int:=(row.take i).drop b
noncomputable def outF (p e:Int)(s:List Int×Int)(x:Int):List Int×Int:=if x=e then (s.1,s.2-1) else (if s.2=0 then s.1++[x] else s.1,if p<=x then s.2+1 else s.2)
noncomputable def outS (p e:Int)(l:List Int):List Int×Int:=l.foldl (outF p e) ([],0)
noncomputable def outW (p e:Int)(l:List Int):List Int:=(outS p e l).1
noncomputable def wd (p e:Int)(row:List Int)(i a:Nat):List Int:=outW p e (sl row (a+1) i)
end Nest
namespace L2
open PySem PySem.Spec PyProof.Rows GW
theorem VN  {K:PySem.W.Frag}   (hK:X.K=K)(hl:PE X l tl):PI X tg l (iTup K tl):=by subst hK;exact HS hl
end L2
namespace L2
open PySem PySem.Spec PyProof.Rows
theorem VO  {K:PySem.W.Frag}(h:X.K=K):OpR X (binaryOp .Add) (Hf K):=by subst h;exact GP
end L2
namespace L2
open PySem PySem.W PySem.Spec PySem.Calls PyProof.Rows
theorem Tj    [DecidableEq κ](knd:HeapKind prog w κ)  (hd:(d==sysModules)=false):
  MeetsIn prog w (Builtin.«dict.__len__» ⟨[.ref d],[]⟩) (fun _ R s=>∃xs,s.heap.DictOfH knd d xs/\R (.ok (.ret (.int (xs.length:Nat) s.toks))) {s with toks:=s.toks+1}):=
 .of_wp fun A R s ⟨xs,⟨o,es,ep,ho,_,gd,he,_⟩,h⟩=>by
  show wpAny _ _ (dictSize d >>= _) _ _ s
  unfold dictSize
  refine wpAny_bind (wpAny_bind (wpAny_dictEntries ho gd (wpAny_pure ?_)))
  refine wpAny_bind (wpAny_pendingCount_other hd (wpAny_ret_mkInt ?_))
  rw[Nat.add_zero,size_of_entries he]
  exact h
theorem BO_ {prog:Program}{w:World}{κ:Type}[DecidableEq κ]{knd:HeapKind prog w κ}{A:Around}{E:Value->Shared->Prop}{s:Shared}{d:Addr}{xs:List (κ×Addr×Value)}{Q:Value->Shared->Prop}(hd:(d==sysModules)=false)(hm:s.heap.DictOfH knd d xs)(hfit:(xs.length:Int)<2 ^ 63)
  (h:Q (.int xs.length (s.toks+1)) {s with toks:=s.toks+1+1}):wpAny (model prog w) A (call (.builtin "len") [.ref d]) Q E s:=by
 refine Calls.call_function_entry kind_len plain_len entry_len (args_len1 _) ?_
 unfold Builtin.«len»
 refine wpAny_bind (m:=oneArg "len" _) (wpAny_pure (wpAny_bind (m:=callSpecial? (.ref d) (Str.ofString "__len__")) (wpAny_callSpecial?_slot (name:=Str.ofString "__len__") hm.typeIs F.slot_dict_len (call_meetsIn F.slot_dict_len hm.typeIs F.entry_dict_len (F.args_dict_len_1 _) (Tj knd hd) ⟨xs,hm,?_⟩))))
 show wpAny _ _ _ _ _ {s with toks:=s.toks+1}
 refine wpAny_bind (wpAny_holding (wpAny_pure (wpAny_bind (wpAny_letGo ?_))))
 show wpAny _ _ (if ((xs.length:Nat):Int)<0 then _ else _) _ _ _
 rw[if_neg s!""]
 show wpAny _ _ (if ((xs.length:Nat):Int) >= 2 ^ 63 then _ else _) _ _ _
 rw[if_neg s!""]
 exact wpAny_bind (wpAny_mkInt (wpAny_pure ⟨_,rfl,h⟩))
theorem Mg  : EG X (.builtin "len") (fun xs H Q=>∃p kvs,xs=[.ref p]/\H p=some (.dT kvs)/\Q (.int kvs.length) H):=by
 intro af s σ H xs us Q I r h
 obtain⟨p,kvs,rfl,e,q⟩:=h
 obtain⟨u,rfl,rx⟩:=vals1 r
 cases rx
 obtain⟨z,hd,xs,aX,dd⟩:=Bi_ I.hok e
 have hn:=OZ
 have ak:kvs.length=xs.length:=aX.length
 exact BO_ hd dd s!"" ⟨.int kvs.length,H,I.tok _,⟨_,by rw[ak]⟩,q⟩
theorem So:∀{ws:List (List Int)} {m:Nat} {w:List Int},ws[m]?=some w->ws.idxOf w<=m
 |[],m,w,h=>by simp at h
 |v::ws,m,w,h=>by
  rw[List.idxOf_cons]
  cases m with
  |zero=>
   have:v=w:=by simpa using h
   simp[this]
  |succ m=>
   have:=So (ws:=ws) (m:=m) (w:=w) (by simpa using h)
   cases e:(v==w) with
   |true=>exact Nat.zero_le _
   |false=>exact Nat.succ_le_succ this
end L2
set_option maxHeartbeats 1000000
set_option maxHeartbeats 4000000
namespace L2
open PySem PySem.W PySem.Spec PySem.Calls PyProof.Rows
theorem Xa           (I:Inv X af σ H s)(hc:X.calm=true)(rv:Vals xs us)(rw2:Vals ys vs)(pl:CI t1 s.heap a us.toArray)(gK:CI t2 s.heap b vs.toArray)(ak:xs.length=ys.length)(hz:xs.length<=sizeLine)
  (q:∀l rs H',Same H H'->H' l=none->rs.length=xs.length->(∀(i:Nat) (x y:V),xs[i]?=some x->ys[i]?=some y->∃t,rs[i]?=some (V.ref t)/\H' t=some (.tup [x,y]))->Q (.ref l) (upd H' l (.lst rs))):
  wpAny (model X.prog X.w) X.A (call (.type "zip") [.ref a,.ref b]) (fun v s2=>wpAny (model X.prog X.w) X.A (call (.type "list") [v]) (EP X af σ Q) X.xe s2) X.xe s:=by
 have l1:=rv.length
 have l2:=rw2.length
 refine KR pl gK fun h1 z1 z2 z3 z4 z5 z6 z7=>?_
 have sq:∀{t:Bool} {l:Addr} {v:Array Value},CI t s.heap l v->CI t h1 l v:=fun {t} {l v} x=>by
  cases t
  ·obtain⟨o,e,r⟩:=x;exact⟨o,z7 _ o e,r⟩
  ·obtain⟨o,e,r⟩:=x;exact⟨o,z7 _ o e,r⟩
 have G:Gat X.prog X.w {s with heap:=h1} (s.heap.objs.size+4) _ "zip" us.toArray.size _ _ _:=ZY (s:={s with heap:=h1}) (zipApart_new pl.lt gK.lt) (by rw[List.size_toArray,<-l1];exact hz) (by simp;lia) z1 z2 z3 z4 z5 (sq pl) (sq gK)
 refine G.list (I.ok.hd hc) fun h' tk ai c ⟨as,f1,f2,f3⟩ _ hS k4=>?_
 have aN:s.heap.objs.size<=h1.objs.size:=by lia
 have hk:∀b o,s.heap.get? b=some o->h'.get? b=some o:=fun b o e=>by
  have:=Heap.lt_size e
  refine k4 b o (fun x=>?_) (z7 b o e)
  rcases x with x|x|x|x
  ·exact absurd x (Nat.ne_of_lt (Nat.lt_of_lt_of_le this (Nat.le_add_right _ 4)))
  ·exact absurd x (Nat.ne_of_lt (Nat.lt_of_lt_of_le this (Nat.le_add_right _ 3)))
  ·exact absurd x (Nat.ne_of_lt this)
  ·exact absurd x (Nat.ne_of_lt (Nat.lt_of_lt_of_le this (Nat.le_add_right _ 1)))
 have gL:as.length=xs.length:=by simp at f2;lia
 let cs:List (List V):=(xs.zip ys).map fun p=>[p.1,p.2]
 have cI:cs.length=xs.length:=by simp[cs,ak]
 have hci:∀(i:Nat) (x y:V),xs[i]?=some x->ys[i]?=some y->cs[i]?=some [x,y]:=fun i x y h1 h2=>by
  simp only[cs]
  rw[List.getElem?_map,show (xs.zip ys)[i]?=some (x,y) from List.getElem?_zip_eq_some.mpr ⟨h1,h2⟩];rfl
 have hzz:(as.zip cs).map (·.1)=as:=List.map_fst_zip (by rw[gL,cI];exact Nat.le_refl _)
 have aZ:∀p∈as.zip cs,∃(i:Nat) (x y:V),as[i]?=some p.1/\xs[i]?=some x/\ys[i]?=some y/\p.2=[x,y]:=fun p hp=>by
  obtain⟨i,hi⟩:=List.mem_iff_getElem?.mp hp
  obtain⟨e1,e2⟩:=List.getElem?_zip_eq_some.mp hi
  have l:i<xs.length:=by rw[<-gL];exact (List.getElem?_eq_some_iff.mp e1).1
  have ex:xs[i]?=some xs[i]:=by simp
  have ey:ys[i]?=some (ys[i]'s!""):=by simp
  rw[hci i _ _ ex ey]at e2
  exact⟨i,_,_,e1,ex,ey,(Option.some.inj e2).symm⟩
 have ab:∀x∈as,h1.objs.size<x:=fun x hx=>by
  obtain⟨j,hj⟩:=List.mem_iff_getElem?.mp hx
  exact (f3.2 j x hj).1
 have fr:∀p∈as.zip cs,h1.objs.size<p.1:=fun p hp=>by
  obtain⟨i,_,_,e,_⟩:=aZ p hp
  exact ab _ (List.mem_of_getElem? e)
 obtain⟨H2,e1,e2,e3,e4,e5⟩:=Sm (as.zip cs) (by rw[hzz];exact f3.1.imp fun a=>Nat.ne_of_lt a) (fun p hp=>by
  obtain⟨i,x,y,g1,g2,g3,g4⟩:=aZ p hp
  obtain⟨u,hu,ru⟩:=rv.get g2
  obtain⟨v,hv,m8⟩:=rw2.get g3
  obtain⟨_,x',y',b1,b2,b3⟩:=f3.2 i p.1 g1
  obtain rfl:u=x':=by simpa [hu] using b1
  obtain rfl:v=y':=by simpa [hv] using b2
  refine⟨Nat.le_of_lt (Nat.lt_of_le_of_lt aN (fr p hp)),by rw[g4];have:=AA;simp;lia,[u,v],?_,⟨_,b3,rfl,0,rfl⟩⟩
  rw[g4]
  exact Vals.two' ru m8) H (Un.kept hk) (I.hok.kept hk) (fun p hp=>I.hok.fresh (Nat.le_of_lt (Nat.lt_of_le_of_lt aN (fr p hp))))
 have hD:H2 h1.objs.size=none:=by
  rw[e5 _ (by rw[hzz];exact fun z=>absurd (ab _ z) (Nat.lt_irrefl _))]
  exact I.hok.fresh aN
 have new:Cz X.prog X.w (upd H2 h1.objs.size (.lst (as.map V.ref))) h' h1.objs.size (.lst (as.map V.ref)):=⟨by rw[List.length_map,gL];exact hz,as.map Value.ref,c,BM_ as,by rw[<-f1];exact hS⟩
 refine⟨.ref h1.objs.size,_,I.un (t':=tk) (e1.track aN hD) (e2.track hD new),rfl,q _ _ H2 e3 hD (by rw[List.length_map,gL]) fun i x y hx hy=>?_⟩
 have hi:i<as.length:=by rw[gL];exact (List.getElem?_eq_some_iff.mp hx).1
 have kc:as[i]?=some as[i]:=by simp[hi]
 exact⟨as[i],by rw[List.getElem?_map,kc];rfl,e4 (as[i],[x,y]) (List.mem_iff_getElem?.mpr ⟨i,List.getElem?_zip_eq_some.mpr ⟨kc,hci i x y hx hy⟩⟩)⟩
noncomputable def Sq (K:PySem.W.Frag)(ta:TA):TE:=fun σ H Q=>ta σ H fun vs H1=>∃a b xs ys,vs=[.ref a,.ref b]/\SqL K H1 a xs/\SqL K H1 b ys/\xs.length=ys.length/\∀l rs H',Same H1 H'->H' l=none->rs.length=xs.length ->
 (∀(i:Nat) (x y:V),xs[i]?=some x->ys[i]?=some y->∃t,rs[i]?=some (V.ref t)/\H' t=some (.tup [x,y]))->Q (.ref l) (upd H' l (.lst rs))
theorem Pq {K:PySem.W.Frag}     : Sq K ta σ H Q=ta σ H fun vs H1=>∃a b xs ys,vs=[.ref a,.ref b]/\SqL K H1 a xs/\SqL K H1 b ys/\xs.length=ys.length/\∀l rs H',Same H1 H'->H' l=none->rs.length=xs.length ->
 (∀(i:Nat) (x y:V),xs[i]?=some x->ys[i]?=some y->∃t,rs[i]?=some (V.ref t)/\H' t=some (.tup [x,y]))->Q (.ref l) (upd H' l (.lst rs)):=rfl
theorem Tn     (hc:X.calm=true)(hg:Gl X "list")(hm:X.mg "list"=none)(iw:Gl X "zip")(kg:X.mg "zip"=none)(ha:PA X [e,f] ta)
  (jz:starEach [.Call (.Name "zip" p2) [e,f] [] cT] X.env=[(false,eval (.Call (.Name "zip" p2) [e,f] [] cT) X.env)]:=by rfl) (hs:starEach [e,f] X.env=[(false,eval e X.env),(false,eval f X.env)]:=by rfl) (bY:starEach [f] X.env=[(false,eval f X.env)]:=by rfl):
  PE X (.Call (.Name "list" p) [.Call (.Name "zip" p2) [e,f] [] cT] [] pos) (Sq X.K ta):=by
 intro af s σ H Q I h
 refine wpAny_Call_Name_kw (He I hg hm boot_list ?_)
 refine PyProof.Rows.callWith_type1 ?_ jz rfl
 rw[jz]
 refine Calls.spliced_cons ?_
 refine Call_ (He I iw kg boot_zip (PyProof.Rows.callWith_type1 (thn (ha cT af s σ H _ I h) fun us s1 ⟨vs,H1,I1,r1,q1⟩=>?_) (by rw[hs,bY]) (by rw[bY];rfl)))
 obtain⟨a,b,xs,ys,ev,hq,bZ,ak,q⟩:=q1
 subst ev
 cases r1 with
 |cons r rr=>cases rr with
  |cons r' rr=>
   cases rr
   cases r
   cases r'
   obtain⟨its,rv,pl,dW⟩:=I1.list hq
   obtain⟨az,iz,gK,_⟩:=I1.list bZ
   exact wpAny_mono (Xa (t1:=false) (t2:=false) I1 hc rv iz pl.isList gK.isList ak dW q) (fun v s2 h=>Calls.spliced_nil h) fun _ _ e=>e
theorem Pt  (hc:X.calm=true):EG X (.builtin "max") (fun xs H Q=>∃(p:Addr) (ns:List Int) (m:Int),xs=[.ref p]/\SqL X.K H p (ns.map V.int)/\m∈ns/\(∀x∈ns,x<=m)/\Q (.int m) H):=by
 intro af s σ H xs us Q I r h
 obtain⟨p,ns,m,rfl,hq,hm,hmax,q⟩:=h
 obtain⟨u,rfl,rx⟩:=vals1 r
 cases rx
 obtain⟨its,r',pl,_⟩:=I.list hq
 have hi:IntsAre its ns:=by simpa using intsAre_of r'
 obtain⟨zs,e⟩:=hi.allInts.items
 have gg:ns=zs.toList.map (·.1):=by rw[<-hi.numsOf,<-nums_intItems,<-e]
 have aE:0<ns.length:=List.length_pos_of_mem hm
 have hsz:0<zs.size:=by rw[gg,List.length_map,Array.length_toList]at aE;exact aE
 have hl:=pl.isList
 rw[e]at hl
 refine max_intList (I.ok.hd hc) hl hsz fun v h' tk hv hk=>?_
 obtain⟨t,rfl⟩:=intItems_at hv
 obtain⟨h1,h2⟩:=argBest_gt (numAt zs) (zs.size-1)
 have g1:numAt zs (argBest (fun i j=>decide (numAt zs i > numAt zs j)) (zs.size-1))∈ns:=by
  rw[gg,numAt_eq];exact getD_mem (by rw[List.length_map,Array.length_toList];lia)
 have g2:m<=numAt zs (argBest (fun i j=>decide (numAt zs i > numAt zs j)) (zs.size-1)):=by
  rw[gg]at hm
  obtain⟨j,hj,rfl⟩:=mem_getD hm
  rw[List.length_map,Array.length_toList]at hj
  rw[<-numAt_eq];exact h2 j s!""
 have g3:=hmax _ g1
 have g4:numAt zs (argBest (fun i j=>decide (numAt zs i > numAt zs j)) (zs.size-1))=m:=by lia
 exact⟨.int m,H,I.kept hk,⟨t,by rw[g4]⟩,q⟩
theorem Pu  : EG X (.builtin "len") (fun xs H Q=>(∃a kvs,xs=[V.ref a]/\H a=some (.dK kvs)/\Q (.int kvs.length) H) \/ ∃p kvs,xs=[.ref p]/\H p=some (.dT kvs)/\Q (.int kvs.length) H):=
 EG.or (by
  intro af s σ H xs us Q I r h
  obtain⟨a,kvs,rfl,ha,q⟩:=h
  obtain⟨u,rfl,ru⟩:=vals1 r
  cases ru
  exact CE_ I (.inl ha) fun t s' I'=>⟨.int kvs.length,H,I',⟨t,rfl⟩,q⟩) Mg
noncomputable def rIxB (K:PySem.W.Frag):R2:=fun x y H Q=>rIxL K x y H Q\/rIxT K x y H Q
theorem Z0  {K:PySem.W.Frag}(h:X.K=K):IxR X (rIxB K):=IxR.or (CM h) (CN h)
theorem BP_ {K:PySem.W.Frag}    : rIxB K x y H Q=((∃p xs i v,x=.ref p/\y=.int i/\SqL K H p xs/\atI xs i=some v/\Q v H) \/ ∃p xs i v,x=.ref p/\y=.int i/\SqT K H p xs/\atI xs i=some v/\Q v H):=rfl
noncomputable def YR:TE:=fun σ H Q=>U9 σ H Q\/Va σ H Q
theorem VP    : YR σ H Q=((∀p,H p=none->Q (.ref p) (upd H p (.dK []))) \/ ∀p,H p=none->Q (.ref p) (upd H p (.dT []))):=rfl
theorem Xb   : PE X (.Dict [] [] pos) YR:=fun af s σ H Q I h=>h.elim (fun h=>R6 af s σ H Q I h) (fun h=>R7 af s σ H Q I h)
end L2
namespace L2
section
variable {α:Type} [DecidableEq α]
noncomputable def ins1 (ai:List α)(x:α):List α:=if x∈ai then ai else ai++[x]
noncomputable def Cr (ai row:List α):List α:=row.foldl ins1 ai
noncomputable def Ay (row:List α):List α:=Cr [] row
theorem ND {ai:List α}{x y:α}:y∈ins1 ai x↔y∈ai\/y=x:=by
 unfold ins1
 split
 ·rename_i h
  constructor
  ·exact .inl
  ·rintro (h' | rfl)
   ·exact h'
   ·exact h
 ·simp
theorem KS:∀{row ai:List α} {y:α},y∈Cr ai row↔y∈ai\/y∈row
 |[],ai,y=>by simp[Cr]
 |x::row,ai,y=>by
  show y∈Cr (ins1 ai x) row↔_
  rw[KS,ND,List.mem_cons,or_assoc]
theorem A3 {row:List α}{y:α}:y∈Ay row↔y∈row:=by
 unfold Ay
 rw[KS];simp
theorem To {ai:List α}{x:α}(h:ai.Nodup):(ins1 ai x).Nodup:=by
 unfold ins1
 split
 ·exact h
 ·rename_i hx
  exact List.nodup_append.mpr ⟨h,by simp,fun a ha b hb z=>by simp at hb;subst z hb;exact hx ha⟩
theorem Ia:∀{row ai:List α},ai.Nodup->(Cr ai row).Nodup
 |[],ai,h=>h
 |x::row,ai,h=>Ia (row:=row) (To h)
theorem BA (row:List α):(Ay row).Nodup:=Ia List.nodup_nil
theorem QU (row:List α)(x:α):Ay (row++[x])=ins1 (Ay row) x:=by
 unfold Ay Cr
 rw[List.foldl_append];rfl
theorem VQ {l:List α}{x y:α}(hx:x∈l)(hy:y∈l)(h:l.idxOf x=l.idxOf y):x=y:=by
 have h1:=List.idxOf_lt_length_of_mem hx
 have h2:=List.idxOf_lt_length_of_mem hy
 have e1:l[l.idxOf x]=x:=List.getElem_idxOf h1
 have e2:l[l.idxOf y]=y:=List.getElem_idxOf h2
 rw[<-e1,<-e2]
 congr 1
noncomputable def num (row:List α):List Int:=row.map fun x=>((Ay row).idxOf x:Int)
theorem IK (row:List α):(num row).length=row.length:=by unfold num;rw[List.length_map]
theorem Fj {β:Type}[DecidableEq β](f:α->β):∀(row ai:List α),(∀x y,x∈ai\/x∈row->y∈ai\/y∈row->f x=f y->x=y)->Cr (ai.map f) (row.map f)=(Cr ai row).map f
 |[],ai,_=>rfl
 |x::row,ai,h=>by
  show Cr (ins1 (ai.map f) (f x)) (row.map f)=(Cr (ins1 ai x) row).map f
  have e:ins1 (ai.map f) (f x)=(ins1 ai x).map f:=by
   unfold ins1
   by_cases hx:x∈ai
   ·rw[if_pos hx,if_pos (List.mem_map_of_mem hx)]
   ·rw[if_neg hx,if_neg,List.map_append];rfl
    intro z
    obtain⟨y,hy,e⟩:=List.mem_map.mp z
    have:=h y x (.inl hy) (.inr (List.mem_cons_self ..)) e
    subst this
    exact hx hy
  rw[e]
  refine Fj f row _ fun a b ha hb=>h a b ?_ ?_
  ·rcases ha with ha|ha
   ·rcases ND.mp ha with ha|rfl
    ·exact .inl ha
    ·exact .inr (List.mem_cons_self ..)
   ·exact .inr (List.mem_cons_of_mem _ ha)
  ·rcases hb with hb|hb
   ·rcases ND.mp hb with hb|rfl
    ·exact .inl hb
    ·exact .inr (List.mem_cons_self ..)
   ·exact .inr (List.mem_cons_of_mem _ hb)
noncomputable def ncl (row:List α):Nat:=(Ay row).length
theorem IL (row:List α):ncl (num row)=ncl row:=by
 unfold ncl num Ay
 have:=Fj (fun x=>((Ay row).idxOf x:Int)) row [] (fun x y hx hy e=>by
  simp at hx hy
  exact VQ (A3.mpr hx) (A3.mpr hy) s!"")
 unfold Ay at this
 simp only[List.map_nil]at this
 rw[this,List.length_map]
theorem Sr {row:List α}{i:Nat}{x:α}(h:row[i]?=some x):(num row)[i]?=some ((Ay row).idxOf x:Int):=by
 unfold num
 rw[List.getElem?_map,h];rfl
theorem QV {row:List α}{i j:Nat}{x y:α}(hx:row[i]?=some x)(hy:row[j]?=some y):(num row)[i]?=(num row)[j]? ↔ x=y:=by
 rw[Sr hx,Sr hy]
 constructor
 ·intro h
  have:=Option.some.inj h
  exact VQ (A3.mpr (List.mem_of_getElem? hx)) (A3.mpr (List.mem_of_getElem? hy)) s!""
 ·rintro rfl;rfl
theorem Ss {row:List α}{n:Int}(h:n∈num row):0<=n/\n<ncl row:=by
 unfold num at h
 obtain⟨x,hx,rfl⟩:=List.mem_map.mp h
 have:=List.idxOf_lt_length_of_mem (A3.mpr hx)
 exact⟨by lia,by unfold ncl;lia⟩
theorem NF {row:List α}(h:row ≠ []):((ncl row:Int)-1)∈num row:=by
 have aE:Ay row ≠ []:=fun z=>by
  cases row with
  |nil=>exact h rfl
  |cons x row=>
   have:x∈Ay (x::row):=A3.mpr (List.mem_cons_self ..)
   rw[z]at this;cases this
 have iA:0<(Ay row).length:=List.length_pos_iff.mpr aE
 have ar:(Ay row).length-1<(Ay row).length:=by lia
 refine List.mem_map.mpr ⟨(Ay row)[(Ay row).length-1],A3.mp (List.getElem_mem ar),?_⟩
 have e:=(BA row).idxOf_getElem _ ar
 rw[e]
 unfold ncl
 lia
theorem Z5 {row:List α}(h:row ≠ []):1<=ncl row:=by
 have h1:=NF h
 have:=Ss h1
 lia
theorem MT (row:List α):ncl row<=row.length:=by
 unfold ncl
 have:∀(row ai:List α),(Cr ai row).length<=ai.length+row.length:=fun row=>by
  induction row with
  |nil=>intro ai;exact Nat.le_refl _
  |cons x row ih=>
   intro ai
   have:=ih (ins1 ai x)
   have h2:(ins1 ai x).length<=ai.length+1:=by unfold ins1;split<;>simp
   show (Cr (ins1 ai x) row).length<=_
   rw[List.length_cons];lia
 have:=this row []
 simpa [Ay] using this
end
theorem Su {α:Type}[DecidableEq α]:∀{l m:List α},l.Nodup->(∀x∈l,x∈m)->l.length<=m.length
 |[],m,_,_=>Nat.zero_le _
 |x::l,m,hn,h=>by
  have hx:=h x (List.mem_cons_self ..)
  have h1:=List.nodup_cons.mp hn
  have:=Su (m:=m.erase x) h1.2 fun y hy=>by
   have aE:y≠x:=fun z=>h1.1 (z ▸ hy)
   exact (List.mem_erase_of_ne aE).mpr (h y (List.mem_cons_of_mem _ hy))
  rw[List.length_erase_of_mem hx]at this
  have hp:0<m.length:=List.length_pos_of_mem hx
  rw[List.length_cons];lia
theorem Tp {α β:Type}[DecidableEq α][DecidableEq β](f:α->β){l:List α}{m:List β}(hl:l.Nodup)(hm:m.Nodup)(hs:∀y∈m,∃x∈l,f x=y)(ak:l.length<=m.length){x y:α}(hx:x∈l)(hy:y∈l)(e:f x=f y):x=y:=by
 refine Decidable.byContradiction fun aE=>?_
 have bX:∀z∈m,z∈(l.erase y).map f:=fun z hz=>by
  obtain⟨u,hu,rfl⟩:=hs z hz
  by_cases huy:u=y
  ·subst huy
   exact List.mem_map.mpr ⟨x,(List.mem_erase_of_ne aE).mpr hx,e⟩
  ·exact List.mem_map.mpr ⟨u,(List.mem_erase_of_ne huy).mpr hu,rfl⟩
 have:=Su hm bX
 rw[List.length_map,List.length_erase_of_mem hy]at this
 have hp:0<l.length:=List.length_pos_of_mem hy
 lia
theorem Tq {α β:Type}[DecidableEq α][DecidableEq β]{row:List (α×β)}(h:ncl row<=ncl (row.map (·.1))){x y:α×β}(hx:x∈row)(hy:y∈row)(e:x.1=y.1):x.2=y.2:=by
 have h':(Ay row).length<=(Ay (row.map fun p:α×β=>p.1)).length:=h
 have:=Tp (fun p:α×β=>p.1) (BA row) (BA (row.map fun p:α×β=>p.1)) (fun z hz=>by
  obtain⟨p,hp,rfl⟩:=List.mem_map.mp (A3.mp hz)
  exact⟨p,A3.mpr hp,rfl⟩) h' (A3.mpr hx) (A3.mpr hy) e
 rw[this]
theorem Z6 {α β:Type}[DecidableEq α][DecidableEq β]{row:List (α×β)}(h:∀x∈row,∀y∈row,x.1=y.1->x=y):ncl (row.map (·.1))=ncl row:=by
 unfold ncl Ay
 have:=Fj (fun p:α×β=>p.1) row [] (fun x y hx hy e=>by
  simp at hx hy
  exact h x hx y hy e)
 simp only[List.map_nil]at this
 rw[this,List.length_map]
structure WC (L:Int)(n:Nat)(b:List Int->Nat->Int)(words:List (List Int))(c:List Int):Prop where
 w0:words[0]?=some []
 ok:∀w∈words,∀x∈w,0<=x/\x<L
 tl:∀(k:Nat) (w:List Int),words[k]?=some w->0<k->w.tail∈words.take k
 nd:words.Nodup
 len:c.length=n
 rng:∀v∈c,0<=v/\v<ncl c
 top:((ncl c:Int)-1)∈c
 iff:∀r s,r<n->s<n->(c[r]?=c[s]? ↔ ∀w∈words,b w r=b w s)
 le:words.length<=ncl c
noncomputable def rowB (n:Nat)(b:List Int->Nat->Int)(w:List Int):List Int:=(List.range n).map (b w)
theorem De     (hr:r<n):(rowB n b w)[r]?=some (b w r):=by
 unfold rowB
 rw[List.getElem?_map,List.getElem?_range hr];rfl
theorem VR {c m:List Int}(h:c.length=m.length):(c.zip m).map (·.1)=c:=by
 rw[List.map_fst_zip s!""]
theorem MU {c m:List Int}{r:Nat}{u v:Int}(hu:c[r]?=some u)(hv:m[r]?=some v):(c.zip m)[r]?=some (u,v):=by
 rw[List.getElem?_zip_eq_some];exact⟨hu,hv⟩
section
variable {L:Int} {n:Nat} {b:List Int->Nat->Int} {words:List (List Int)} {c:List Int} {w:List Int} {x:Int}
theorem WC.start (hn:1<=n):WC L n b [[]] (num (rowB n b [])):=by
 have aE:rowB n b [] ≠ []:=fun z=>by
  have:=congrArg List.length z
  unfold rowB at this
  simp at this;lia
 refine⟨rfl,(fun w hw x hx=>by simp at hw;subst hw;cases hx),fun k w hk h0=>?_,by simp,by rw[IK];unfold rowB;simp,fun v hv=>?_,?_,fun r s hr hs=>?_,?_⟩
 ·cases k with
  |zero=>lia
  |succ k=>simp at hk
 ·rw[IL];exact Ss hv
 ·rw[IL];exact NF aE
 ·rw[QV (De hr) (De hs)]
  simp
 ·rw[IL]
  exact Z5 aE
theorem WC.at (h:WC L n b words c)  (hr:r<n):∃u,c[r]?=some u:=⟨c[r]'(by rw[h.len];exact hr),by simp[h.len,hr]⟩
theorem Fl:(rowB n b w).length=n:=by unfold rowB;simp
theorem WC.zlen (h:WC L n b words c):c.length=(rowB n b w).length:=by rw[h.len,Fl]
theorem WC.same (h:WC L n b words c)(aN:ncl (c.zip (rowB n b w))<=ncl c)  (hr:r<n)(hs:s<n)(e:c[r]?=c[s]?):b w r=b w s:=by
 obtain⟨u,hu⟩:=h.at hr
 obtain⟨v,hv⟩:=h.at hs
 have huv:u=v:=by rw[hu,hv]at e;exact Option.some.inj e
 have h1:=List.mem_of_getElem? (MU hu (De (b:=b) (w:=w) hr))
 have h2:=List.mem_of_getElem? (MU hv (De (b:=b) (w:=w) hs))
 exact Tq (by rw[VR (h.zlen)];exact aN) h1 h2 huv
theorem VS {c m:List Int}{p:Int×Int}(hp:p∈c.zip m):∃r:Nat,c[r]?=some p.1/\m[r]?=some p.2:=by
 obtain⟨r,hr⟩:=List.mem_iff_getElem?.mp hp
 have:=List.getElem?_zip_eq_some.mp (show (c.zip m)[r]?=some (p.1,p.2) from hr)
 exact⟨r,this.1,this.2⟩
theorem WC.told (h:WC L n b words c)(hs:∀r s,r<n->s<n->c[r]?=c[s]?->b w r=b w s):ncl (c.zip (rowB n b w))<=ncl c:=by
 have e:=Z6 (row:=c.zip (rowB n b w)) fun p hp q hq e=>by
  obtain⟨r,p1,p2⟩:=VS hp
  obtain⟨s,q1,q2⟩:=VS hq
  have hr:r<n:=by rw[<-h.len];exact (List.getElem?_eq_some_iff.mp p1).1
  have gc:s<n:=by rw[<-h.len];exact (List.getElem?_eq_some_iff.mp q1).1
  have:=hs r s hr gc (by rw[p1,q1,e])
  rw[De hr]at p2
  rw[De gc]at q2
  have e2:p.2=q.2:=by rw[<-Option.some.inj p2,<-Option.some.inj q2,this]
  exact Prod.ext e e2
 rw[<-e,VR h.zlen]
 exact Nat.le_refl _
theorem WC.more (h:WC L n b words c)(hn:1<=n)(hw:w∈words)(hx:0<=x/\x<L)(jC:ncl c<ncl (c.zip (rowB n b (x::w)))):WC L n b (words++[x::w]) (num (c.zip (rowB n b (x::w)))):=by
 have cy:x::w∉words:=fun hm=>by
  have:=h.told (w:=x::w) fun r s hr hs e=>((h.iff r s hr hs).mp e) _ hm
  lia
 have dW:(c.zip (rowB n b (x::w))).length=n:=by rw[List.length_zip,h.len,Fl];lia
 have aE:c.zip (rowB n b (x::w)) ≠ []:=fun z=>by rw[z]at dW;simp at dW;lia
 have iA:0<words.length:=by
  have:=(List.getElem?_eq_some_iff.mp h.w0).1
  exact this
 refine⟨by rw[List.getElem?_append_left iA];exact h.w0,fun v hv y hy=>?_,fun k v hk h0=>?_,?_,by rw[IK,dW],fun v hv=>?_,?_,fun r s hr hs=>?_,?_⟩
 ·rcases List.mem_append.mp hv with hv|hv
  ·exact h.ok v hv y hy
  ·rw[List.mem_singleton.mp hv]at hy
   rcases List.mem_cons.mp hy with rfl|hy
   ·exact hx
   ·exact h.ok w hw y hy
 ·by_cases mW:k<words.length
  ·rw[List.getElem?_append_left mW]at hk
   rw[List.take_append_of_le_length s!""]
   exact h.tl k v hk h0
  ·have:=(List.getElem?_eq_some_iff.mp hk).1
   rw[List.length_append,List.length_singleton]at this
   have e:k=words.length:=by lia
   subst e
   rw[List.getElem?_append_right (Nat.le_refl _),Nat.sub_self]at hk
   simp at hk
   subst hk
   rw[List.take_left']
   ·exact hw
   ·rfl
 ·exact List.nodup_append.mpr ⟨h.nd,by simp,fun a ha y hy z=>by simp at hy;subst z hy;exact cy ha⟩
 ·rw[IL];exact Ss hv
 ·rw[IL];exact NF aE
 ·obtain⟨u,hu⟩:=h.at hr
  obtain⟨v,hv⟩:=h.at hs
  rw[QV (MU hu (De hr)) (MU hv (De hs))]
  constructor
  ·intro e y hy
   rcases List.mem_append.mp hy with hy|hy
   ·exact ((h.iff r s hr hs).mp (by rw[hu,hv,(Prod.mk.inj e).1])) y hy
   ·rw[List.mem_singleton.mp hy];exact (Prod.mk.inj e).2
  ·intro e
   have e1:=(h.iff r s hr hs).mpr fun y hy=>e y (List.mem_append_left _ hy)
   rw[hu,hv]at e1
   have e2:=e (x::w) (List.mem_append_right _ (List.mem_singleton.mpr rfl))
   rw[Option.some.inj e1,e2]
 ·rw[List.length_append,List.length_singleton,IL]
  have:=h.le
  lia
noncomputable def Told (n:Nat)(b:List Int->Nat->Int)(c:List Int)(w:List Int):Prop:=∀r s,r<n->s<n->c[r]?=c[s]?->b w r=b w s
theorem WC.finer (h:WC L n b words c)(hz:c.length=n)  (ht:Told n b c u):Told n b (num (c.zip (rowB n b w))) u:=fun r s hr hs e=>by
 obtain⟨p,hp⟩:=h.at hr
 obtain⟨q,hq⟩:=h.at hs
 have:=(QV (MU hp (De (b:=b) (w:=w) hr)) (MU hq (De (b:=b) (w:=w) hs))).mp e
 exact ht r s hr hs (by rw[hp,hq,(Prod.mk.inj this).1])
theorem WC.mine (h:WC L n b words c)(hw:w∈words):Told n b c w:=fun r s hr hs e=>((h.iff r s hr hs).mp e) w hw
end
theorem VT {α β:Type}[DecidableEq α][DecidableEq β](f:α->β):∀(l:List α) (x:α),(∀y∈l,f y=f x->y=x)->(l.map f).idxOf (f x)=l.idxOf x
 |[],x,_=>rfl
 |a::l,x,h=>by
  rw[List.map_cons,List.idxOf_cons,List.idxOf_cons,VT f l x fun y hy=>h y (List.mem_cons_of_mem _ hy)]
  by_cases e:a=x
  ·subst e;simp
  ·have:¬ f a=f x:=fun z=>e (h a (List.mem_cons_self ..) z)
   rw[show (a==x)=false by simpa using e,show (f a==f x)=false by simpa using this]
theorem Z7  [DecidableEq α][DecidableEq β](f:α->β)  (h:∀x∈row,∀y∈row,f x=f y->x=y):num (row.map f)=num row:=by
 have e:Ay (row.map f)=(Ay row).map f:=by
  unfold Ay
  have:=Fj f row [] (fun x y hx hy e=>h x (hx.resolve_left (by simp)) y (hy.resolve_left (by simp)) e)
  simpa using this
 unfold num
 rw[List.map_map,e]
 refine List.map_congr_left fun x hx=>?_
 show (((Ay row).map f).idxOf (f x):Int)=_
 rw[VT f _ _ fun y hy e=>h y (A3.mp hy) x hx e]
theorem Xc {α:Type}[DecidableEq α]{l:List α}{x y:α}(hy:y∈l):(l++[x]).idxOf y=l.idxOf y:=by
 rw[List.idxOf_append,if_pos hy]
theorem QW {α:Type}[DecidableEq α]{l:List α}{x:α}(hx:x∉l):(l++[x]).idxOf x=l.length:=by
 rw[List.idxOf_append,if_neg hx];simp
noncomputable abbrev StC:=List (List Int)×List Int
noncomputable def Mh (n:Nat)(b:List Int->Nat->Int)(w:List Int)(st:StC)(x:Nat):StC:=if ncl st.2<ncl (st.2.zip (rowB n b ((x:Int)::w))) then (st.1++[(x:Int)::w],num (st.2.zip (rowB n b ((x:Int)::w)))) else st
noncomputable def Ib (n:Nat)(b:List Int->Nat->Int)(w:List Int)(L:Nat)(st:StC):StC:=(List.range L).foldl (Mh n b w) st
noncomputable def Ic (n:Nat)(b:List Int->Nat->Int)(L:Nat):Nat->Nat->StC->StC
 |0,_,st=>st
 |f+1,k,st=>if k<st.1.length then Ic n b L f (k+1) (Ib n b (st.1.getD k []) L st) else st
section
variable {n L:Nat} {b:List Int->Nat->Int} {w:List Int} {st:StC}
theorem KU  : Ib n b w (i+1) st=Mh n b w (Ib n b w i st) i:=by
 unfold Ib
 rw[List.range_succ,List.foldl_append];rfl
theorem MV  (h:st.1.length<=k):Ic n b L f k st=st:=by
 cases f with
 |zero=>rfl
 |succ f=>unfold Ic;rw[if_neg s!""]
theorem Px   (h:st.1[k]?=some v):Ic n b L (f+1) k st=Ic n b L f (k+1) (Ib n b v L st):=by
 have hk:=(List.getElem?_eq_some_iff.mp h).1
 rw[Ic,if_pos hk,List.getD_eq_getElem?_getD,h];rfl
structure WS (n L:Nat)(b:List Int->Nat->Int)(k i:Nat)(st:StC):Prop where
 wc:WC L n b st.1 st.2
 told:∀(j:Nat) (v:List Int),st.1[j]?=some v->∀x:Nat,x<L->(j<k\/(j=k/\x<i))->Told n b st.2 ((x:Int)::v)
theorem WS.start (hn:1<=n):WS n L b 0 0 ([[]],num (rowB n b [])):=⟨WC.start hn,fun j v hj x hx h=>by lia⟩
theorem WS.next  (h:WS n L b k L st):WS n L b (k+1) 0 st:=⟨h.wc,fun j v hj x hx hh=>h.told j v hj x hx s!""⟩
theorem WS.step  (hn:1<=n)(hw:st.1[k]?=some w)(hi:i<L)(h:WS n L b k i st):WS n L b k (i+1) (Mh n b w st i)/\(Mh n b w st i).1[k]?=some w:=by
 have hm:=List.mem_of_getElem? hw
 unfold Mh
 by_cases hc:ncl st.2<ncl (st.2.zip (rowB n b ((i:Int)::w)))
 ·rw[if_pos hc]
  have hW:=h.wc.more hn hm (show 0<=(i:Int)/\(i:Int)<L by lia) hc
  have hk:=(List.getElem?_eq_some_iff.mp hw).1
  refine⟨⟨hW,fun j v hj x hx hh=>?_⟩,by rw[List.getElem?_append_left hk];exact hw⟩
  by_cases e:j=k/\x=i
  ·obtain⟨rfl,rfl⟩:=e
   rw[List.getElem?_append_left hk,hw]at hj
   cases hj
   exact hW.mine (List.mem_append_right _ (List.mem_singleton.mpr rfl))
  ·have dU:j<st.1.length:=by lia
   rw[List.getElem?_append_left dU]at hj
   exact h.wc.finer h.wc.len (h.told j v hj x hx s!"")
 ·rw[if_neg hc]
  refine⟨⟨h.wc,fun j v hj x hx hh=>?_⟩,hw⟩
  by_cases e:j=k/\x=i
  ·obtain⟨rfl,rfl⟩:=e
   rw[hw]at hj
   cases hj
   exact fun r s hr hs er=>h.wc.same s!"" hr hs er
  ·exact h.told j v hj x hx s!""
theorem WS.few  (h:WS n L b k i st):st.1.length<=n:=by
 have h1:=h.wc.le
 have h2:=MT st.2
 rw[h.wc.len]at h2
 lia
noncomputable def wcOf (n L:Nat)(b:List Int->Nat->Int):StC:=Ic n b L 41 0 ([[]],num (rowB n b []))
structure Fin17 (n L:Nat)(b:List Int->Nat->Int)(st:StC):Prop where
 wc:WC L n b st.1 st.2
 told:∀v∈st.1,∀x:Nat,x<L->Told n b st.2 ((x:Int)::v)
theorem WS.fin  (h:WS n L b k 0 st)(hk:st.1.length<=k):Fin17 n L b st:=⟨h.wc,fun v hv x hx=>by
 obtain⟨j,hj⟩:=List.mem_iff_getElem?.mp hv
 have:=(List.getElem?_eq_some_iff.mp hj).1
 exact h.told j v hj x hx s!""⟩
end
end L2
namespace L2
open PySem PySem.W PySem.Spec PySem.Calls PyProof.Rows
theorem VU              (I:Inv X af σ H s)(e:H a=some (.dK kvs))(l:kvs.length<sizeLine)(ry:RelV (kV k) u)(rv:RelV v r)
  (h0:∀x,valV kvs k=some x->∀w' s',Inv X af σ H s'->RelV x w'->Q w' s') (h1:valV kvs k=none->∀s',Inv X af σ (upd H a (.dK (putK kvs k v))) s'->Q r s'):
  wpAny (model X.prog X.w) A (call (.builtin "dict.setdefault") [.ref a,u,r]) Q E s:=by
 obtain⟨z,hd,vs,aX,dd⟩:=WW I.hok e
 have hz:vs.length<=sizeLine:=by rw[<-aX.length];exact z
 refine call_meetsIn PySem.F.slot_dict_setdefault dd.typeIs PySem.F.entry_dict_setdefault (PySem.F.args_dict_setdefault_3 _ _ _) (kt_meets_setdefault (BM X.prog X.w) a (QD ry) hd r) ⟨vs,dd,hz,fun x hx=>?_,fun hn h' fN hs=>?_⟩
 ·have rk:=aX.val k
  rw[hx]at rk
  cases q:valV kvs k with
  |none=>rw[q]at rk;exact (rk:False).elim
  |some y=>rw[q]at rk;exact h0 y q _ _ (I.tok _) rk
 ·have rk:=aX.val k
  rw[hn]at rk
  cases q:valV kvs k with
  |some y=>rw[q]at rk;exact (rk:False).elim
  |none=>
   refine h1 q _ ?_
   have hl:(putK kvs k v).length<=sizeLine:=by have:=Fi kvs k v;lia
   have he:∃q,h'.get? a=some q:=let ⟨q,_,_,hq,_⟩:=fN;⟨q,hq⟩
   exact Np I (by rw[e];exact True.intro) hs he (U5 hl hd (aX.put k rv) fN)
noncomputable def Sv (td ty tx:TE):TE:=fun σ H Q=>td σ H fun x H1=>∃a,x=.ref a/\IsD H1 a/\ty σ H1 fun y H2=>tx σ H2 fun z H3=>∃n kvs,y=.int n/\H3 a=some (.dK kvs)/\kvs.length<sizeLine/\(∀v,valV kvs (Sum.inl n)=some v->Q v H3)/\(valV kvs (Sum.inl n)=none->Q z (upd H3 a (.dK (putK kvs (Sum.inl n) z))))
theorem PD     : Sv td ty tx σ H Q=td σ H fun x H1=>∃a,x=.ref a/\IsD H1 a/\ty σ H1 fun y H2=>tx σ H2 fun z H3=>∃n kvs,y=.int n/\H3 a=some (.dK kvs)/\kvs.length<sizeLine/\(∀v,valV kvs (Sum.inl n)=some v->Q v H3)/\(valV kvs (Sum.inl n)=none->Q z (upd H3 a (.dK (putK kvs (Sum.inl n) z)))):=rfl
theorem Tr     (ho:PE X o td)(he:PE X e ty)(hf:PE X f tx)(m:M2 X o "setdefault" aW e f aC):PE X (.Call (.Attribute o "setdefault" aW) [e,f] [] aC) (Sv td ty tx):=by
 intro af s σ H Q I h
 refine wpAny_Call_method m.base m.few m.line PySem.F.plainAttrs_dict PySem.F.slot_dict_setdefault PySem.F.type_dict_setdefault (thn (ho af s σ H _ I h) fun u s1 ⟨x,H1,I1,rx,a,ex,d,q1⟩=>?_)
 subst ex
 obtain rfl:u=Value.ref a:=rx
 obtain⟨t1,t2,_⟩:=Yo I1 d
 refine⟨t1,t2,?_⟩
 rw[m.trees]
 refine Calls.callWith_builtin rfl (Calls.evalArgs_plain (Calls.spliced_cons (thn (he af s1 σ H1 _ I1 q1) fun iv s2 ⟨y,H2,I2,ry,q2⟩ =>
  Calls.spliced_cons (thn (hf af s2 σ H2 _ I2 q2) fun fv s3 ⟨z,H3,I3,rz,n,kvs,ey,ea,l,q3,q4⟩=>Calls.spliced_nil ?_))))
 subst ey
 exact VU (k:=Sum.inl n) I3 ea l ry rz (fun v hv w' s4 I4 dO=>⟨v,H3,I4,dO,q3 v hv⟩) fun hn s4 I4=>⟨z,_,I4,rz,q4 hn⟩
end L2
namespace L2
open GW GB
theorem VW {L:Int}(hL:0<L){n i:Nat}{ae:List (List Int)}{r:Int}{w:List Int}:∀(rest:List Int) (x:Nat) (ents:List (Int×List Int)),((x+rest.length:Nat):Int)=L->(∀(k:Nat) (g:Int),rest[k]?=some g->g=Bm ae r ((x+k:Nat):Int)/\0<=g/\g<(n:Int))->Bfs L n ae ents i (AG L w*L+x+1)->Seen L ae ents r w x->ents[i]?=some (r,w) ->
  Bfs L n ae (EB w ents x rest) i (AG L w*L+L+1)/\Seen L ae (EB w ents x rest) r w L.toNat/\(EB w ents x rest)[i]?=some (r,w)
 |[],x,ents,hx,hg,bf,se,he=>by
  rw[IH]
  have e:(x:Int)=L:=by simpa using hx
  rw[e]at bf
  exact⟨bf,by rw[show L.toNat=x by lia];exact se,he⟩
 |g::rest,x,ents,hx,hg,bf,se,he=>by
  rw[Hq]
  obtain⟨g1,g2⟩:=hg 0 g rfl
  have bN:(x:Int)<L:=by rw[List.length_cons]at hx;lia
  obtain⟨m9,se'⟩:=bf.letter hL se (List.mem_of_getElem? he) bN g1 g2
  refine VW hL rest (x+1) _ (by rw[<-hx,List.length_cons];congr 1;lia) (fun k g' hk=>?_) m9 se' (Hr he)
  have:=hg (k+1) g' (by simpa using hk)
  rwa [show x+(k+1)=x+1+k by lia]at this
theorem VX {L:Int}{aa:List Int}{ae:List (List Int)}(wf:Wf L aa ae):∀(f:Nat) (ents:List (Int×List Int)) (i:Nat) (top:Int),Bfs L aa.length ae ents i top->(∀e,ents[i]?=some e->top<=AG L e.2*L+1)->aa.length<i+f->∃eY,Bfs L aa.length ae (bfs ae f ents i) (bfs ae f ents i).length eY
 |0,ents,i,top,bf,ht,hf=>absurd bf.il (by have:=bf.len;lia)
 |f+1,ents,i,top,bf,ht,hf=>by
  have hL:0<L:=by have:=wf.l1;lia
  cases he:ents[i]? with
  |none=>
   rw[Nw he]
   have:i=ents.length:=by have:=bf.il;have:=List.getElem?_eq_none_iff.mp he;lia
   exact⟨top,this ▸ bf⟩
  |some e=>
   obtain⟨r,w⟩:=e
   rw[Nx he]
   have hr:=bf.rng _ (List.mem_of_getElem? he)
   obtain⟨row,h1,h2,h3⟩:=wf.row hr.1 hr.2
   have km:ae.getD r.toNat []=row:=by rw[List.getD_eq_getElem?_getD,h1];rfl
   obtain⟨a,b,c⟩:=VW (w:=w) (r:=r) hL row 0 ents (by simpa using h3) (fun k g hk=>⟨by rw[Nat.zero_add];exact (BL h1 (by rw[Int.toNat_natCast];exact hk)).symm,(wf.rows row h2).2 g (List.mem_of_getElem? hk)⟩) (bf.up (by have h9:top<=AG L w*L+1:=ht _ he;push_cast;lia)) (fun y h0 h1=>absurd h1 (by push_cast;lia)) he
   obtain⟨m9,dn⟩:=Bfs.next hL (m:=L.toNat) (by rw[show ((L.toNat:Nat):Int)=L by lia];exact a) s!"" b c
   show ∃eY,Bfs L aa.length ae (bfs ae f (EB w ents 0 (ae.getD r.toNat [])) (i+1)) _ eY
   rw[km]
   exact VX wf f _ (i+1) _ m9 dn s!""
theorem Bfs.mk    (wf:Wf L aa ae):∃top,Bfs L aa.length ae (Ax ae) (Ax ae).length top:=by
 unfold Ax
 refine VX wf _ _ 0 1 (Bfs.start L wf.n1 ae) (fun e he=>?_) (by rw[wf.len];lia)
 simp at he;subst he;simp[AG,Dd]
theorem PH {n L:Nat}{b:List Int->Nat->Int}{st:StC}{k:Nat}{w:List Int}(hn:1<=n)(hw:st.1[k]?=some w)(h:WS n L b k 0 st):∀i,i<=L->WS n L b k i (Ib n b w i st)/\(Ib n b w i st).1[k]?=some w
 |0,_=>⟨h,hw⟩
 |i+1,hi=>by
  obtain⟨a,c⟩:=PH hn hw h i s!""
  rw[KU]
  exact a.step hn c s!""
theorem MW {n L:Nat}{b:List Int->Nat->Int}(hn:1<=n)(aP:n<=40):∀(f k:Nat) (st:StC),k+f=41->WS n L b k 0 st->Fin17 n L b (Ic n b L f k st)
 |0,k,st,hk,h=>h.fin (by have:=h.few;lia)
 |f+1,k,st,hk,h=>by
  cases hw:st.1[k]? with
  |none=>
   have:=List.getElem?_eq_none_iff.mp hw
   rw[MV this]
   exact h.fin this
  |some w=>
   rw[Px hw]
   exact MW hn aP f (k+1) _ s!"" (PH hn hw h L (Nat.le_refl _)).1.next
theorem Fin17.mk'   (hn:1<=n)(aP:n<=40):Fin17 n L b (wcOf n L b):=MW hn aP 41 0 _ rfl (WS.start hn)
noncomputable def bW (aa:List Int)(ae:List (List Int))(w:List Int)(r:Nat):Int:=aa.getD (B4 ae (r:Int) w).toNat 0
theorem YS   : rowB aa.length (bW aa ae) []=aa:=by
 refine List.ext_getElem? fun i=>?_
 by_cases hi:i<aa.length
 ·rw[De hi]
  unfold bW
  show some (aa.getD ((i:Int)).toNat 0)=_
  rw[Int.toNat_natCast,List.getD_eq_getElem?_getD,List.getElem?_eq_getElem hi];rfl
 ·rw[List.getElem?_eq_none (by rw[Fl];lia),List.getElem?_eq_none s!""]
theorem QX   (w:List Int)(x:Int)(r:Nat)(h:0<=Bm ae (r:Int) x):bW aa ae (x::w) r=bW aa ae w (Bm ae (r:Int) x).toNat:=by
 unfold bW
 rw[BP,Int.toNat_of_nonneg h]
noncomputable def cf (c:List Int)(r:Int):Int:=c.getD r.toNat 0
noncomputable def hm (c R:List Int)(r:Int):Int:=(((Ay (R.map (cf c))).idxOf (cf c r):Nat):Int)
noncomputable def Cq (c ai:List Int)(r:Int):List Int:=if cf c r∈ai.map (cf c) then ai else ai++[r]
noncomputable def FR (c R:List Int):List Int:=R.foldl (Cq c) []
theorem Ts (c ai:List Int)(r:Int):(Cq c ai r).map (cf c)=ins1 (ai.map (cf c)) (cf c r):=by
 unfold Cq ins1
 split
 ·rfl
 ·rw[List.map_append];rfl
theorem VY (c:List Int):∀(R ai:List Int),(R.foldl (Cq c) ai).map (cf c)=Cr (ai.map (cf c)) (R.map (cf c))
 |[],ai=>rfl
 |r::R,ai=>by
  rw[List.foldl_cons,VY c R,Ts];rfl
theorem KW (c R:List Int):(FR c R).map (cf c)=Ay (R.map (cf c)):=VY c R []
theorem VZ {c R:List Int}{i:Nat}{r:Int}(h:R[i]?=some r):FR c (R.take (i+1))=Cq c (FR c (R.take i)) r:=by
 unfold FR
 rw[List.take_add_one,h,Option.toList_some,List.foldl_append];rfl
theorem Z8 (c R:List Int)(r:Int):FR c (R++[r])=Cq c (FR c R) r:=by
 unfold FR
 rw[List.foldl_append];rfl
theorem V0 (c:List Int):∀(R ai:List Int) (r:Int),r∈R.foldl (Cq c) ai->r∈ai\/r∈R
 |[],ai,r,h=>.inl h
 |q::R,ai,r,h=>by
  rcases V0 c R _ r h with h|h
  ·unfold Cq at h
   split at h
   ·exact .inl h
   ·rcases List.mem_append.mp h with h|h
    ·exact .inl h
    ·exact .inr (by rw[List.mem_singleton.mp h];exact List.mem_cons_self ..)
  ·exact .inr (List.mem_cons_of_mem _ h)
theorem Ie   (h:r∈FR c R):r∈R:=(V0 c R [] r h).resolve_left (by simp)
theorem Sw (c R:List Int):(FR c R).length<=R.length:=by
 have h:=congrArg List.length (KW c R)
 have h2:=MT (R.map (cf c))
 unfold ncl at h2
 rw[List.length_map]at h h2
 lia
noncomputable def mkR (aa:List Int)(r:Int):Int:=aa.getD r.toNat 0
noncomputable def hrow (c R:List Int)(ae:List (List Int))(r:Int):List Int:=(ae.getD r.toNat []).map (hm c R)
theorem hm_F {c R:List Int}{j:Nat}{r:Int}(h:(FR c R)[j]?=some r):hm c R r=j:=by
 have h1:(Ay (R.map (cf c)))[j]?=some (cf c r):=by rw[<-KW,List.getElem?_map,h];rfl
 unfold hm
 obtain⟨hj,e⟩:=List.getElem?_eq_some_iff.mp h1
 rw[<-e,(BA _).idxOf_getElem _ hj]
theorem F_hm   (h:r∈R):∃(j:Nat) (q:Int),j<(FR c R).length/\hm c R r=j/\(FR c R)[j]?=some q/\cf c q=cf c r:=by
 have bu:cf c r∈Ay (R.map (cf c)):=A3.mpr (List.mem_map_of_mem h)
 have hi:=List.idxOf_lt_length_of_mem bu
 have hl:(FR c R).length=(Ay (R.map (cf c))).length:=by rw[<-KW,List.length_map]
 refine⟨(Ay (R.map (cf c))).idxOf (cf c r),(FR c R)[(Ay (R.map (cf c))).idxOf (cf c r)]'s!"",by lia,rfl,by simp[hl,hi],?_⟩
 have e:((FR c R).map (cf c))[(Ay (R.map (cf c))).idxOf (cf c r)]?=some (cf c r):=by rw[KW,List.getElem?_eq_getElem hi,List.getElem_idxOf]
 rw[List.getElem?_map,List.getElem?_eq_getElem s!""]at e
 exact Option.some.inj e
theorem hm_congr   (h:cf c r=cf c s):hm c R r=hm c R s:=by unfold hm;rw[h]
theorem PJ {c:List Int}(p:Int->Int):∀Q:List Int,Q.reverse.Pairwise (fun a b=>p a<p b)->(FR c Q.reverse).Pairwise (fun a b=>p a<p b)/\∀r∈Q.reverse,∃f∈FR c Q.reverse,cf c f=cf c r/\p f<=p r
 |[],_=>⟨List.Pairwise.nil,fun r hr=>by simp at hr⟩
 |q::Q,h=>by
  rw[List.reverse_cons]at h ⊢
  obtain⟨h1,_,h3⟩:=List.pairwise_append.mp h
  obtain⟨i1,i2⟩:=PJ p Q h1
  rw[Z8]
  unfold Cq
  by_cases hc:cf c q∈(FR c Q.reverse).map (cf c)
  ·rw[if_pos hc]
   refine⟨i1,fun r hr=>?_⟩
   rcases List.mem_append.mp hr with hr|hr
   ·exact i2 r hr
   ·rw[List.mem_singleton.mp hr]
    obtain⟨f,hf,e⟩:=List.mem_map.mp hc
    exact⟨f,hf,e,Int.le_of_lt (h3 f (Ie hf) q (List.mem_singleton.mpr rfl))⟩
  ·rw[if_neg hc]
   refine⟨List.pairwise_append.mpr ⟨i1,List.pairwise_singleton _ _,fun a ha b hb=>?_⟩,fun r hr=>?_⟩
   ·exact h3 a (Ie ha) b hb
   ·rcases List.mem_append.mp hr with hr|hr
    ·obtain⟨f,hf,e⟩:=i2 r hr
     exact⟨f,List.mem_append_left _ hf,e⟩
    ·exact⟨r,List.mem_append_right _ hr,rfl,Int.le_refl _⟩
theorem Xd  (p:Int->Int)(h:R.Pairwise (fun a b=>p a<p b)):(FR c R).Pairwise (fun a b=>p a<p b)/\∀r∈R,∃f∈FR c R,cf c f=cf c r/\p f<=p r:=by
 have:=PJ (c:=c) p R.reverse (by rw[List.reverse_reverse];exact h)
 rwa [List.reverse_reverse]at this
section
variable {L:Nat} {aa:List Int} {ae:List (List Int)}
theorem Tt {c:List Int}{n:Nat}(hc:c.length=n){r:Int}(h0:0<=r)(h1:r<(n:Int)):c[r.toNat]?=some (cf c r):=by
 unfold cf
 rw[List.getD_eq_getElem?_getD]
 simp[show r.toNat<c.length by lia]
theorem Wf.stp (wf:Wf L aa ae){r x:Int}(h0:0<=r)(h1:r<aa.length)(x0:0<=x)(x1:x<L):0<=Bm ae r x/\Bm ae r x<aa.length:=by
 obtain⟨_,g,_,_,e,a,b⟩:=wf.step h0 h1 x0 x1
 rw[e];exact⟨a,b⟩
theorem Kq (wf:Wf L aa ae){st:StC}(fin:Fin17 aa.length L (bW aa ae) st){r s:Int}(r0:0<=r)(r1:r<aa.length)(s0:0<=s)(s1:s<aa.length)(e:cf st.2 r=cf st.2 s):
  mkR aa r=mkR aa s/\∀x:Nat,x<L->cf st.2 (Bm ae r x)=cf st.2 (Bm ae s x):=by
 have ec:st.2[r.toNat]?=st.2[s.toNat]?:=by rw[Tt fin.wc.len r0 r1,Tt fin.wc.len s0 s1,e]
 have hr:r.toNat<aa.length:=by lia
 have hs:s.toNat<aa.length:=by lia
 have all:=(fin.wc.iff _ _ hr hs).mp ec
 have eR:((r.toNat:Nat):Int)=r:=by lia
 have eS:((s.toNat:Nat):Int)=s:=by lia
 refine⟨?_,fun x hx=>?_⟩
 ·have:=all [] (List.mem_of_getElem? fin.wc.w0)
  unfold bW at this
  rw[eR,eS]at this
  exact this
 ·obtain⟨a0,a1⟩:=Wf.stp wf r0 r1 (show (0:Int)<=x by lia) s!""
  obtain⟨b0,b1⟩:=Wf.stp wf s0 s1 (show (0:Int)<=x by lia) s!""
  have:=(fin.wc.iff (Bm ae r x).toNat (Bm ae s x).toNat s!"" s!"").mpr fun w hw=>by
   have:=fin.told w hw x hx r.toNat s.toNat hr hs ec
   rw[QX _ _ _ (by rw[eR];exact a0),QX _ _ _ (by rw[eS];exact b0),eR,eS]at this
   exact this
  rw[Tt fin.wc.len a0 a1,Tt fin.wc.len b0 b1]at this
  exact Option.some.inj this
theorem V1 (wf:Wf L aa ae){st:StC}(fin:Fin17 aa.length L (bW aa ae) st):∀(w:List Int) {r s:Int},isW L w=true->0<=r->r<aa.length->0<=s->s<aa.length->cf st.2 r=cf st.2 s->mkR aa (B4 ae r w)=mkR aa (B4 ae s w)
 |[],r,s,_,r0,r1,s0,s1,e=>(Kq wf fin r0 r1 s0 s1 e).1
 |x::w,r,s,hw,r0,r1,s0,s1,e=>by
  obtain⟨hx,hw⟩:=NA.mp hw
  obtain⟨a0,a1⟩:=Wf.stp wf r0 r1 hx.1 hx.2
  obtain⟨b0,b1⟩:=Wf.stp wf s0 s1 hx.1 hx.2
  rw[BP,BP]
  refine V1 wf fin w hw a0 a1 b0 b1 ?_
  have:=(Kq wf fin r0 r1 s0 s1 e).2 x.toNat s!""
  rwa [show ((x.toNat:Nat):Int)=x by lia]at this
theorem MX (wf:Wf L aa ae){st:StC}(fin:Fin17 aa.length L (bW aa ae) st){r s:Int}(r0:0<=r)(r1:r<aa.length)(s0:0<=s)(s1:s<aa.length)(h:∀w,isW L w=true->mkR aa (B4 ae r w)=mkR aa (B4 ae s w)):cf st.2 r=cf st.2 s:=by
 have eR:((r.toNat:Nat):Int)=r:=by lia
 have eS:((s.toNat:Nat):Int)=s:=by lia
 have:=(fin.wc.iff r.toNat s.toNat s!"" s!"").mpr fun w hw=>by
  have:=h w (AU.mpr (fin.wc.ok w hw))
  unfold bW
  rw[eR,eS]
  exact this
 rw[Tt fin.wc.len r0 r1,Tt fin.wc.len s0 s1]at this
 exact Option.some.inj this
end
noncomputable def cOf (L:Nat)(aa:List Int)(ae:List (List Int)):List Int:=(wcOf aa.length L (bW aa ae)).2
noncomputable def rOf (ae:List (List Int)):List Int:=(Ax ae).map (·.1)
noncomputable def sF (L:Nat)(aa:List Int)(ae:List (List Int)):List Int:=FR (cOf L aa ae) (rOf ae)
noncomputable def sM (L:Nat)(aa:List Int)(ae:List (List Int)):List Int:=(sF L aa ae).map (mkR aa)
noncomputable def sW (L:Nat)(aa:List Int)(ae:List (List Int)):List (List Int):=(sF L aa ae).map (hrow (cOf L aa ae) (rOf ae) ae)
noncomputable def hO (L:Nat)(aa:List Int)(ae:List (List Int))(r:Int):Int:=hm (cOf L aa ae) (rOf ae) r
section
variable {L:Nat} {aa:List Int} {ae:List (List Int)}
theorem finO (wf:Wf L aa ae):Fin17 aa.length L (bW aa ae) (wcOf aa.length L (bW aa ae)):=Fin17.mk' wf.n1 wf.n40
theorem EY (wf:Wf L aa ae)  (h:r∈rOf ae):0<=r/\r<aa.length:=by
 obtain⟨top,bf⟩:=Bfs.mk wf
 obtain⟨e,he,rfl⟩:=List.mem_map.mp h
 exact bf.rng e he
theorem IM (wf:Wf L aa ae){r x:Int}(h:r∈rOf ae)(x0:0<=x)(x1:x<L):Bm ae r x∈rOf ae:=by
 obtain⟨top,bf⟩:=Bfs.mk wf
 obtain⟨e,he,rfl⟩:=List.mem_map.mp h
 obtain⟨j,hj⟩:=List.mem_iff_getElem?.mp he
 obtain⟨e',h1,h2,_⟩:=bf.don j (List.getElem?_eq_some_iff.mp hj).1 e hj x x0 x1
 rw[<-h2]
 exact List.mem_map_of_mem h1
theorem V2 (wf:Wf L aa ae):(rOf ae)[0]?=some 0:=by
 obtain⟨top,bf⟩:=Bfs.mk wf
 unfold rOf
 rw[List.getElem?_map,bf.hd];rfl
theorem V3 (wf:Wf L aa ae):(rOf ae).length<=aa.length:=by
 obtain⟨top,bf⟩:=Bfs.mk wf
 unfold rOf
 rw[List.length_map];exact bf.len
theorem NG (wf:Wf L aa ae):∀(w:List Int) {r:Int},r∈rOf ae->isW L w=true->B4 ae r w∈rOf ae
 |[],r,h,_=>h
 |x::w,r,h,hw=>by
  obtain⟨hx,hw⟩:=NA.mp hw
  rw[BP]
  exact NG wf w (IM wf h hx.1 hx.2) hw
theorem Jy (wf:Wf L aa ae){j:Nat}{r:Int}(h:(sF L aa ae)[j]?=some r):r∈rOf ae/\0<=r/\r<aa.length/\hO L aa ae r=j:=by
 have h1:=Ie (List.mem_of_getElem? h)
 have:=EY wf h1
 exact⟨h1,this.1,this.2,hm_F h⟩
theorem YT (wf:Wf L aa ae):(sF L aa ae).length<=aa.length:=Nat.le_trans (Sw _ _) (V3 wf)
theorem Z9 (wf:Wf L aa ae)  (h:r∈rOf ae):∃(j:Nat) (q:Int),j<(sF L aa ae).length/\hO L aa ae r=j/\(sF L aa ae)[j]?=some q/\cf (cOf L aa ae) q=cf (cOf L aa ae) r:=F_hm h
theorem BQ_ (wf:Wf L aa ae)  (h:r∈rOf ae):0<=hO L aa ae r/\hO L aa ae r<(sF L aa ae).length:=by
 obtain⟨j,q,h1,h2,_⟩:=Z9 wf h
 lia
theorem KY (wf:Wf L aa ae):(0:Int)∈rOf ae:=List.mem_of_getElem? (V2 wf)
theorem V4 (wf:Wf L aa ae):(sF L aa ae)[0]?=some 0:=by
 have h:=V2 wf
 unfold sF
 cases hR:rOf ae with
 |nil=>rw[hR]at h;cases h
 |cons a R=>
  rw[hR]at h
  cases h
  unfold FR
  rw[List.foldl_cons]
  have e:Cq (cOf L aa ae) [] 0=[0]:=by unfold Cq;simp
  rw[e]
  have:∀(R ai:List Int),ai[0]?=some 0->(R.foldl (Cq (cOf L aa ae)) ai)[0]?=some 0:=fun R=>by
   induction R with
   |nil=>intro ai h;exact h
   |cons r R ih=>
    intro ai h
    refine ih _ ?_
    unfold Cq
    split
    ·exact h
    ·rw[List.getElem?_append_left (List.getElem?_eq_some_iff.mp h).1];exact h
  exact this R [0] rfl
theorem QY (wf:Wf L aa ae):hO L aa ae 0=0:=by
 have:=(Jy wf (V4 wf)).2.2.2
 simpa using this
theorem CI_ {j:Nat}{r:Int}(h:(sF L aa ae)[j]?=some r):(sM L aa ae)[j]?=some (mkR aa r):=by
 unfold sM;rw[List.getElem?_map,h];rfl
theorem BR_ {j:Nat}{r:Int}(h:(sF L aa ae)[j]?=some r):(sW L aa ae)[j]?=some (hrow (cOf L aa ae) (rOf ae) ae r):=by
 unfold sW;rw[List.getElem?_map,h];rfl
theorem Jz:(sM L aa ae).length=(sF L aa ae).length:=by unfold sM;rw[List.length_map]
theorem YU:(sW L aa ae).length=(sF L aa ae).length:=by unfold sW;rw[List.length_map]
theorem BS_    (h:ms[r.toNat]?=some m):mkR ms r=m:=by unfold mkR;rw[List.getD_eq_getElem?_getD,h];rfl
theorem Sx   (h:r.toNat<ms.length):ms[r.toNat]?=some (mkR ms r):=by unfold mkR;rw[List.getD_eq_getElem?_getD];simp[h]
theorem QZ (wf:Wf L aa ae)  (h:r∈rOf ae):mkR (sM L aa ae) (hO L aa ae r)=mkR aa r:=by
 obtain⟨j,q,h1,h2,h3,h4⟩:=Z9 wf h
 have hq:=Jy wf h3
 have hr:=EY wf h
 rw[h2]
 rw[BS_ (show (sM L aa ae)[((j:Nat):Int).toNat]?=some (mkR aa q) by rw[Int.toNat_natCast];exact CI_ h3)]
 exact (Kq wf (finO wf) hq.2.1 hq.2.2.1 hr.1 hr.2 h4).1
theorem BT_ (wf:Wf L aa ae)  (h:r∈rOf ae):(sW L aa ae)[(hO L aa ae r).toNat]?=some ((ae.getD r.toNat []).map (hO L aa ae)):=by
 obtain⟨j,q,h1,h2,h3,h4⟩:=Z9 wf h
 have hq:=Jy wf h3
 have hr:=EY wf h
 rw[h2,Int.toNat_natCast,BR_ h3]
 congr 1
 unfold hrow
 obtain⟨row,a1,a2,a3⟩:=wf.row hq.2.1 hq.2.2.1
 obtain⟨dX,b1,b2,b3⟩:=wf.row hr.1 hr.2
 have e1:ae.getD q.toNat []=row:=by rw[List.getD_eq_getElem?_getD,a1];rfl
 have e2:ae.getD r.toNat []=dX:=by rw[List.getD_eq_getElem?_getD,b1];rfl
 rw[e1,e2]
 refine List.ext_getElem? fun x=>?_
 by_cases hx:x<L
 ·have iB:x<row.length:=by lia
  have hxr':x<dX.length:=by lia
  rw[List.getElem?_map,List.getElem?_map,List.getElem?_eq_getElem iB,List.getElem?_eq_getElem hxr']
  show some (hm _ _ row[x])=some (hm _ _ dX[x])
  have c1:Bm ae q (x:Nat)=row[x]:=BL a1 (by rw[Int.toNat_natCast];simp[iB])
  have c2:Bm ae r (x:Nat)=dX[x]:=BL b1 (by rw[Int.toNat_natCast];simp[hxr'])
  have:=(Kq wf (finO wf) hq.2.1 hq.2.2.1 hr.1 hr.2 h4).2 x hx
  rw[c1,c2]at this
  exact congrArg some (hm_congr this)
 ·rw[List.getElem?_eq_none (by rw[List.length_map];lia),List.getElem?_eq_none (by rw[List.length_map];lia)]
theorem Aa_ (wf:Wf L aa ae){r x:Int}(h:r∈rOf ae)(x0:0<=x)(x1:x<L):Bm (sW L aa ae) (hO L aa ae r) x=hO L aa ae (Bm ae r x):=by
 have hr:=EY wf h
 obtain⟨row,b1,b2,b3⟩:=wf.row hr.1 hr.2
 have e2:ae.getD r.toNat []=row:=by rw[List.getD_eq_getElem?_getD,b1];rfl
 have h1:=BT_ wf h
 rw[e2]at h1
 have iB:x.toNat<row.length:=by lia
 rw[BL b1 (show row[x.toNat]?=some row[x.toNat] by simp[iB])]
 exact BL h1 (by rw[List.getElem?_map,List.getElem?_eq_getElem iB];rfl)
theorem IP (wf:Wf L aa ae):∀(w:List Int) {r:Int},r∈rOf ae->isW L w=true->B4 (sW L aa ae) (hO L aa ae r) w=hO L aa ae (B4 ae r w)
 |[],r,h,_=>rfl
 |x::w,r,h,hw=>by
  obtain⟨hx,hw⟩:=NA.mp hw
  rw[BP,BP,Aa_ wf h hx.1 hx.2]
  exact IP wf w (IM wf h hx.1 hx.2) hw
theorem sWf (wf:Wf L aa ae):Wf L (sM L aa ae) (sW L aa ae):=by
 have hz:=V4 wf
 refine⟨wf.l1,wf.l6,?_,?_,by rw[Jz,YU],fun row hrow'=>?_,fun m lF=>?_⟩
 ·rw[Jz];have:=(List.getElem?_eq_some_iff.mp hz).1;lia
 ·rw[Jz];have:=YT wf;have:=wf.n40;lia
 ·obtain⟨j,hj⟩:=List.mem_iff_getElem?.mp hrow'
  have dU:=(List.getElem?_eq_some_iff.mp hj).1
  rw[YU]at dU
  have hq:=Jy wf (show (sF L aa ae)[j]?=some (sF L aa ae)[j] by simp[dU])
  rw[BR_ (show (sF L aa ae)[j]?=some (sF L aa ae)[j] by simp[dU])]at hj
  have hj:=Option.some.inj hj
  obtain⟨dX,b1,b2,b3⟩:=wf.row hq.2.1 hq.2.2.1
  have e2:ae.getD ((sF L aa ae)[j]).toNat []=dX:=by rw[List.getD_eq_getElem?_getD,b1];rfl
  unfold hrow at hj
  rw[e2]at hj
  subst hj
  refine⟨by rw[List.length_map];exact b3,fun x hx=>?_⟩
  obtain⟨g,hg,rfl⟩:=List.mem_map.mp hx
  rw[Jz]
  refine BQ_ wf ?_
  obtain⟨y,hy⟩:=List.mem_iff_getElem?.mp hg
  have fe:=(List.getElem?_eq_some_iff.mp hy).1
  have:=IM wf hq.1 (x:=(y:Nat)) s!"" s!""
  rwa [BL b1 (by rw[Int.toNat_natCast];exact hy)]at this
 ·unfold sM at lF
  obtain⟨r,hr,rfl⟩:=List.mem_map.mp lF
  have:=EY wf (Ie hr)
  refine wf.mks _ (List.mem_of_getElem? (Sx (ms:=aa) (r:=r) s!""))
structure Can (L:Nat)(aa:List Int)(ae:List (List Int)):Prop where
 wf:Wf L aa ae
 lw:∃u:Nat->List Int,(∀j,j<aa.length->isW L (u j)=true/\AL ae (u j)=(j:Int))/\(∀v,isW L v=true->∀j:Nat,AL ae v=(j:Int)->AG L (u j)<=AG L v)/\(∀j k,j<k->k<aa.length->AG L (u j)<AG L (u k))
 red:∀i j:Nat,i<aa.length->j<aa.length->(∀w,isW L w=true->mkR aa (B4 ae i w)=mkR aa (B4 ae j w))->i=j
noncomputable def wi (ae:List (List Int))(r:Int):List Int:=(((Ax ae).find? fun e=>decide (e.1=r)).map (·.2)).getD []
theorem Xe {L:Int}{n:Nat}{top:Int}(bf:Bfs L n ae (Ax ae) (Ax ae).length top){e:Int×List Int}(he:e∈Ax ae):wi ae e.1=e.2:=by
 unfold wi
 cases hq:(Ax ae).find? (fun e'=>decide (e'.1=e.1)) with
 |none=>
  rw[List.find?_eq_none]at hq
  have:=hq _ he
  simp at this
 |some e' =>
  have hk:=List.find?_some hq
  simp only[decide_eq_true_eq]at hk
  obtain⟨i,hi,ei⟩:=List.getElem_of_mem (List.mem_of_find?_eq_some hq)
  obtain⟨j,hj,ej⟩:=List.getElem_of_mem he
  have ij:i=j:=(List.getElem_inj (h₀:=by simpa using hi) (h₁:=by simpa using hj) bf.nod).mp (by simp[ei,ej,hk])
  subst ij
  rw[<-ei,ej];rfl
theorem YV {L:Int}{n:Nat}{top:Int}(bf:Bfs L n ae (Ax ae) (Ax ae).length top):(rOf ae).Pairwise (fun a b=>AG L (wi ae a)<AG L (wi ae b)):=by
 unfold rOf
 rw[List.pairwise_map,List.pairwise_iff_getElem]
 intro i j hi hj aU
 rw[Xe bf (List.getElem_mem hi),Xe bf (List.getElem_mem hj)]
 exact bf.inc i j _ _ aU (by simp[hi]) (by simp[hj])
theorem BU_ {α:Type}{R:α->α->Prop}{l:List α}(h:l.Pairwise R){i j:Nat}{a b:α}(aU:i<j)(ha:l[i]?=some a)(hb:l[j]?=some b):R a b:=by
 obtain⟨h1,rfl⟩:=List.getElem?_eq_some_iff.mp ha
 obtain⟨h2,rfl⟩:=List.getElem?_eq_some_iff.mp hb
 exact List.pairwise_iff_getElem.mp h i j h1 h2 aU
theorem BV_ (wf:Wf L aa ae)  (h:r∈rOf ae):isW L (wi ae r)=true/\AL ae (wi ae r)=r:=by
 obtain⟨top,bf⟩:=Bfs.mk wf
 obtain⟨e,he,rfl⟩:=List.mem_map.mp h
 rw[Xe bf he]
 exact bf.wd e he
theorem NH (wf:Wf L aa ae)  (hv:isW L v=true):AL ae v∈rOf ae/\AG L (wi ae (AL ae v))<=AG L v:=by
 obtain⟨top,bf⟩:=Bfs.mk wf
 obtain⟨w',h1,h2⟩:=bf.least hv v.length (Nat.le_refl _)
 rw[List.take_length]at h1 h2
 have:=Xe bf h1
 exact⟨List.mem_map.mpr ⟨_,h1,rfl⟩,by rw[show wi ae (AL ae v)=w' from this];exact h2⟩
theorem sCan (wf:Wf L aa ae):Can L (sM L aa ae) (sW L aa ae):=by
 obtain⟨top,bf⟩:=Bfs.mk wf
 obtain⟨f1,f2⟩:=Xd (c:=cOf L aa ae) (fun r=>AG L (wi ae r)) (YV bf)
 have kn:∀{j:Nat},j<(sF L aa ae).length->(sF L aa ae)[j]?=some ((sF L aa ae).getD j 0):=fun {j} hj=>by rw[List.getD_eq_getElem?_getD];simp[hj]
 refine⟨sWf wf,⟨fun j=>wi ae ((sF L aa ae).getD j 0),fun j hj=>?_,fun v hv j hj=>?_,fun j k gJ hk=>?_⟩,fun i j hi hj aL=>?_⟩
 ·rw[Jz]at hj
  have hq:=Jy wf (kn hj)
  have:=BV_ wf hq.1
  refine⟨this.1,?_⟩
  have h2:=IP wf (wi ae ((sF L aa ae).getD j 0)) (KY wf) this.1
  rw[QY wf,BO,BO,this.2,hq.2.2.2]at h2
  exact h2
 ·obtain⟨h1,h2⟩:=NH wf hv
  have h3:=IP wf v (KY wf) hv
  rw[QY wf,BO,BO,hj]at h3
  obtain⟨f,hf,hc,hp⟩:=f2 _ h1
  obtain⟨i,hi⟩:=List.mem_iff_getElem?.mp hf
  have hi':=(Jy wf hi).2.2.2
  have e:hO L aa ae f=hO L aa ae (AL ae v):=hm_congr hc
  rw[hi',<-h3]at e
  have e':i=j:=by lia
  subst e'
  show AG L (wi ae ((sF L aa ae).getD i 0))<=_
  rw[List.getD_eq_getElem?_getD,show (sF L aa ae)[i]?=some f from hi]
  exact Int.le_trans hp h2
 ·rw[Jz]at hk
  exact BU_ f1 gJ (kn s!"") (kn hk)
 ·rw[Jz]at hi hj
  have qi:=Jy wf (kn hi)
  have qj:=Jy wf (kn hj)
  have:=MX wf (finO wf) qi.2.1 qi.2.2.1 qj.2.1 qj.2.2.1 fun w hw=>by
   have:=aL w hw
   rw[<-qi.2.2.2,<-qj.2.2.2,IP wf w qi.1 hw,IP wf w qj.1 hw,QZ wf (NG wf w qi.1 hw),QZ wf (NG wf w qj.1 hw)]at this
   exact this
  have e:hO L aa ae ((sF L aa ae).getD i 0)=hO L aa ae ((sF L aa ae).getD j 0):=hm_congr this
  rw[qi.2.2.2,qj.2.2.2]at e
  lia
theorem Ab_ (wf:Wf L aa ae)  (hv:isW L v=true):mkR (sM L aa ae) (AL (sW L aa ae) v)=mkR aa (AL ae v):=by
 have h:=IP wf v (KY wf) hv
 rw[QY wf,BO,BO]at h
 rw[h,QZ wf]
 have:=NG wf v (KY wf) hv
 rwa [BO]at this
end
theorem PL (ae:List (List Int))(r:Int)(u v:List Int):B4 ae r (u++v)=B4 ae (B4 ae r u) v:=by unfold B4;rw[List.foldl_append]
theorem Wf.walk' {L:Nat}{aa:List Int}{ae:List (List Int)}(wf:Wf L aa ae){w:List Int}(hw:isW L w=true):0<=AL ae w/\AL ae w<aa.length:=by
 have:=wf.walk hw w.length
 rwa [List.take_length]at this
section
variable {L:Nat} {m1 m2:List Int} {w1 w2:List (List Int)}
theorem Can.follow (c1:Can L m1 w1)(c2:Can L m2 w2)(h:∀v,isW L v=true->mkR m1 (AL w1 v)=mkR m2 (AL w2 v))  (ha:isW L a=true)(hb:isW L b=true)(e:AL w1 a=AL w1 b):AL w2 a=AL w2 b:=by
 have a2:=Wf.walk' c2.wf ha
 have b2:=Wf.walk' c2.wf hb
 have:=c2.red (AL w2 a).toNat (AL w2 b).toNat s!"" s!"" fun w hw=>by
  rw[Int.toNat_of_nonneg a2.1,Int.toNat_of_nonneg b2.1]
  have h1:=h (a++w) (NB ha hw)
  have h2:=h (b++w) (NB hb hw)
  rw[<-BO,<-BO,PL,PL,BO,BO]at h1 h2
  rw[<-h1,<-h2,e]
 lia
theorem Can.up (c1:Can L m1 w1)(c2:Can L m2 w2)(h:∀v,isW L v=true->mkR m1 (AL w1 v)=mkR m2 (AL w2 v)){u1 u2:Nat->List Int}
  (p1:∀j,j<m1.length->isW L (u1 j)=true/\AL w1 (u1 j)=(j:Int)) (q1:∀v,isW L v=true->∀j:Nat,AL w1 v=(j:Int)->AG L (u1 j)<=AG L v) (s1:∀j k,j<k->k<m1.length->AG L (u1 j)<AG L (u1 k))
  (p2:∀j,j<m2.length->isW L (u2 j)=true/\AL w2 (u2 j)=(j:Int)) (q2:∀v,isW L v=true->∀j:Nat,AL w2 v=(j:Int)->AG L (u2 j)<=AG L v) (s2:∀j k,j<k->k<m2.length->AG L (u2 j)<AG L (u2 k)):
  ∀j,j<m1.length->∃k:Nat,k<m2.length/\AL w2 (u1 j)=(k:Int)/\j<=k/\AL w1 (u2 k)=(j:Int)/\AG L (u2 k)=AG L (u1 j):=by
 have key:∀j,j<m1.length->∃k:Nat,k<m2.length/\AL w2 (u1 j)=(k:Int)/\AL w1 (u2 k)=(j:Int)/\AG L (u2 k)=AG L (u1 j):=fun j hj=>by
  obtain⟨a,b⟩:=p1 j hj
  have a2:=Wf.walk' c2.wf a
  refine⟨(AL w2 (u1 j)).toNat,by lia,by lia,?_⟩
  obtain⟨c,d⟩:=p2 (AL w2 (u1 j)).toNat s!""
  have e:AL w1 (u2 (AL w2 (u1 j)).toNat)=AL w1 (u1 j):=c2.follow c1 (fun v hv=>(h v hv).symm) c a (by rw[d];lia)
  rw[b]at e
  have g1:=q1 _ c j e
  have g2:=q2 (u1 j) a (AL w2 (u1 j)).toNat s!""
  exact⟨e,by lia⟩
 intro j
 induction j with
 |zero=>
  intro hj
  obtain⟨k,a,b,c,d⟩:=key 0 hj
  exact⟨k,a,b,Nat.zero_le _,c,d⟩
 |succ j ih=>
  intro hj
  obtain⟨k,a,b,c,d,e⟩:=ih s!""
  obtain⟨k',a',b',c',d'⟩:=key (j+1) hj
  have:=s1 j (j+1) (Nat.lt_succ_self _) hj
  refine⟨k',a',b',?_,c',d'⟩
  by_cases hk:k<k'
  ·lia
  ·exfalso
   rcases Nat.lt_or_eq_of_le (Nat.le_of_not_lt hk) with ar|heq
   ·have:=s2 k' k ar a
    lia
   ·subst heq;lia
theorem Can.eq (c1:Can L m1 w1)(c2:Can L m2 w2)(h:∀v,isW L v=true->mkR m1 (AL w1 v)=mkR m2 (AL w2 v)):m1=m2/\w1=w2:=by
 obtain⟨u1,p1,q1,s1⟩:=c1.lw
 obtain⟨u2,p2,q2,s2⟩:=c2.lw
 have h':∀v,isW L v=true->mkR m2 (AL w2 v)=mkR m1 (AL w1 v):=fun v hv=>(h v hv).symm
 have U:=c1.up c2 h p1 q1 s1 p2 q2 s2
 have D:=c2.up c1 h' p2 q2 s2 p1 q1 s1
 have n1:=c1.wf.n1
 have n2:=c2.wf.n1
 have ak:m1.length=m2.length:=by
  obtain⟨k,a,_,b,_⟩:=U (m1.length-1) s!""
  obtain⟨k',a',_,b',_⟩:=D (m2.length-1) s!""
  lia
 have id:∀j,j<m1.length->AL w2 (u1 j)=(j:Int):=fun j hj=>by
  obtain⟨k,a,b,c,d,_⟩:=U j hj
  obtain⟨k',a',b',c',_⟩:=D k a
  rw[d]at b'
  have:k=j:=by lia
  rw[b,this]
 have all:∀a,isW L a=true->AL w1 a=AL w2 a:=fun a ha=>by
  have iC:=Wf.walk' c1.wf ha
  obtain⟨c,d⟩:=p1 (AL w1 a).toNat s!""
  have:=c1.follow c2 h ha c (by rw[d];lia)
  rw[this,id _ s!""]
  lia
 constructor
 ·refine List.ext_getElem? fun j=>?_
  by_cases hj:j<m1.length
  ·obtain⟨a,b⟩:=p1 j hj
   have:=h _ a
   rw[b,id j hj]at this
   have e1:=Sx (ms:=m1) (r:=(j:Int)) s!""
   have e2:=Sx (ms:=m2) (r:=(j:Int)) s!""
   rw[Int.toNat_natCast]at e1 e2
   rw[e1,e2,this]
  ·rw[List.getElem?_eq_none s!"",List.getElem?_eq_none s!""]
 ·refine List.ext_getElem? fun j=>?_
  by_cases hj:j<m1.length
  ·obtain⟨a,b⟩:=p1 j hj
   obtain⟨r1,a1,a2,a3⟩:=c1.wf.row (r:=(j:Int)) s!"" s!""
   obtain⟨r2,b1,b2,b3⟩:=c2.wf.row (r:=(j:Int)) s!"" s!""
   have A1:=a1
   have B1:=b1
   rw[Int.toNat_natCast]at a1 b1
   rw[a1,b1]
   congr 1
   refine List.ext_getElem? fun x=>?_
   by_cases hx:x<L
   ·have cg:x<r1.length:=by lia
    have hx2:x<r2.length:=by lia
    have e1:Bm w1 (j:Int) (x:Nat)=r1[x]:=BL A1 (by rw[Int.toNat_natCast];simp[cg])
    have e2:Bm w2 (j:Int) (x:Nat)=r2[x]:=BL B1 (by rw[Int.toNat_natCast];simp[hx2])
    have:=all (u1 j++[(x:Int)]) (NB a (AU.mpr fun y hy=>by rw[List.mem_singleton.mp hy];lia))
    rw[EV,EV,b,id j hj,e1,e2]at this
    rw[List.getElem?_eq_getElem cg,List.getElem?_eq_getElem hx2,this]
   ·rw[List.getElem?_eq_none s!"",List.getElem?_eq_none s!""]
  ·rw[List.getElem?_eq_none (by rw[c1.wf.len];lia),List.getElem?_eq_none (by rw[c2.wf.len];lia)]
theorem YW:∀{l m:List Int},l.Pairwise (· < ·)->m.Pairwise (· < ·)->(∀x,x∈l↔x∈m)->l=m
 |[],[],_,_,_=>rfl
 |[],y::m,_,_,h=>absurd ((h y).mpr (List.mem_cons_self ..)) (by simp)
 |x::l,[],_,_,h=>absurd ((h x).mp (List.mem_cons_self ..)) (by simp)
 |x::l,y::m,hl,hm,h=>by
  obtain⟨l1,l2⟩:=List.pairwise_cons.mp hl
  obtain⟨k1,k2⟩:=List.pairwise_cons.mp hm
  have mS:x=y:=by
   have h1:=(h x).mp (List.mem_cons_self ..)
   have h2:=(h y).mpr (List.mem_cons_self ..)
   rcases List.mem_cons.mp h1 with h1|h1
   ·exact h1
   ·rcases List.mem_cons.mp h2 with h2|h2
    ·exact h2.symm
    ·have:=l1 y h2
     have:=k1 x h1
     lia
  subst mS
  congr 1
  refine YW l2 k2 fun z=>⟨fun hz=>?_,fun hz=>?_⟩
  ·rcases List.mem_cons.mp ((h z).mp (List.mem_cons_of_mem _ hz)) with e|e
   ·have:=l1 z hz;lia
   ·exact e
  ·rcases List.mem_cons.mp ((h z).mpr (List.mem_cons_of_mem _ hz)) with e|e
   ·have:=k1 z hz;lia
   ·exact e
theorem Can.order (c:Can L m1 w1):rOf w1=(List.range m1.length).map fun j:Nat=>(j:Int):=by
 obtain⟨u,p,q,s⟩:=c.lw
 obtain⟨top,bf⟩:=Bfs.mk c.wf
 have hL:(0:Int)<L:=by have:=c.wf.l1;lia
 have pl:∀r∈rOf w1,AG L (wi w1 r)=AG L (u r.toNat):=fun r hr=>by
  have bI:=EY c.wf hr
  obtain⟨a,b⟩:=BV_ c.wf hr
  have g1:=q _ a r.toNat s!""
  obtain⟨a',b'⟩:=p r.toNat s!""
  obtain⟨_,g2⟩:=NH c.wf a'
  rw[b',Int.toNat_of_nonneg bI.1]at g2
  lia
 refine YW ?_ ?_ fun x=>⟨fun hx=>?_,fun hx=>?_⟩
 ·have h1:=YV bf
  refine List.Pairwise.imp_of_mem (fun {a b} ha hb cc=>?_) h1
  have ra:=EY c.wf ha
  have rb:=EY c.wf hb
  rw[pl a ha,pl b hb]at cc
  refine Int.lt_of_not_ge fun a9=>?_
  rcases Nat.lt_or_ge b.toNat a.toNat with ar|hge'
  ·have:=s b.toNat a.toNat ar s!""
   lia
  ·have:a.toNat=b.toNat:=by lia
   rw[this]at cc
   lia
 ·rw[List.pairwise_map]
  exact List.Pairwise.imp (fun h=>by lia) List.pairwise_lt_range
 ·have:=EY c.wf hx
  exact List.mem_map.mpr ⟨x.toNat,List.mem_range.mpr s!"",by lia⟩
 ·obtain⟨j,hj,rfl⟩:=List.mem_map.mp hx
  obtain⟨a,b⟩:=p j (List.mem_range.mp hj)
  have:=(NH c.wf a).1
  rwa [b]at this
end
end L2
set_option maxHeartbeats 1000000
namespace L2
open PySem PySem.Spec PyProof.Rows
noncomputable def nt (n:Int):Str:=Str.ofString (toString n)
end L2
set_option maxHeartbeats 4000000
namespace L2
open PySem PySem.Spec PyProof.Rows
theorem AN  : EG X (.type "tuple") (fun xs H Q=>∃p ys,xs=[.ref p]/\((SqL X.K H p ys/\∀l,H l=none->Q (.ref l) (upd H l (.tup ys)))\/False)):=fun af s σ H xs us Q I r h=>by
 obtain⟨p,ys,e,h|h⟩:=h
 ·exact Nn af s σ H xs us Q I r ⟨p,ys,e,.inl h⟩
 ·exact h.elim
theorem NJ  {K:PySem.W.Frag}(h:X.K=K):EG X (.type "tuple") (fun xs H Q=>∃p ys,xs=[.ref p]/\((SqL K H p ys/\∀l,H l=none->Q (.ref l) (upd H l (.tup ys)))\/False)):=by subst h;exact AN
theorem len1 {α:Type}{us:List α}(h:us.length=1):∃a,us=[a]:=by match us,h with|[a],_=>exact⟨a,rfl⟩
theorem len2 {α:Type}{us:List α}(h:us.length=2):∃a b,us=[a,b]:=by match us,h with|[a,b],_=>exact⟨a,b,rfl⟩
theorem len3 {α:Type}{us:List α}(h:us.length=3):∃a b c,us=[a,b,c]:=by match us,h with|[a,b,c],_=>exact⟨a,b,c,rfl⟩
noncomputable def V5 (u:TS)(D:Ends):St->Hp->Prop:=u D
noncomputable def BW_ (t u:TS):TS:=fun D σ H=>t {D with nx:=V5 u D} σ H
theorem YX     : BW_ t u D σ H=t {D with nx:=V5 u D} σ H:=rfl
theorem Sy     (h:u D σ H):V5 u D σ H:=h
theorem Sz  {st:Stmt}{rest:List Stmt}  (h1:PS X st t)(h2:PSs X rest u):PSs X (st::rest) (BW_ t u):=Ac h1 h2
end L2
set_option maxHeartbeats 1000000
set_option maxHeartbeats 4000000
namespace PySem.W
open PySem PySem.Calls PyProof.Rows PyProof.V PySem.Spec
end PySem.W
namespace L2
open PySem PySem.W PySem.Spec PySem.Calls PyProof.Rows
noncomputable def vD:Option (Option V)->(V->Prop)->Prop
 |some (some v),q=>q v
 |_,_=>False
theorem V6   : vD (some (some v)) q=q v:=rfl
theorem CJ_   (h:vD o q):∃v,o=some (some v)/\q v:=by
 match o,h with
 |some (some v),h=>exact⟨v,rfl,h⟩
noncomputable def Tu (i:Nat):TE:=fun σ H Q=>vD σ[i]? fun v=>Q v H
theorem YY     : Tu i σ H Q=vD σ[i]? fun v=>Q v H:=rfl
theorem pvD  (i:Nat)   (hN:X.N[i]?=some x:=by rfl)(hv:Vis X.env.scope x:=by first|exact Or.inl rfl|exact Or.inr (Or.inl rfl)|exact Or.inr (Or.inr rfl))(hd:(x==("__debug__" : Str))=false:=by decide)
  (bo:(x==("__classdict__" : Str))=false:=by decide):PE X (.Name x pos) (Tu i):=fun af s σ H Q I h=>pv i hN hv hd bo af s σ H Q I (CJ_ h)
noncomputable def iD:V->V->(Int->Int->Prop)->Prop
 |.int i,.int j,q=>q i j
 |x,y,q=>∃i j,x=.int i/\y=.int j/\q i j
theorem YZ   : iD (.int i) (.int j) q=q i j:=rfl
theorem Ac_   : iD x y q=∃i j,x=.int i/\y=.int j/\q i j:=by
 cases x<;>cases y<;>first|rfl|(simp[iD])
noncomputable def rID (C:Int->Int->Prop)(g:Int->Int->V):R2:=fun x y H Q=>iD x y fun i j=>C i j/\Q (g i j) H
noncomputable def rI0D (g:Int->Int->V):R2:=fun x y H Q=>iD x y fun i j=>Q (g i j) H
theorem r_ID      : rID C f x y H Q=iD x y fun i j=>C i j/\Q (f i j) H:=rfl
theorem BX_     : rI0D f x y H Q=iD x y fun i j=>Q (f i j) H:=rfl
theorem BY_   : rID C g=rI C g:=by
 funext x y H Q;exact Ac_
theorem Ad_  : rI0D g=rI0 g:=by
 funext x y H Q;exact Ac_
theorem opD     (h:OpR X f (rI C g)):OpR X f (rID C g):=by rw[BY_];exact h
theorem opD0    (h:OpR X f (rI0 g)):OpR X f (rI0D g):=by rw[Ad_];exact h
noncomputable def bD:V->(Bool->Prop)->Prop
 |.bl c,q=>q c
 |x,q=>∃c,x=.bl c/\q c
theorem BZ_   : bD (.bl c) q=q c:=rfl
theorem Ca_   : bD x q=∃c,x=.bl c/\q c:=by
 cases x<;>first|rfl|(simp[bD])
noncomputable def tBD (t:TE):TT:=fun σ H Q=>t σ H fun x H1=>bD x fun c=>Q c H1
theorem r_BD     : tBD te σ H R=te σ H fun x H1=>bD x fun c=>R c H1:=rfl
theorem Y0  : tBD t=tB t:=by
 funext σ H Q
 show t σ H _=t σ H _
 congr 1
 funext x H1;exact Ca_
theorem Ae_  : tBD t=WN t:=Y0
theorem ptB    (h:PT X e (tB t)):PT X e (tBD t):=by rw[Y0];exact h
theorem ptT    (h:PT X e (WN t)):PT X e (tBD t):=by rw[Ae_];exact h
noncomputable def eD:V->V->Prop->Prop
 |.int _,.int _,q=>q
 |.str _,.str _,q=>q
 |.non,.non,q=>q
 |.bl _,.bl _,q=>q
 |x,y,q=>scal x y=true/\q
theorem Y1   : eD (.int i) (.int j) q=q:=rfl
theorem Y2   : eD (.str i) (.str j) q=q:=rfl
theorem Y3  : eD .non .non q=q:=rfl
theorem Cb_   : eD (.bl i) (.bl j) q=q:=rfl
theorem Cc_   : eD x y q=(scal x y=true/\q):=by
 cases x<;>cases y<;>first|rfl|(simp[eD,scal])
noncomputable def rEqF:R2:=fun x y H Q=>eD x y (Q (.bl (decide (x=y))) H)
theorem Cd_    : rEqF x y H Q=eD x y (Q (.bl (decide (x=y))) H):=rfl
theorem Af_:rEqF=rEq:=by funext x y H Q;exact Cc_
theorem opE   (h:OpR X f rEq):OpR X f rEqF:=by rw[Af_];exact h
noncomputable def aD:V->(Addr->Prop)->Prop
 |.ref a,q=>q a
 |x,q=>∃a,x=.ref a/\q a
theorem Y4   : aD (.ref a) q=q a:=rfl
theorem Xf   : aD x q=∃a,x=.ref a/\q a:=by
 cases x<;>first|rfl|(simp[aD])
noncomputable def nD:V->(Int->Prop)->Prop
 |.int a,q=>q a
 |x,q=>∃a,x=.int a/\q a
theorem Y5   : nD (.int a) q=q a:=rfl
theorem V7   : nD x q=∃a,x=.int a/\q a:=by
 cases x<;>first|rfl|(simp[nD])
noncomputable def Ag_ (K:PySem.W.Frag):R2:=fun x y H Q=>aD x fun p=>∃xs,nD y fun i=>SqT K H p xs/\∃v,atI xs i=some v/\Q v H
noncomputable def Xg (K:PySem.W.Frag):R2:=fun x y H Q=>aD x fun p=>∃xs,nD y fun i=>SqL K H p xs/\∃v,atI xs i=some v/\Q v H
theorem Y6 {K:PySem.W.Frag}    : Ag_ K x y H Q=aD x fun p=>∃xs,nD y fun i=>SqT K H p xs/\∃v,atI xs i=some v/\Q v H:=rfl
theorem Y7 {K:PySem.W.Frag}    : Xg K x y H Q=aD x fun p=>∃xs,nD y fun i=>SqL K H p xs/\∃v,atI xs i=some v/\Q v H:=rfl
theorem Xh {K:PySem.W.Frag}:Ag_ K=rIxT K:=by
 funext x y H Q
 show aD x _=∃p xs i v,_
 rw[Xf]
 refine propext ⟨fun ⟨p,e,h⟩=>?_,fun ⟨p,xs,i,v,e1,e2,e3,e4,e5⟩=>⟨p,e1,?_⟩⟩
 ·obtain⟨xs,h⟩:=h
  rw[V7]at h
  obtain⟨i,e2,e3,v,e4,e5⟩:=h
  exact⟨p,xs,i,v,e,e2,e3,e4,e5⟩
 ·refine⟨xs,?_⟩
  rw[V7]
  exact⟨i,e2,e3,v,e4,e5⟩
theorem Xi {K:PySem.W.Frag}:Xg K=rIxL K:=by
 funext x y H Q
 show aD x _=∃p xs i v,_
 rw[Xf]
 refine propext ⟨fun ⟨p,e,h⟩=>?_,fun ⟨p,xs,i,v,e1,e2,e3,e4,e5⟩=>⟨p,e1,?_⟩⟩
 ·obtain⟨xs,h⟩:=h
  rw[V7]at h
  obtain⟨i,e2,e3,v,e4,e5⟩:=h
  exact⟨p,xs,i,v,e,e2,e3,e4,e5⟩
 ·refine⟨xs,?_⟩
  rw[V7]
  exact⟨i,e2,e3,v,e4,e5⟩
theorem ixTD  {K:PySem.W.Frag}(h:IxR X (rIxT K)):IxR X (Ag_ K):=by rw[Xh];exact h
theorem ixLD  {K:PySem.W.Frag}(h:IxR X (rIxL K)):IxR X (Xg K):=by rw[Xi];exact h
noncomputable def lD1:List V->(V->Prop)->Prop
 |[x],q=>q x
 |xs,q=>∃x,xs=[x]/\q x
theorem V8   : lD1 [x] q=q x:=rfl
theorem Ce_   : lD1 xs q=∃x,xs=[x]/\q x:=by
 match xs with
 |[]=>rfl
 |[x]=>simp[lD1]
 |x::y::r=>rfl
noncomputable def Ah_ (K:PySem.W.Frag):List V->Hp->VK->Prop:=fun xs H Q=>lD1 xs fun x=>aD x fun p=>∃ys,(SqL K H p ys\/SqT K H p ys)/\Q (.int ys.length) H
theorem Y8 {K:PySem.W.Frag}    : Ah_ K xs H Q=lD1 xs fun x=>aD x fun p=>∃ys,(SqL K H p ys\/SqT K H p ys)/\Q (.int ys.length) H:=rfl
theorem lenD  {K:PySem.W.Frag}  (h:EG X f (fun xs H Q=>∃p ys,xs=[.ref p]/\(SqL K H p ys\/SqT K H p ys)/\Q (.int ys.length) H)):EG X f (Ah_ K):=by
 have e:Ah_ K=fun xs H Q=>∃p ys,xs=[.ref p]/\(SqL K H p ys\/SqT K H p ys)/\Q (.int ys.length) H:=by
  funext xs H Q
  show lD1 xs _=_
  rw[Ce_]
  refine propext ⟨fun ⟨x,e,h⟩=>?_,fun ⟨p,ys,e,h1,h2⟩=>⟨_,e,ys,h1,h2⟩⟩
  rw[Xf]at h
  obtain⟨p,rfl,ys,h1,h2⟩:=h
  exact⟨p,ys,e,h1,h2⟩
 rw[e];exact h
theorem Aj       (hN:X.N.Nodup)(he:PE X e te)(hi:X.N[i]?=some x:=by rfl)(hx:Loc X.env.scope x:=by exact Or.inl rfl)(hs:swapsWith e (some (.Name x bK)) pos.line X.env=pure false:=by rfl)(hf:X.fn x=true\/X.env.scope.names.lookup x=some .local:=by first|exact .inl rfl|exact .inr rfl|assumption):PS X (.Assign [.Name x bK] e pos) (tAsg te (Mb i)):=CG hN hi hx he hs hf
theorem Ai      (hr:IxR X r)(ha:PE X a ta)(hb:PE X b tb)(hs:UW b:=by exact fun _ _=>rfl):PE X (.Subscript a b pos) (tOp r ta tb):=Bf_ hr ha hb hs
end L2
namespace PySem
open Sem (wp)
structure VKind (prog:Program)(w:World)(K:Type)[DecidableEq K] where
 is:Heap->K->Value->Prop
 hash:K->Int
 draws:K->Nat
 room:Around->Prop
 inj:∀{h:Heap} {a:Value} {x y:K},is h x a->is h y a->x=y
 keeps:∀{h h':Heap} {k:K} {a:Value} {d:Addr} {o:Obj} {es ep},is h k a->h.get? d=some o->o.data=.dict es ep->Heap.SameBut d h h'->is h' k a
 pyHash:∀{A:Around} {E:Value->Shared->Prop} {s:Shared} {k:K} {a:Addr} {Q:Int->Shared->Prop},room A->is s.heap k (.ref a)->Q (hash k) {s with toks:=s.toks+draws k}->wpAny (model prog w) A (PySem.pyHash (.ref a)) Q E s
 eqBool:∀{A:Around} {E:Value->Shared->Prop} {s:Shared} {x y:K} {u:Value} {b:Addr} {Q:Bool->Shared->Prop},room A->is s.heap x u->is s.heap y (.ref b)->Q (decide (x=y)) s->wpAny (model prog w) A (PySem.eqBool u (.ref b)) Q E s
 quiet:∀{A:Around} {E:Value->Shared->Prop} {s:Shared} {k:K} {a:Value} {Q:Bool->Shared->Prop},room A->is s.heap k a->Q true s->wpAny (model prog w) A (eqIsQuiet 8 a) Q E s
noncomputable abbrev NI:=Int ⊕ List Int
noncomputable abbrev NK:=Option (List NI)
end PySem
namespace L2
open PySem PySem.W PySem.Spec PySem.Calls PyProof.Rows
noncomputable def TSq (K:PySem.W.Frag)(H H':Hp):Prop:=∀b ys,SqT K H b ys->SqT K H' b ys
theorem TSq.un {K:PySem.W.Frag}    (h1:∀xs,H p≠some (.tup xs))(h2:∀ob xs,H p≠some (.frz ob (.tup xs))):TSq K H (upd H p o):=fun b ys e=>by
 rcases e with (e|⟨ob,e⟩)|e
 ·exact .inl (.inl (by rw[Ah (fun z=>by rw[z]at e;exact h1 _ e)];exact e))
 ·exact .inl (.inr ⟨ob,by rw[Ah (fun z=>by rw[z]at e;exact h2 _ _ e)];exact e⟩)
 ·exact .inr e
end L2
namespace aA
open PySem PyProof.Rows
noncomputable def KE (κ:KeyKind)(x:Keyed):κ.α:=(κ.keyOf x.1).getD κ.dflt
theorem Xj     (h:xs[i]?=some x):KK κ xs i=KE κ x:=by unfold KK KE;rw[h]
structure SB (kd:SortKind)(a₀:Array Keyed)(st:SortSt):Prop where
 perm:(arrOf st).Perm a₀
 kind:kindOf st=kd
 failed:failedOf st=none
theorem SB.size   {st:SortSt}(h:SB kd a₀ st):(arrOf st).size=a₀.size:=h.perm.size_eq
theorem SB.setArr   {st:SortSt}(h:SB kd a₀ st)  (hp:xs.Perm (arrOf st)):SB kd a₀ (PyProof.Rows.setArr st xs):=⟨hp.trans h.perm,h.kind,h.failed⟩
theorem SB.mem   {st:SortSt}(h:SB kd a₀ st)  (hx:x∈(arrOf st).toList):x∈a₀.toList:=(Array.perm_iff_toList_perm.mp h.perm).mem_iff.mp hx
theorem SB.get   {st:SortSt}(h:SB kd a₀ st)  (hi:i<a₀.size):∃x,(arrOf st)[i]?=some x/\x∈a₀.toList:=by
 have hi':i<(arrOf st).size:=by rw[h.size];exact hi
 exact⟨(arrOf st)[i],getElem?_pos _ i hi',h.mem (by simp)⟩
noncomputable def LtOk (kd:SortKind)(κ:KeyKind)(a₀:Array Keyed)(prog:Program)(w:World)(A:Around)(E:Value->Shared->Prop)(s:Shared):Prop:=
 ∀(x y:Keyed) (st:SortSt) (Q:Option Bool->SortSt->Prop),x∈a₀.toList->y∈a₀.toList->kindOf st=kd->Q (some (κ.blt (KE κ x) (KE κ y))) st->wpS (model prog w) A E s (lt' x y) Q st
noncomputable def SO (κ:KeyKind)(xs:Array Keyed)(lo hi:Nat):Prop:=∀i j,lo<=i->i<=j->j<hi->κ.kle (KK κ xs i) (KK κ xs j)
noncomputable def NI (κ:KeyKind)(xs:Array Keyed)(lo hi:Nat):Prop:=∀i j,lo<=i->i<=j->j<hi->κ.kle (KK κ xs j) (KK κ xs i)
noncomputable def Out (lo hi:Nat)(xs ys:Array Keyed):Prop:=∀i,i<lo\/hi<=i->ys[i]?=xs[i]?
theorem Out.refl (lo hi:Nat)(xs:Array Keyed):Out lo hi xs xs:=fun _ _=>rfl
theorem Out.trans {lo hi:Nat}  (h:Out lo hi xs ys)(g:Out lo hi ys zs):Out lo hi xs zs:=fun i hi=>(g i hi).trans (h i hi)
theorem MY  {lo hi i j:Nat}(hj:j<=xs.size)(h1:lo<=i)(h2:j<=hi):Out lo hi xs (mirror xs i j ((j-i) / 2)):=fun k hk=>by
 rw[getElem?_mirror_all hj,if_neg s!""]
theorem Tv  {lo hi ko d:Nat}(hs:ko<xs.size)(hd:d<=ko)(h1:lo<=ko-d)(h2:ko<hi):Out lo hi xs (bubble xs ko d):=fun k hk=>by
 rw[getElem?_bubble hs d hd,if_neg s!"",if_neg s!""]
section
variable {prog:Program} {w:World} {A:Around} {E:Value->Shared->Prop} {s:Shared} {a₀:Array Keyed} {κ:KeyKind} {kd:SortKind}
theorem KZ {st:SortSt}   (hO:LtOk kd κ a₀ prog w A E s)(hB:SB kd a₀ st)(hi:i<a₀.size)(hj:j<a₀.size)(h:Q (some (κ.blt (KK κ (arrOf st) i) (KK κ (arrOf st) j))) st):wpS (model prog w) A E s (ltAt' i j) Q st:=by
 obtain⟨x,e1,hx⟩:=hB.get hi
 obtain⟨y,e2,hy⟩:=hB.get hj
 rw[Xj e1,Xj e2]at h
 rw[ltAt'_eq]
 refine wpS_bind (wpS_get ?_)
 show wpS _ _ _ _ (do let x <- elem' (arrOf st) i;let y <- elem' (arrOf st) j;lt' x y) Q st
 rw[elem'_eq,elem'_eq,e1,e2]
 exact wpS_bind (wpS_pure (wpS_bind (wpS_pure (hO x y st Q hx hy hB.kind h))))
noncomputable def ascL (lo a ao:Nat):StateT SortSt Sem AscSt:=
 forIn [a:ao] ((none,a):AscSt) fun _ gM=>do
  let __x <- ltAt' (lo+gM.snd) (lo+gM.snd-1)
  match __x with
  |some b7=>if b7=true then pure (ForInStep.done (none,gM.snd)) else pure (ForInStep.yield (none,gM.snd+1))
  |_=>pure (ForInStep.done (some none,gM.snd))
theorem SO.snoc  {lo x:Nat}(h:SO κ xs lo (lo+x))(o:1<=x)(q:κ.blt (KK κ xs (lo+x)) (KK κ xs (lo+x-1))=false):SO κ xs lo (lo+(x+1)):=fun i j a b c=>by
 rcases Nat.lt_or_ge j (lo+x) with y|y
 ·exact h i j a b y
 obtain rfl:j=lo+x:=by lia
 rcases Nat.eq_or_lt_of_le b with rfl|z
 ·exact KeyOrd.kle_refl _
 ·exact KeyOrd.kle_trans (h i (lo+x-1) a s!"" s!"") q
theorem Y9 {st:SortSt}{lo a ao:Nat}  (hO:LtOk kd κ a₀ prog w A E s)(hn:lo+ao<=a₀.size)(ha:1<=a)(han:a<=ao)(hB:SB kd a₀ st)(hs:SO κ (arrOf st) lo (lo+a))
  (h:∀n,a<=n->n<=ao->SO κ (arrOf st) lo (lo+n)->(n=ao\/κ.klt (KK κ (arrOf st) (lo+n)) (KK κ (arrOf st) (lo+n-1)))->Q (none,n) st):
  wpS (model prog w) A E s (ascL lo a ao) Q st:=by
 unfold ascL
 refine wpS_forRange (fun x c t=>t=st/\c=(none,x)/\x<=ao/\SO κ (arrOf st) lo (lo+x)) (fun x c t y z i=>?_) (fun c t i=>?_) ⟨rfl,rfl,han,hs⟩
 ·obtain⟨rfl,rfl,_,so⟩:=i
  refine wpS_bind (KZ hO hB (by show lo+x<_;lia) (by show lo+x-1<_;lia) ?_)
  dsimp only
  generalize e:κ.blt _ _=b
  cases b
  ·exact wpS_pure ⟨rfl,rfl,z,so.snoc s!"" e⟩
  ·exact wpS_pure (h x y (Nat.le_of_lt z) so (.inr e))
 ·obtain⟨rfl,rfl,o,so⟩:=i
  exact h _ s!"" o so (.inl s!"")
noncomputable def PM (lo n ao:Nat):StateT SortSt Sem (Option Nat):=do
 reverseSlice' lo (lo+n)
 let gM <- ascL lo n ao
 match gM.fst with
 |some r=>pure r
 |none=>pure (some gM.snd)
theorem GQ {st:SortSt}   (h:Q () (setArr st (mirror (arrOf st) i j ((j-i) / 2)))):wpS (model prog w) A E s (reverseSlice' i j) Q st:=by
 rw[reverseSlice'_eq];exact wpS_modify h
theorem Ai_ {st:SortSt}{lo n ao:Nat}  (hO:LtOk kd κ a₀ prog w A E s)(hn:lo+ao<=a₀.size)(h1:1<=n)(eE:n<=ao)(hB:SB kd a₀ st)(hs:NI κ (arrOf st) lo (lo+n))
  (h:∀m ag,SB kd a₀ ag->pendingOf ag=pendingOf st->Out lo (lo+ao) (arrOf st) (arrOf ag)->1<=m->m<=ao->SO κ (arrOf ag) lo (lo+m)->Q (some m) ag):
  wpS (model prog w) A E s (PM lo n ao) Q st:=by
 unfold PM
 have hsz:lo+n<=(arrOf st).size:=by rw[hB.size];lia
 refine wpS_bind (GQ ?_)
 have gh:SB kd a₀ (setArr st (mirror (arrOf st) lo (lo+n) ((lo+n-lo) / 2))):=hB.setArr (mirror_perm _ _ _ _)
 refine wpS_bind (Y9 hO hn h1 eE gh ?_ fun m gN kg hsm _=>wpS_pure (h m _ gh rfl (MY hsz (Nat.le_refl _) s!"") s!"" kg hsm))
 intro i j hl aU hj
 show κ.kle (KK κ (mirror (arrOf st) lo (lo+n) ((lo+n-lo) / 2)) i) (KK κ (mirror (arrOf st) lo (lo+n) ((lo+n-lo) / 2)) j)
 rw[KK_mirror hsz,KK_mirror hsz,if_pos s!"",if_pos s!""]
 exact hs _ _ s!"" s!"" s!""
end
end aA
namespace aA
open PySem PyProof.Rows
noncomputable def Df:Bool->Keyed->Array Keyed->Nat->Nat->Nat->StateT SortSt Sem (Option Nat):=sortPriv% PySem.Builtin.gallop
noncomputable def MZ (left:Bool)(key:Keyed)(arr:Array Keyed)(base i:Nat):StateT SortSt Sem (Option Bool):=do
 let x <- elem' arr (base+i)
 if left then lt' x key else return ( <- lt' key x).map (!·)
noncomputable def Xk (left:Bool)(key:Keyed)(arr:Array Keyed)(base n lo hi:Nat):StateT SortSt Sem (Option Nat):=do
 let mut lo:=lo
 let mut hi:=hi
 for _ in [0:n] do
  if lo >= hi then break
  let m:=lo+(hi-lo) / 2
  let some more <- MZ left key arr base m|return none
  if more then lo:=m+1 else hi:=m
 return some hi
theorem Tw (left:Bool)(key:Keyed)(arr:Array Keyed)(base n hint:Nat):Df left key arr base n hint=(do
 let some right <- MZ left key arr base hint|return none
 if right then
  let mut lastofs:=0
  let mut ofs:=1
  for _ in [0:n] do
   if ofs >= n-hint then break
   let some more <- MZ left key arr base (hint+ofs)|return none
   if !more then break
   lastofs:=ofs
   ofs:=2*ofs+1
  Xk left key arr base n (hint+lastofs+1) (hint+min ofs (n-hint))
 else
  let mut lastofs:=0
  let mut ofs:=1
  for _ in [0:n] do
   if ofs >= hint+1 then break
   let some found <- MZ left key arr base (hint-ofs)|return none
   if found then break
   lastofs:=ofs
   ofs:=2*ofs+1
  Xk left key arr base n (hint+1-min ofs (hint+1)) (hint-lastofs)):=rfl
section
variable {prog:Program} {w:World} {A:Around} {E:Value->Shared->Prop} {s:Shared} {a₀:Array Keyed} {κ:KeyKind} {kd:SortKind}
noncomputable def gB (κ:KeyKind)(left:Bool)(key:Keyed)(arr:Array Keyed)(base i:Nat):Bool:=if left then κ.blt (KK κ arr (base+i)) (KE κ key) else !κ.blt (KE κ key) (KK κ arr (base+i))
noncomputable def InA (a₀ arr:Array Keyed)(base n:Nat):Prop:=∀i,i<n->∃x,arr[base+i]?=some x/\x∈a₀.toList
theorem Ig     {st:SortSt}  (hO:LtOk kd κ a₀ prog w A E s)(hk:kindOf st=kd)(bE:key∈a₀.toList)(hA:InA a₀ arr base n)(hi:i<n)(h:Q (some (gB κ left key arr base i)) st):
  wpS (model prog w) A E s (MZ left key arr base i) Q st:=by
 obtain⟨x,e,hx⟩:=hA i hi
 unfold MZ
 rw[elem'_eq,e]
 refine wpS_bind (wpS_pure ?_)
 unfold gB at h
 rw[Xj e]at h
 cases left with
 |true=>exact hO x key st Q hx bE hk h
 |false=>
  refine wpS_bind (hO key x st _ bE hx hk ?_)
  exact wpS_pure h
theorem PN     {st:SortSt}  (hO:LtOk kd κ a₀ prog w A E s)(hk:kindOf st=kd)(bE:key∈a₀.toList)(hA:InA a₀ arr base n)(hh:hint<n)
  (dq:∀i j,i<=j->j<n->gB κ left key arr base j=true->gB κ left key arr base i=true)
  (h:∀k,k<=n->(∀i,i<k->gB κ left key arr base i=true)->(∀i,k<=i->i<n->gB κ left key arr base i=false)->Q (some k) st):
  wpS (model prog w) A E s (Df left key arr base n hint) Q st:=by
 have ff:∀i j,i<=j->j<n->gB κ left key arr base i=false->gB κ left key arr base j=false:=fun i j aU hj hf=>by
  cases e:gB κ left key arr base j with
  |false=>rfl
  |true=>rw[dq i j aU hj e]at hf;cases hf
 have hlast:∀lo hi:Nat,lo<=hi->hi<=n->(∀i,i<lo->gB κ left key arr base i=true)->(∀i,hi<=i->i<n->gB κ left key arr base i=false)->wpS (model prog w) A E s (Xk left key arr base n lo hi) Q st:=by
  intro lo hi hlh hhn hlo hhi
  unfold Xk
  refine wpS_bind (wpS_mono (wpS_forRange (I:=fun x c ag=>ag=st/\∃lo hi,c=(none,lo,hi)/\lo<=hi/\hi<=n/\hi-lo<=n-x/\(∀i,i<lo->gB κ left key arr base i=true)/\(∀i,hi<=i->i<n->gB κ left key arr base i=false))
   (Q:=fun c ag=>ag=st/\∃k,∃lo,c=(none,lo,k)/\k<=n/\(∀i,i<k->gB κ left key arr base i=true)/\(∀i,k<=i->i<n->gB κ left key arr base i=false)) ?step ?fin ⟨rfl,lo,hi,rfl,hlh,hhn,by lia,hlo,hhi⟩) ?post)
  case fin=>
   rintro c ag ⟨rfl,lo,hi,rfl,h1,h2,h3,h4,h5⟩
   have:lo=hi:=by lia
   subst this
   exact⟨rfl,lo,lo,rfl,h2,h4,h5⟩
  case post=>
   rintro c ag ⟨rfl,k,lo,rfl,h1,h2,h3⟩
   exact wpS_pure (h k h1 h2 h3)
  case step=>
   rintro x c ag _ hx ⟨rfl,lo,hi,rfl,h1,h2,h3,h4,h5⟩
   dsimp only
   by_cases a9:lo >= hi
   ·rw[if_pos a9]
    have:lo=hi:=by lia
    subst this
    exact wpS_pure ⟨rfl,lo,lo,rfl,h2,h4,h5⟩
   ·rw[if_neg a9]
    refine wpS_bind (Ig hO hk bE hA (n:=n) s!"" ?_)
    cases hg:gB κ left key arr base (lo+(hi-lo) / 2) with
    |true=>
     dsimp only
     rw[if_pos rfl]
     refine wpS_pure ⟨rfl,lo+(hi-lo) / 2+1,hi,rfl,by lia,h2,by lia,fun i hi'=>?_,h5⟩
     exact dq i (lo+(hi-lo) / 2) s!"" s!"" hg
    |false=>
     dsimp only
     rw[if_neg (by simp)]
     refine wpS_pure ⟨rfl,lo,lo+(hi-lo) / 2,rfl,by lia,by lia,by lia,h4,fun i hi' hn=>?_⟩
     exact ff (lo+(hi-lo) / 2) i hi' hn hg
 rw[Tw]
 refine wpS_bind (Ig hO hk bE hA hh ?_)
 cases hg:gB κ left key arr base hint with
 |true=>
  dsimp only
  rw[if_pos rfl]
  refine wpS_bind (wpS_mono (wpS_forRange (I:=fun x c ag=>ag=st/\∃last ofs,c=(none,last,ofs)/\last<ofs/\x<ofs/\hint+last<n/\gB κ left key arr base (hint+last)=true)
   (Q:=fun c ag=>ag=st/\∃last ofs,c=(none,last,ofs)/\last<ofs/\hint+last<n/\gB κ left key arr base (hint+last)=true/\(n-hint<=ofs\/hint+ofs<n/\gB κ left key arr base (hint+ofs)=false)) ?step ?fin ⟨rfl,0,1,rfl,by lia,by lia,by lia,hg⟩) ?post)
  case fin=>
   rintro c ag ⟨rfl,last,ofs,rfl,h1,h2,h3,h4⟩
   exact⟨rfl,last,ofs,rfl,h1,h3,h4,.inl s!""⟩
  case step=>
   rintro x c ag _ hx ⟨rfl,last,ofs,rfl,h1,h2,h3,h4⟩
   dsimp only
   by_cases a9:ofs >= n-hint
   ·rw[if_pos a9]
    exact wpS_pure ⟨rfl,last,ofs,rfl,h1,h3,h4,.inl a9⟩
   ·rw[if_neg a9]
    refine wpS_bind (Ig hO hk bE hA (n:=n) s!"" ?_)
    cases kq:gB κ left key arr base (hint+ofs) with
    |true=>
     dsimp only
     rw[if_neg (by simp)]
     exact wpS_pure ⟨rfl,ofs,2*ofs+1,rfl,by lia,by lia,by lia,kq⟩
    |false=>
     dsimp only
     rw[if_pos (by simp)]
     exact wpS_pure ⟨rfl,last,ofs,rfl,h1,h3,h4,.inr ⟨by lia,kq⟩⟩
  case post=>
   rintro c ag ⟨rfl,last,ofs,rfl,h1,h3,h4,h5⟩
   dsimp only
   refine hlast (hint+last+1) (hint+min ofs (n-hint)) s!"" s!"" (fun i hi=>dq i (hint+last) s!"" h3 h4) (fun i hi hn=>?_)
   rcases h5 with h5|⟨h5,h6⟩
   ·lia
   ·exact ff (hint+ofs) i s!"" hn h6
 |false=>
  dsimp only
  rw[if_neg (by simp)]
  refine wpS_bind (wpS_mono (wpS_forRange (I:=fun x c ag=>ag=st/\∃last ofs,c=(none,last,ofs)/\last<ofs/\x<ofs/\last<=hint/\gB κ left key arr base (hint-last)=false)
   (Q:=fun c ag=>ag=st/\∃last ofs,c=(none,last,ofs)/\last<ofs/\last<=hint/\gB κ left key arr base (hint-last)=false/\(hint+1<=ofs\/ofs<=hint/\gB κ left key arr base (hint-ofs)=true)) ?step ?fin ⟨rfl,0,1,rfl,by lia,by lia,by lia,hg⟩) ?post)
  case fin=>
   rintro c ag ⟨rfl,last,ofs,rfl,h1,h2,h3,h4⟩
   exact⟨rfl,last,ofs,rfl,h1,h3,h4,.inl s!""⟩
  case step=>
   rintro x c ag _ hx ⟨rfl,last,ofs,rfl,h1,h2,h3,h4⟩
   dsimp only
   by_cases a9:ofs >= hint+1
   ·rw[if_pos a9]
    exact wpS_pure ⟨rfl,last,ofs,rfl,h1,h3,h4,.inl a9⟩
   ·rw[if_neg a9]
    refine wpS_bind (Ig hO hk bE hA (n:=n) s!"" ?_)
    cases kq:gB κ left key arr base (hint-ofs) with
    |true=>
     dsimp only
     rw[if_pos rfl]
     exact wpS_pure ⟨rfl,last,ofs,rfl,h1,h3,h4,.inr ⟨by lia,kq⟩⟩
    |false=>
     dsimp only
     rw[if_neg (by simp)]
     exact wpS_pure ⟨rfl,ofs,2*ofs+1,rfl,by lia,by lia,by lia,kq⟩
  case post=>
   rintro c ag ⟨rfl,last,ofs,rfl,h1,h3,h4,h5⟩
   dsimp only
   refine hlast (hint+1-min ofs (hint+1)) (hint-last) s!"" s!"" (fun i hi=>?_) (fun i hi hn=>ff (hint-last) i s!"" hn h4)
   rcases h5 with h5|⟨h5,h6⟩
   ·lia
   ·exact dq i (hint-ofs) s!"" s!"" h6
end
end aA
namespace aA
open PySem PyProof.Rows
noncomputable abbrev Gi (st:SortSt)(g:Nat):SortSt:=SortSt.mk' (kindOf st) (arrOf st) (pendingOf st) g (failedOf st)
noncomputable def Bf:Nat->StateT SortSt Sem Unit:=sortPriv% PySem.Builtin.setMinGallop
theorem JL (g:Nat):Bf g=modify fun s=>Gi s g:=rfl
noncomputable def Kr:Array Keyed->Array Keyed->StateT SortSt Sem (Array Keyed):=sortPriv% PySem.Builtin.mergeLo
noncomputable def Fm (a b out:Array Keyed)(ia ib:Nat):Array Keyed:=out++a.extract ia a.size++b.extract ib b.size
noncomputable def K0 (a b out:Array Keyed)(ia ib:Nat):Array Keyed:=out++b.extract ib b.size++a.extract ia a.size
theorem Q0 (a b:Array Keyed):Kr a b=(do
 rule "list.sort.merge-lo"
 let mut out:Array Keyed := #[<-elem' b 0]
 let mut ia:=0
 let mut ib:=1
 if ib==b.size then return Fm a b out ia ib
 if ia+1==a.size then return K0 a b out ia ib
 let mut minGallop:=gallopOf ( <- get)
 for _ in [0:a.size+b.size] do
  let mut acount:=0
  let mut bcount:=0
  for _ in [0:a.size+b.size] do
   let some fg <- lt' ( <- elem' b ib) ( <- elem' a ia)|return Fm a b out ia ib
   if fg then
    out:=out.push ( <- elem' b ib);ib:=ib+1;bcount:=bcount+1;acount:=0
    if ib==b.size then return Fm a b out ia ib
    if bcount >= minGallop then break
   else
    out:=out.push ( <- elem' a ia);ia:=ia+1;acount:=acount+1;bcount:=0
    if ia+1==a.size then return K0 a b out ia ib
    if acount >= minGallop then break
  rule "list.sort.gallop"
  minGallop:=minGallop+1
  for _ in [0:a.size+b.size] do
   if minGallop > 1 then minGallop:=minGallop-1
   Bf minGallop
   let some k <- Df false ( <- elem' b ib) a ia (a.size-ia) 0|return Fm a b out ia ib
   acount:=k
   if k > 0 then
    out:=out++a.extract ia (ia+k);ia:=ia+k
    if ia+1==a.size then return K0 a b out ia ib
    if ia==a.size then return Fm a b out ia ib
   out:=out.push ( <- elem' b ib);ib:=ib+1
   if ib==b.size then return Fm a b out ia ib
   let some k <- Df true ( <- elem' a ia) b ib (b.size-ib) 0|return Fm a b out ia ib
   bcount:=k
   if k > 0 then
    out:=out++b.extract ib (ib+k);ib:=ib+k
    if ib==b.size then return Fm a b out ia ib
   out:=out.push ( <- elem' a ia);ia:=ia+1
   if ia+1==a.size then return K0 a b out ia ib
   if acount<7&&bcount<7 then break
  minGallop:=minGallop+1
  Bf minGallop
 unsupported "internal:list.sort.merge-bound"):=rfl
section
variable {α:Type} {R:α->α->Prop} {A B out:List α} {ia ib:Nat}
structure MI (R:α->α->Prop)(A B out:List α)(ia ib:Nat):Prop where
 ha:ia<=A.length
 hb:ib<=B.length
 pm:out.Perm (A.take ia++B.take ib)
 so:out.Pairwise R
 le:∀x∈out,∀y∈A.drop ia++B.drop ib,R x y
theorem MI.swap (h:MI R A B out ia ib):MI R B A out ib ia:=⟨h.hb,h.ha,h.pm.trans List.perm_append_comm,h.so,fun x hx y hy=>h.le x hx y (by rcases List.mem_append.mp hy with z|z;exact List.mem_append_right _ z;exact List.mem_append_left _ z)⟩
theorem Tx (A:List α)(i k:Nat):A.drop i=(A.drop i).take k++A.drop (i+k):=by
 rw[<-List.drop_drop,List.take_append_drop]
theorem MI.ta (h:MI R A B out ia ib)(sA:A.Pairwise R)  (hk:ia+k<=A.length)(hx:∀x∈(A.drop ia).take k,∀y∈B.drop ib,R x y):MI R A B (out++(A.drop ia).take k) (ia+k) ib:=by
 have cQ:=Tx A ia k
 have nc:(A.drop ia).Pairwise R:=List.Pairwise.sublist (List.drop_sublist _ _) sA
 refine⟨hk,h.hb,?_,?_,fun x jD y hy=>?_⟩
 ·have e:A.take (ia+k)=A.take ia++(A.drop ia).take k:=List.take_add
  rw[e,List.append_assoc]
  refine (List.Perm.append_right _ h.pm).trans ?_
  rw[List.append_assoc]
  exact List.Perm.append_left _ List.perm_append_comm
 ·refine List.pairwise_append.mpr ⟨h.so,List.Pairwise.sublist (List.take_sublist _ _) nc,fun x cg y iu=>h.le x cg y (List.mem_append_left _ (List.mem_of_mem_take iu))⟩
 ·rcases List.mem_append.mp jD with jD|jD
  ·refine h.le x jD y ?_
   rcases List.mem_append.mp hy with hy|hy
   ·exact List.mem_append_left _ (by rw[cQ];exact List.mem_append_right _ hy)
   ·exact List.mem_append_right _ hy
  ·rcases List.mem_append.mp hy with hy|hy
   ·rw[cQ]at nc
    exact (List.pairwise_append.mp nc).2.2 x jD y hy
   ·exact hx x jD y hy
theorem MI.tb (h:MI R A B out ia ib)(sB:B.Pairwise R)  (hk:ib+k<=B.length)(hx:∀x∈(B.drop ib).take k,∀y∈A.drop ia,R x y):MI R A B (out++(B.drop ib).take k) ia (ib+k):=(h.swap.ta sB hk hx).swap
theorem MI.start (A B:List α):MI R A B [] 0 0:=⟨Nat.zero_le _,Nat.zero_le _,by simp,List.Pairwise.nil,fun x hx=>by cases hx⟩
noncomputable def Mgd (R:α->α->Prop)(A B r:List α):Prop:=r.Perm (A++B)/\r.Pairwise R
theorem MI.done (h:MI R A B out ia ib)(sA:A.Pairwise R)(sB:B.Pairwise R)(he:A.length<=ia\/B.length<=ib):Mgd R A B (out++A.drop ia++B.drop ib):=by
 rcases he with he|he
 ·have:=(h.tb sB (k:=B.length-ib) (by have:=h.hb;lia) (fun x _ y hy=>by rw[List.drop_eq_nil_of_le he]at hy;cases hy))
  have e:(B.drop ib).take (B.length-ib)=B.drop ib:=List.take_of_length_le (by rw[List.length_drop];exact Nat.le_refl _)
  rw[e]at this
  rw[List.drop_eq_nil_of_le he,List.append_nil]
  refine⟨?_,this.so⟩
  have p:=this.pm
  rw[List.take_of_length_le he,List.take_of_length_le (by have:=h.hb;lia)]at p
  exact p
 ·have:=(h.ta sA (k:=A.length-ia) (by have:=h.ha;lia) (fun x _ y hy=>by rw[List.drop_eq_nil_of_le he]at hy;cases hy))
  have e:(A.drop ia).take (A.length-ia)=A.drop ia:=List.take_of_length_le (by rw[List.length_drop];exact Nat.le_refl _)
  rw[e]at this
  rw[List.drop_eq_nil_of_le he,List.append_nil]
  refine⟨?_,this.so⟩
  have p:=this.pm
  rw[List.take_of_length_le he,List.take_of_length_le (by have:=h.ha;lia)]at p
  exact p
theorem MI.last (h:MI R A B out ia ib)(sA:A.Pairwise R)(sB:B.Pairwise R)(hl:∀x∈B,∀y∈A.drop ia,R x y):Mgd R A B (out++B.drop ib++A.drop ia):=by
 have h1:=h.tb sB (k:=B.length-ib) (by have:=h.hb;lia) (fun x hx y hy=>hl x (List.mem_of_mem_drop (List.mem_of_mem_take hx)) y hy)
 have e:(B.drop ib).take (B.length-ib)=B.drop ib:=List.take_of_length_le (by rw[List.length_drop];exact Nat.le_refl _)
 rw[e]at h1
 have h2:=h1.done sA sB (.inr (by have:=h.hb;lia))
 rw[List.drop_eq_nil_of_le (show B.length<=ib+(B.length-ib) by have:=h.hb;lia),List.append_nil]at h2
 exact h2
end
end aA
namespace aA
open PySem PyProof.Rows
noncomputable def LeK (κ:KeyKind)(x y:Keyed):Prop:=κ.kle (KE κ x) (KE κ y)
structure SG (st ag:SortSt):Prop where
 kd:kindOf ag=kindOf st
 arr:arrOf ag=arrOf st
 pe:pendingOf ag=pendingOf st
 fa:failedOf ag=failedOf st
theorem SG.refl (st:SortSt):SG st st:=⟨rfl,rfl,rfl,rfl⟩
theorem SG.set {st ag:SortSt}(h:SG st ag)(g:Nat):SG st (Gi ag g):=⟨h.kd,h.arr,h.pe,h.fa⟩
noncomputable abbrev G5:=Option (Array Keyed)×Array Keyed×Nat×Nat×Nat
noncomputable abbrev G6:=Option (Array Keyed)×Array Keyed×Nat×Nat×Nat×Nat
noncomputable abbrev G7:=Option (Array Keyed)×Array Keyed×Nat×Nat×Nat×Nat×Nat
noncomputable def PC (a b out:Array Keyed)(ia ib mg ac bc:Nat):StateT SortSt Sem (ForInStep G7):=do
 let y <- elem' a ia
 if (ia+1+1==a.size)=true then pure (.done (some (K0 a b (out.push y) (ia+1) ib),out.push y,ia+1,ib,mg,ac,bc))
 else if (decide (ac<7)&&decide (bc<7))=true then pure (.done (none,out.push y,ia+1,ib,mg,ac,bc)) else pure (.yield (none,out.push y,ia+1,ib,mg,ac,bc))
noncomputable def PB (a b out:Array Keyed)(ia ib mg ac bc:Nat):StateT SortSt Sem (ForInStep G7):=do
 let y <- elem' b ib
 if (ib+1==b.size)=true then pure (.done (some (Fm a b (out.push y) ia (ib+1)),out.push y,ia,ib+1,mg,ac,bc))
 else do
  let z <- elem' a ia
  let x <- Df true z b (ib+1) (b.size-(ib+1)) 0
  match x with
  |some k=>if k > 0 then (if (ib+1+k==b.size)=true then pure (.done (some (Fm a b (out.push y++b.extract (ib+1) (ib+1+k)) ia (ib+1+k)),out.push y++b.extract (ib+1) (ib+1+k),ia,ib+1+k,mg,ac,k)) else PC a b (out.push y++b.extract (ib+1) (ib+1+k)) ia (ib+1+k) mg ac k) else PC a b (out.push y) ia (ib+1) mg ac k
  |_=>pure (.done (some (Fm a b (out.push y) ia (ib+1)),out.push y,ia,ib+1,mg,ac,bc))
noncomputable def PA (a b out:Array Keyed)(ia ib mg ac bc:Nat):StateT SortSt Sem (ForInStep G7):=do
 Bf mg
 let y <- elem' b ib
 let x <- Df false y a ia (a.size-ia) 0
 match x with
 |some k=>if k > 0 then (if (ia+k+1==a.size)=true then pure (.done (some (K0 a b (out++a.extract ia (ia+k)) (ia+k) ib),out++a.extract ia (ia+k),ia+k,ib,mg,k,bc)) else if (ia+k==a.size)=true then pure (.done (some (Fm a b (out++a.extract ia (ia+k)) (ia+k) ib),out++a.extract ia (ia+k),ia+k,ib,mg,k,bc)) else PB a b (out++a.extract ia (ia+k)) (ia+k) ib mg k bc) else PB a b out ia ib mg k bc
 |_=>pure (.done (some (Fm a b out ia ib),out,ia,ib,mg,ac,bc))
noncomputable def P1 (a b:Array Keyed)(mg:Nat)(c:G6):StateT SortSt Sem (ForInStep G6):=do
 let y <- elem' b c.2.2.2.1
 let z <- elem' a c.2.2.1
 let x <- lt' y z
 match x with
 |some fg=>
  if fg=true then
   elem' b c.2.2.2.1 >>= fun y=>
   if (c.2.2.2.1+1==b.size)=true then pure (.done (some (Fm a b (c.2.1.push y) c.2.2.1 (c.2.2.2.1+1)),c.2.1.push y,c.2.2.1,c.2.2.2.1+1,0,c.2.2.2.2.2+1))
   else if c.2.2.2.2.2+1 >= mg then pure (.done (none,c.2.1.push y,c.2.2.1,c.2.2.2.1+1,0,c.2.2.2.2.2+1)) else pure (.yield (none,c.2.1.push y,c.2.2.1,c.2.2.2.1+1,0,c.2.2.2.2.2+1))
  else
   elem' a c.2.2.1 >>= fun y=>
   if (c.2.2.1+1+1==a.size)=true then pure (.done (some (K0 a b (c.2.1.push y) (c.2.2.1+1) c.2.2.2.1),c.2.1.push y,c.2.2.1+1,c.2.2.2.1,c.2.2.2.2.1+1,0))
   else if c.2.2.2.2.1+1 >= mg then pure (.done (none,c.2.1.push y,c.2.2.1+1,c.2.2.2.1,c.2.2.2.2.1+1,0)) else pure (.yield (none,c.2.1.push y,c.2.2.1+1,c.2.2.2.1,c.2.2.2.2.1+1,0))
 |_=>pure (.done (some (Fm a b c.2.1 c.2.2.1 c.2.2.2.1),c.2.1,c.2.2.1,c.2.2.2.1,c.2.2.2.2.1,c.2.2.2.2.2))
noncomputable def P2 (a b:Array Keyed)(c:G7):StateT SortSt Sem (ForInStep G7):=if c.2.2.2.2.1 > 1 then PA a b c.2.1 c.2.2.1 c.2.2.2.1 (c.2.2.2.2.1-1) c.2.2.2.2.2.1 c.2.2.2.2.2.2 else PA a b c.2.1 c.2.2.1 c.2.2.2.1 c.2.2.2.2.1 c.2.2.2.2.2.1 c.2.2.2.2.2.2
noncomputable def PO (a b:Array Keyed)(c:G5):StateT SortSt Sem (ForInStep G5):=do
 let d <- forIn [0:a.size+b.size] ((none,c.2.1,c.2.2.1,c.2.2.2.1,0,0):G6) fun _ d=>P1 a b c.2.2.2.2 d
 match d.1 with
 |some r=>pure (.done (some r,d.2.1,d.2.2.1,d.2.2.2.1,c.2.2.2.2))
 |none=>do
  liftM (rule "list.sort.gallop")
  let e <- forIn [0:a.size+b.size] ((none,d.2.1,d.2.2.1,d.2.2.2.1,c.2.2.2.2+1,d.2.2.2.2.1,d.2.2.2.2.2):G7) fun _ e=>P2 a b e
  match e.1 with
  |some r=>pure (.done (some r,e.2.1,e.2.2.1,e.2.2.2.1,e.2.2.2.2.1))
  |none=>do
   Bf (e.2.2.2.2.1+1)
   pure (.yield (none,e.2.1,e.2.2.1,e.2.2.2.1,e.2.2.2.2.1+1))
theorem PQ (a b:Array Keyed):Kr a b=(do
 liftM (rule "list.sort.merge-lo")
 let y <- elem' b 0
 if (1==b.size)=true then pure (Fm a b #[y] 0 1)
 else if (0+1==a.size)=true then pure (K0 a b #[y] 0 1)
 else do
  let g <- get
  let c <- forIn [0:a.size+b.size] ((none,#[y],0,1,gallopOf g):G5) fun _ c=>PO a b c
  match c.1 with
  |some r=>pure r
  |none=>unsupported "internal:list.sort.merge-bound"):=by
 rw[Q0]
 refine congrArg (bind _) (funext fun _=>congrArg (bind _) (funext fun y=>?_))
 refine congrArg (ite _ _) (congrArg (ite _ _) (congrArg (bind _) (funext fun g=>?_)))
 refine congr (congrArg bind (congrArg (forIn _ _) (funext fun _=>funext fun c=>?_))) (funext fun c=>?_)
 ·unfold PO
  dsimp only
  refine congr (congrArg bind (congrArg (forIn _ _) (funext fun _=>funext fun d=>?_))) (funext fun d=>?_)
  ·unfold P1
   rfl
  ·cases d.1 with
   |some r=>rfl
   |none=>
    dsimp only
    refine congrArg (bind _) (funext fun _=>congr (congrArg bind (congrArg (forIn _ _) (funext fun _=>funext fun e=>?_))) (funext fun e=>?_))
    ·unfold P2 PA PB PC
     rfl
    ·cases e.1 with
     |some r=>rfl
     |none=>rfl
 ·cases c.1 with
  |some r=>rfl
  |none=>rfl
end aA
namespace aA
open PySem PyProof.Rows
section
variable {prog:Program} {w:World} {A:Around} {E:Value->Shared->Prop} {s:Shared} {a₀:Array Keyed} {κ:KeyKind} {kd:SortKind}
theorem BQ   {st:SortSt}  (hi:i<arr.size)(h:Q arr[i] st):wpS (model prog w) A E s (elem' arr i) Q st:=by
 rw[elem'_eq,getElem?_pos arr i hi]
 exact wpS_pure h
theorem IQ  {st:SortSt}  (h:Q () st):wpS (model prog w) A E s (rule n:StateT SortSt Sem Unit) Q st:=wpS_lift (wpAny_rule ⟨rfl,h⟩)
theorem GR (a:Array Keyed)(i j:Nat):(a.extract i j).toList=(a.toList.drop i).take (j-i):=by simp[List.extract_eq_take_drop]
theorem NL (a:Array Keyed)(i:Nat):(a.extract i a.size).toList=a.toList.drop i:=by
 rw[GR];exact List.take_of_length_le (by simp)
theorem Tz (a b out:Array Keyed)(ia ib:Nat):(Fm a b out ia ib).toList=out.toList++a.toList.drop ia++b.toList.drop ib:=by
 unfold Fm;rw[Array.toList_append,Array.toList_append,NL,NL]
theorem TB (a b out:Array Keyed)(ia ib:Nat):(K0 a b out ia ib).toList=out.toList++b.toList.drop ib++a.toList.drop ia:=by
 unfold K0;rw[Array.toList_append,Array.toList_append,NL,NL]
theorem LeK.refl (x:Keyed):LeK κ x x:=KeyOrd.kle_refl _
theorem LeK.trans  (h:LeK κ x y)(g:LeK κ y z):LeK κ x z:=KeyOrd.kle_trans h g
theorem V9 {a:Array Keyed}(sA:a.toList.Pairwise (LeK κ)){i j:Nat}(aU:i<=j)(hj:j<a.size):LeK κ a[i] a[j]:=by
 by_cases e:i=j
 ·subst e;exact LeK.refl _
 ·exact List.pairwise_iff_getElem.mp sA i j (by simpa using s!"") (by simpa using hj) s!""
theorem EC {a:Array Keyed}{i:Nat}{y:Keyed}(h:y∈a.toList.drop i):∃j,∃hj:j<a.size,i<=j/\y=a[j]:=by
 obtain⟨k,hk,e⟩:=List.mem_iff_getElem.mp h
 rw[List.getElem_drop]at e
 rw[List.length_drop]at hk
 exact⟨i+k,by simpa using (by simp at hk;lia),by lia,by rw[<-e];simp⟩
theorem TC {a:Array Keyed}{i k:Nat}{y:Keyed}(h:y∈(a.toList.drop i).take k):∃j,∃hj:i+j<a.size,j<k/\y=a[i+j]:=by
 obtain⟨j,hj,e⟩:=List.mem_iff_getElem.mp h
 rw[List.getElem_take,List.getElem_drop]at e
 rw[List.length_take,List.length_drop]at hj
 exact⟨j,by simp at hj;lia,by lia,by rw[<-e];simp⟩
theorem Kt {a:Array Keyed}(sA:a.toList.Pairwise (LeK κ)){i:Nat}(hi:i<a.size):∀y∈a.toList.drop i,LeK κ a[i] y:=fun y hy=>by
 obtain⟨j,hj,aU,rfl⟩:=EC hy
 exact V9 sA aU hj
theorem Aj_ {a:Array Keyed}{i:Nat}(hi:i<a.size):(a.toList.drop i).take 1=[a[i]]:=by
 rw[List.drop_eq_getElem_cons (by simpa using hi)];simp
section
variable {a b out:Array Keyed} {ia ib:Nat}
theorem MI.pushA (h:MI (LeK κ) a.toList b.toList out.toList ia ib)(sA:a.toList.Pairwise (LeK κ))(hi:ia<a.size)(hx:∀y∈b.toList.drop ib,LeK κ a[ia] y):MI (LeK κ) a.toList b.toList (out.push a[ia]).toList (ia+1) ib:=by
 have:=h.ta sA (k:=1) (by simp;lia) (by rw[Aj_ hi];intro x fZ y hy;rw[List.mem_singleton.mp fZ];exact hx y hy)
 rw[Aj_ hi]at this
 rw[Array.toList_push];exact this
theorem MI.pushB (h:MI (LeK κ) a.toList b.toList out.toList ia ib)(sB:b.toList.Pairwise (LeK κ))(hi:ib<b.size)(hx:∀y∈a.toList.drop ia,LeK κ b[ib] y):MI (LeK κ) a.toList b.toList (out.push b[ib]).toList ia (ib+1):=(h.swap.pushA sB hi hx).swap
theorem MI.extA (h:MI (LeK κ) a.toList b.toList out.toList ia ib)(sA:a.toList.Pairwise (LeK κ))  (hk:ia+k<=a.size)(hx:∀j,j<k->∀(hj:ia+j<a.size),∀y∈b.toList.drop ib,LeK κ a[ia+j] y):MI (LeK κ) a.toList b.toList (out++a.extract ia (ia+k)).toList (ia+k) ib:=by
 have:=h.ta sA (k:=k) (by simpa using hk) (fun x fZ y hy=>by
  obtain⟨j,hj,gJ,rfl⟩:=TC fZ
  exact hx j gJ hj y hy)
 rw[Array.toList_append,GR,show ia+k-ia=k by lia];exact this
theorem MI.extB (h:MI (LeK κ) a.toList b.toList out.toList ia ib)(sB:b.toList.Pairwise (LeK κ))  (hk:ib+k<=b.size)(hx:∀j,j<k->∀(hj:ib+j<b.size),∀y∈a.toList.drop ia,LeK κ b[ib+j] y):MI (LeK κ) a.toList b.toList (out++b.extract ib (ib+k)).toList ia (ib+k):=(h.swap.extA sB hk hx).swap
end
theorem F7   (hi:i<xs.size):KK κ xs i=KE κ xs[i]:=Xj (getElem?_pos xs i hi)
theorem Za  (hA:∀x∈a.toList,x∈a₀.toList)  (h:i+n<=a.size):InA a₀ a i n:=fun j hj=>⟨a[i+j],getElem?_pos _ _ s!"",hA _ (by simp)⟩
theorem NM    {st:SortSt}  (hO:LtOk kd κ a₀ prog w A E s)(hk:kindOf st=kd)(bE:key∈a₀.toList)(hA:∀x∈a.toList,x∈a₀.toList)(sA:∀i j (hi:i<a.size) (hj:j<a.size),base<=i->i<=j->j<base+n->LeK κ a[i] a[j])(hn:base+n<=a.size)(hh:hint<n)
  (h:∀k,k<=n->(∀i (hi:base+i<a.size),i<k->LeK κ a[base+i] key)->(∀i (hi:base+i<a.size),k<=i->i<n->κ.klt (KE κ key) (KE κ a[base+i]))->Q (some k) st):
  wpS (model prog w) A E s (Df false key a base n hint) Q st:=by
 refine PN hO hk bE (Za hA hn) hh (fun i j aU hj hb=>?_) (fun k jE h1 h2=>h k jE (fun i hi iE=>?_) (fun i hi iE bC=>?_))
 ·simp only[gB,Bool.false_eq_true,if_false,F7 (show base+i<a.size by lia),F7 (show base+j<a.size by lia),Bool.not_eq_true']at hb ⊢
  exact KeyOrd.kle_trans (sA _ _ s!"" s!"" s!"" s!"" s!"") hb
 ·have:=h1 i iE
  simp only[gB,Bool.false_eq_true,if_false,F7 hi,Bool.not_eq_true']at this
  exact this
 ·have:=h2 i iE bC
  simp only[gB,Bool.false_eq_true,if_false,F7 hi,Bool.not_eq_false']at this
  exact this
theorem NN    {st:SortSt}  (hO:LtOk kd κ a₀ prog w A E s)(hk:kindOf st=kd)(bE:key∈a₀.toList)(hA:∀x∈a.toList,x∈a₀.toList)(sA:∀i j (hi:i<a.size) (hj:j<a.size),base<=i->i<=j->j<base+n->LeK κ a[i] a[j])(hn:base+n<=a.size)(hh:hint<n)
  (h:∀k,k<=n->(∀i (hi:base+i<a.size),i<k->κ.klt (KE κ a[base+i]) (KE κ key))->(∀i (hi:base+i<a.size),k<=i->i<n->LeK κ key a[base+i])->Q (some k) st):
  wpS (model prog w) A E s (Df true key a base n hint) Q st:=by
 refine PN hO hk bE (Za hA hn) hh (fun i j aU hj hb=>?_) (fun k jE h1 h2=>h k jE (fun i hi iE=>?_) (fun i hi iE bC=>?_))
 ·simp only[gB,if_true,F7 (show base+i<a.size by lia),F7 (show base+j<a.size by lia)]at hb ⊢
  exact KeyOrd.klt_of_kle_of_klt (sA _ _ s!"" s!"" s!"" s!"" s!"") hb
 ·have:=h1 i iE
  simp only[gB,if_true,F7 hi]at this
  exact this
 ·have:=h2 i iE bC
  simp only[gB,if_true,F7 hi]at this
  exact this
theorem NO {a:Array Keyed}(sA:a.toList.Pairwise (LeK κ))(base n:Nat):∀i j (hi:i<a.size) (hj:j<a.size),base<=i->i<=j->j<base+n->LeK κ a[i] a[j]:=fun _ _ _ hj _ aU _=>V9 sA aU hj
structure MP (a₀:Array Keyed)(κ:KeyKind)(a b:Array Keyed):Prop where
 hA:∀x∈a.toList,x∈a₀.toList
 hB:∀x∈b.toList,x∈a₀.toList
 sA:a.toList.Pairwise (LeK κ)
 sB:b.toList.Pairwise (LeK κ)
 ha:1<=a.size
 hb:1<=b.size
 hf:∀y∈a.toList,LeK κ b[0] y
 hl:∀x∈b.toList,LeK κ x a[a.size-1]
section
variable {a b:Array Keyed}
theorem MP.done (M:MP a₀ κ a b)   (h:MI (LeK κ) a.toList b.toList out.toList ia ib)(he:a.size<=ia\/b.size<=ib):Mgd (LeK κ) a.toList b.toList (Fm a b out ia ib).toList:=by
 rw[Tz];exact h.done M.sA M.sB (by simpa using he)
theorem MP.last (M:MP a₀ κ a b)   (h:MI (LeK κ) a.toList b.toList out.toList ia ib)(he:ia+1=a.size):Mgd (LeK κ) a.toList b.toList (K0 a b out ia ib).toList:=by
 rw[TB]
 refine h.last M.sA M.sB (fun x hx y hy=>?_)
 obtain⟨j,hj,aU,rfl⟩:=EC hy
 have e:j=a.size-1:=by lia
 subst e
 exact M.hl x hx
noncomputable def MJ (κ:KeyKind)(a b:Array Keyed)(out:Array Keyed)(ia ib p:Nat):Prop:=MI (LeK κ) a.toList b.toList out.toList ia ib/\ia+1<a.size/\ib<b.size/\p<=ia+ib
theorem CK_ (hO:LtOk kd κ a₀ prog w A E s)(M:MP a₀ κ a b){st:SortSt}(hk:kindOf st=kd)   (h1:c.1=none)(hJ:MJ κ a b c.2.1 c.2.2.1 c.2.2.2.1 p)
  (h:∀d:G6,d.1=none->MJ κ a b d.2.1 d.2.2.1 d.2.2.2.1 (p+1)->Q (.yield d) st/\Q (.done d) st) (hd:∀(d:G6) x,d.1=some x->Mgd (LeK κ) a.toList b.toList x.toList->Q (.done d) st):
  wpS (model prog w) A E s (P1 a b mg c) Q st:=by
 obtain⟨c0,out,ia,ib,ac,bc⟩:=c
 obtain⟨hM,h2,h3,h4⟩:=hJ
 dsimp only at *
 unfold P1
 dsimp only
 refine wpS_bind (BQ h3 (wpS_bind (BQ (show ia<a.size by lia) (wpS_bind (hO _ _ _ _ (M.hB _ (by simp)) (M.hA _ (by simp)) hk ?_)))))
 cases e:κ.blt (KE κ b[ib]) (KE κ a[ia]) with
 |true=>
  dsimp only
  rw[if_pos rfl]
  have bq:=hM.pushB M.sB h3 (fun y hy=>LeK.trans (KeyOrd.kle_of_klt e) (Kt M.sA s!"" y hy))
  refine wpS_bind (BQ h3 ?_)
  by_cases hq:ib+1=b.size
  ·rw[if_pos (by simpa using hq)]
   exact wpS_pure (hd _ _ rfl (M.done bq (.inr s!"")))
  ·rw[if_neg (by simpa using hq)]
   have hh:=h (none,out.push b[ib],ia,ib+1,0,bc+1) rfl (show MJ κ a b (out.push b[ib]) ia (ib+1) (p+1) from ⟨bq,h2,by lia,by lia⟩)
   split
   ·exact wpS_pure hh.2
   ·exact wpS_pure hh.1
 |false=>
  dsimp only
  rw[if_neg (by simp)]
  have bq:=hM.pushA M.sA (show ia<a.size by lia) (fun y hy=>LeK.trans e (Kt M.sB h3 y hy))
  refine wpS_bind (BQ (show ia<a.size by lia) ?_)
  by_cases hq:ia+1+1=a.size
  ·rw[if_pos (by simpa using hq)]
   exact wpS_pure (hd _ _ rfl (M.last bq hq))
  ·rw[if_neg (by simpa using hq)]
   have hh:=h (none,out.push a[ia],ia+1,ib,ac+1,0) rfl (show MJ κ a b (out.push a[ia]) (ia+1) ib (p+1) from ⟨bq,by lia,h3,by lia⟩)
   split
   ·exact wpS_pure hh.2
   ·exact wpS_pure hh.1
theorem Cf_ (M:MP a₀ κ a b){st:SortSt}   (hM:MI (LeK κ) a.toList b.toList out.toList ia ib)(h2:ia+1<a.size)(h3:ib<b.size)(h4:p<=ia+ib)(aN:∀y∈b.toList.drop ib,LeK κ a[ia] y)
  (h:∀d:G7,d.1=none->MJ κ a b d.2.1 d.2.2.1 d.2.2.2.1 p->Q (.yield d) st/\Q (.done d) st) (hd:∀(d:G7) x,d.1=some x->Mgd (LeK κ) a.toList b.toList x.toList->Q (.done d) st):
  wpS (model prog w) A E s (PC a b out ia ib mg ac bc) Q st:=by
 unfold PC
 refine wpS_bind (BQ (show ia<a.size by lia) ?_)
 have bq:=hM.pushA M.sA (show ia<a.size by lia) aN
 by_cases hq:ia+1+1=a.size
 ·rw[if_pos (by simpa using hq)]
  exact wpS_pure (hd _ _ rfl (M.last bq hq))
 ·rw[if_neg (by simpa using hq)]
  have hh:=h (none,out.push a[ia],ia+1,ib,mg,ac,bc) rfl (show MJ κ a b (out.push a[ia]) (ia+1) ib p from ⟨bq,by lia,h3,by lia⟩)
  split
  ·exact wpS_pure hh.2
  ·exact wpS_pure hh.1
theorem Cg_ (hO:LtOk kd κ a₀ prog w A E s)(M:MP a₀ κ a b){st:SortSt}(hk:kindOf st=kd)   (hM:MI (LeK κ) a.toList b.toList out.toList ia ib)(h2:ia+1<a.size)(h3:ib<b.size)(h4:p<=ia+ib)(aN:∀y∈a.toList.drop ia,LeK κ b[ib] y)
  (h:∀d:G7,d.1=none->MJ κ a b d.2.1 d.2.2.1 d.2.2.2.1 p->Q (.yield d) st/\Q (.done d) st) (hd:∀(d:G7) x,d.1=some x->Mgd (LeK κ) a.toList b.toList x.toList->Q (.done d) st):
  wpS (model prog w) A E s (PB a b out ia ib mg ac bc) Q st:=by
 unfold PB
 refine wpS_bind (BQ h3 ?_)
 have bq:=hM.pushB M.sB h3 aN
 by_cases hq:ib+1=b.size
 ·rw[if_pos (by simpa using hq)]
  exact wpS_pure (hd _ _ rfl (M.done bq (.inr s!"")))
 ·rw[if_neg (by simpa using hq)]
  refine wpS_bind (BQ (show ia<a.size by lia) (wpS_bind (NN hO hk (M.hA _ (by simp)) M.hB (NO M.sB _ _) s!"" s!"" (fun k jE g1 g2=>?_))))
  dsimp only
  have fh:∀y∈b.toList.drop (ib+1+k),LeK κ a[ia] y:=fun y hy=>by
   obtain⟨j,hj,aU,rfl⟩:=EC hy
   have:=g2 (j-(ib+1)) s!"" s!"" s!""
   have e:ib+1+(j-(ib+1))=j:=by lia
   simp only[e]at this
   exact this
  by_cases cJ:k > 0
  ·rw[if_pos cJ]
   have cK:=bq.extB M.sB (k:=k) s!"" (fun j hj eB y hy=>LeK.trans (KeyOrd.kle_of_klt (g1 j eB hj)) (Kt M.sA s!"" y hy))
   by_cases bZ:ib+1+k=b.size
   ·rw[if_pos (by simpa using bZ)]
    exact wpS_pure (hd _ _ rfl (M.done cK (.inr s!"")))
   ·rw[if_neg (by simpa using bZ)]
    exact Cf_ M cK h2 s!"" s!"" fh h hd
  ·rw[if_neg cJ]
   have e:k=0:=by lia
   subst e
   exact Cf_ M bq h2 s!"" s!"" fh h hd
theorem SG.trans {st ag aQ:SortSt}(h:SG st ag)(g:SG ag aQ):SG st aQ:=⟨g.kd.trans h.kd,g.arr.trans h.arr,g.pe.trans h.pe,g.fa.trans h.fa⟩
theorem NQ  {st:SortSt}  (h:Q () (Gi st g)):wpS (model prog w) A E s (Bf g) Q st:=by
 rw[JL];exact wpS_modify h
theorem Ch_ (hO:LtOk kd κ a₀ prog w A E s)(M:MP a₀ κ a b){st:SortSt}(hk:kindOf st=kd)   (hJ:MJ κ a b out ia ib p)
  (h:∀(d:G7) ag,SG st ag->d.1=none->MJ κ a b d.2.1 d.2.2.1 d.2.2.2.1 p->Q (.yield d) ag/\Q (.done d) ag) (hd:∀(d:G7) x ag,SG st ag->d.1=some x->Mgd (LeK κ) a.toList b.toList x.toList->Q (.done d) ag):
  wpS (model prog w) A E s (PA a b out ia ib mg ac bc) Q st:=by
 obtain⟨hM,h2,h3,h4⟩:=hJ
 unfold PA
 refine wpS_bind (NQ ?_)
 have hG:SG st (Gi st mg):=(SG.refl st).set mg
 refine wpS_bind (BQ h3 (wpS_bind (NM hO (hG.kd.trans hk) (M.hB _ (by simp)) M.hA (NO M.sA _ _) s!"" s!"" (fun k jE g1 g2=>?_))))
 dsimp only
 have aN:∀y∈a.toList.drop (ia+k),LeK κ b[ib] y:=fun y hy=>by
  obtain⟨j,hj,aU,rfl⟩:=EC hy
  have:=g2 (j-ia) s!"" s!"" s!""
  have e:ia+(j-ia)=j:=by lia
  simp only[e]at this
  exact KeyOrd.kle_of_klt this
 by_cases cJ:k > 0
 ·rw[if_pos cJ]
  have cK:=hM.extA M.sA (k:=k) s!"" (fun j hj eB y hy=>LeK.trans (g1 j eB hj) (Kt M.sB h3 y hy))
  by_cases hq:ia+k+1=a.size
  ·rw[if_pos (by simpa using hq)]
   exact wpS_pure (hd _ _ _ hG rfl (M.last cK hq))
  ·rw[if_neg (by simpa using hq)]
   by_cases bZ:ia+k=a.size
   ·rw[if_pos (by simpa using bZ)]
    exact wpS_pure (hd _ _ _ hG rfl (M.done cK (.inl s!"")))
   ·rw[if_neg (by simpa using bZ)]
    exact Cg_ hO M (hG.kd.trans hk) cK s!"" h3 s!"" aN (fun d=>h d _ hG) (fun d x=>hd d x _ hG)
 ·rw[if_neg cJ]
  have e:k=0:=by lia
  subst e
  exact Cg_ hO M (hG.kd.trans hk) hM h2 h3 h4 aN (fun d=>h d _ hG) (fun d x=>hd d x _ hG)
theorem CL_ (hO:LtOk kd κ a₀ prog w A E s)(M:MP a₀ κ a b){st:SortSt}(hk:kindOf st=kd)   (hJ:MJ κ a b c.2.1 c.2.2.1 c.2.2.2.1 p)
  (h:∀(d:G7) ag,SG st ag->d.1=none->MJ κ a b d.2.1 d.2.2.1 d.2.2.2.1 p->Q (.yield d) ag/\Q (.done d) ag) (hd:∀(d:G7) x ag,SG st ag->d.1=some x->Mgd (LeK κ) a.toList b.toList x.toList->Q (.done d) ag):
  wpS (model prog w) A E s (P2 a b c) Q st:=by
 unfold P2
 split
 ·exact Ch_ hO M hk hJ h hd
 ·exact Ch_ hO M hk hJ h hd
theorem CM_ (hO:LtOk kd κ a₀ prog w A E s)(M:MP a₀ κ a b){st:SortSt}(hk:kindOf st=kd)   (hJ:MJ κ a b c.2.1 c.2.2.1 c.2.2.2.1 p)
  (h:∀(d:G5) ag,SG st ag->d.1=none->MJ κ a b d.2.1 d.2.2.1 d.2.2.2.1 (p+1)->Q (.yield d) ag) (hd:∀(d:G5) x ag,SG st ag->d.1=some x->Mgd (LeK κ) a.toList b.toList x.toList->Q (.done d) ag):
  wpS (model prog w) A E s (PO a b c) Q st:=by
 have cc:1<=a.size+b.size:=by have:=M.ha;lia
 unfold PO
 refine wpS_bind (wpS_mono (wpS_forRange (I:=fun x d ag=>ag=st/\d.1=none/\MJ κ a b d.2.1 d.2.2.1 d.2.2.2.1 (p+x))
   (Q:=fun d ag=>ag=st/\((d.1=none/\MJ κ a b d.2.1 d.2.2.1 d.2.2.2.1 (p+1)) \/ ∃x,d.1=some x/\Mgd (LeK κ) a.toList b.toList x.toList)) ?step ?fin ⟨rfl,rfl,hJ⟩) ?post)
 case step=>
  rintro x d ag _ hx ⟨rfl,h1,h2⟩
  refine CK_ hO M hk h1 h2 (fun d' g1 g2=>⟨⟨rfl,g1,g2⟩,rfl,.inl ⟨g1,g2.1,g2.2.1,g2.2.2.1,?_⟩⟩) (fun d' x g1 g2=>⟨rfl,.inr ⟨x,g1,g2⟩⟩)
  have:=g2.2.2.2;lia
 case fin=>
  rintro d ag ⟨rfl,h1,h2⟩
  refine⟨rfl,.inl ⟨h1,h2.1,h2.2.1,h2.2.2.1,?_⟩⟩
  have:=h2.2.2.2;lia
 case post=>
  rintro d ag ⟨rfl,hh⟩
  rcases hh with ⟨h1,h2⟩|⟨x,h1,h2⟩
  ·rw[h1]
   dsimp only
   refine wpS_bind (IQ ?_)
   refine wpS_bind (wpS_mono (wpS_forRange (I:=fun x d aQ=>SG ag aQ/\d.1=none/\MJ κ a b d.2.1 d.2.2.1 d.2.2.2.1 (p+1))
    (Q:=fun d aQ=>SG ag aQ/\((d.1=none/\MJ κ a b d.2.1 d.2.2.1 d.2.2.2.1 (p+1)) \/ ∃x,d.1=some x/\Mgd (LeK κ) a.toList b.toList x.toList)) ?step2 ?fin2 ⟨SG.refl _,rfl,h2⟩) ?post2)
   case step2=>
    rintro x e aQ _ hx ⟨g0,g1,g2⟩
    exact CL_ hO M (g0.kd.trans hk) g2 (fun d' dJ k0 k1 k2=>⟨⟨g0.trans k0,k1,k2⟩,g0.trans k0,.inl ⟨k1,k2⟩⟩) (fun d' x dJ k0 k1 k2=>⟨g0.trans k0,.inr ⟨x,k1,k2⟩⟩)
   case fin2=>
    rintro e aQ ⟨g0,g1,g2⟩
    exact⟨g0,.inl ⟨g1,g2⟩⟩
   case post2=>
    rintro e aQ ⟨g0,hh⟩
    rcases hh with ⟨g1,g2⟩|⟨x,g1,g2⟩
    ·rw[g1]
     dsimp only
     refine wpS_bind (NQ (wpS_pure ?_))
     exact h (none,e.2.1,e.2.2.1,e.2.2.2.1,e.2.2.2.2.1+1) _ (g0.set _) rfl g2
    ·rw[g1]
     dsimp only
     exact wpS_pure (hd _ x _ g0 rfl g2)
  ·rw[h1]
   dsimp only
   exact wpS_pure (hd _ x _ (SG.refl _) rfl h2)
theorem TF {st:SortSt}  (hO:LtOk kd κ a₀ prog w A E s)(M:MP a₀ κ a b)(hk:kindOf st=kd)
  (h:∀r ag,SG st ag->Mgd (LeK κ) a.toList b.toList r.toList->Q r ag):wpS (model prog w) A E s (Kr a b) Q st:=by
 have ha:=M.ha
 have hb:=M.hb
 rw[PQ]
 refine wpS_bind (IQ (wpS_bind (BQ hb ?_)))
 have hM:MI (LeK κ) a.toList b.toList (#[b[0]]:Array Keyed).toList 0 1:=MI.pushB (out := #[]) (MI.start _ _) M.sB hb (by simpa using M.hf)
 by_cases h1:1=b.size
 ·rw[if_pos (by simpa using h1)]
  exact wpS_pure (h _ _ (SG.refl _) (M.done hM (.inr s!"")))
 ·rw[if_neg (by simpa using h1)]
  by_cases h2:0+1=a.size
  ·rw[if_pos (by simpa using h2)]
   exact wpS_pure (h _ _ (SG.refl _) (M.last hM h2))
  ·rw[if_neg (by simpa using h2)]
   refine wpS_bind (wpS_get ?_)
   refine wpS_bind (wpS_mono (wpS_forRange (I:=fun x c ag=>SG st ag/\c.1=none/\MJ κ a b c.2.1 c.2.2.1 c.2.2.2.1 (1+x))
    (Q:=fun c ag=>SG st ag/\∃x,c.1=some x/\Mgd (LeK κ) a.toList b.toList x.toList) ?step ?fin ⟨SG.refl _,rfl,show MJ κ a b #[b[0]] 0 1 (1+0) from ⟨hM,by lia,by lia,by lia⟩⟩) ?post)
   case step=>
    rintro x c ag _ hx ⟨g0,g1,g2⟩
    exact CM_ hO M (g0.kd.trans hk) g2 (fun d aM k0 k1 k2=>⟨g0.trans k0,k1,k2⟩) (fun d x aM k0 k1 k2=>⟨g0.trans k0,x,k1,k2⟩)
   case fin=>
    rintro c ag ⟨g0,g1,g2⟩
    have:=g2.2.1;have:=g2.2.2.1;have:=g2.2.2.2
    lia
   case post=>
    rintro c ag ⟨g0,x,g1,g2⟩
    rw[g1]
    dsimp only
    exact wpS_pure (h x ag g0 g2)
end
end
end aA
namespace aA
open PySem PyProof.Rows
noncomputable def Ku:Array Keyed->Array Keyed->StateT SortSt Sem (Array Keyed):=sortPriv% PySem.Builtin.mergeHi
noncomputable def doneH (a b out:Array Keyed)(na nb:Nat):Array Keyed:=a.extract 0 na++b.extract 0 nb++out.reverse
noncomputable def firstB (a b out:Array Keyed)(na nb:Nat):Array Keyed:=b.extract 0 nb++a.extract 0 na++out.reverse
theorem Q1 (a b:Array Keyed):Ku a b=(do
 rule "list.sort.merge-hi"
 let mut na:=a.size-1
 let mut nb:=b.size
 let mut out:Array Keyed := #[<-elem' a na]
 if na==0 then return doneH a b out na nb
 if nb==1 then return firstB a b out na nb
 let mut minGallop:=gallopOf ( <- get)
 for _ in [0:a.size+b.size] do
  let mut acount:=0
  let mut bcount:=0
  for _ in [0:a.size+b.size] do
   let some fi <- lt' ( <- elem' b (nb-1)) ( <- elem' a (na-1))|return doneH a b out na nb
   if fi then
    na:=na-1;out:=out.push ( <- elem' a na);acount:=acount+1;bcount:=0
    if na==0 then return doneH a b out na nb
    if acount >= minGallop then break
   else
    nb:=nb-1;out:=out.push ( <- elem' b nb);bcount:=bcount+1;acount:=0
    if nb==1 then return firstB a b out na nb
    if bcount >= minGallop then break
  rule "list.sort.gallop"
  minGallop:=minGallop+1
  for _ in [0:a.size+b.size] do
   if minGallop > 1 then minGallop:=minGallop-1
   Bf minGallop
   let some dr <- Df false ( <- elem' b (nb-1)) a 0 na (na-1)|return doneH a b out na nb
   let k:=na-dr
   acount:=k
   if k > 0 then
    out:=out++(a.extract dr na).reverse;na:=dr
    if na==0 then return doneH a b out na nb
   nb:=nb-1;out:=out.push ( <- elem' b nb)
   if nb==1 then return firstB a b out na nb
   let some dr <- Df true ( <- elem' a (na-1)) b 0 nb (nb-1)|return doneH a b out na nb
   let k:=nb-dr
   bcount:=k
   if k > 0 then
    out:=out++(b.extract dr nb).reverse;nb:=dr
    if nb==1 then return firstB a b out na nb
    if nb==0 then return doneH a b out na nb
   na:=na-1;out:=out.push ( <- elem' a na)
   if na==0 then return doneH a b out na nb
   if acount<7&&bcount<7 then break
  minGallop:=minGallop+1
  Bf minGallop
 unsupported "internal:list.sort.merge-bound"):=rfl
noncomputable abbrev H5:=Option (Array Keyed)×Nat×Nat×Array Keyed×Nat
noncomputable abbrev H6:=Option (Array Keyed)×Nat×Nat×Array Keyed×Nat×Nat
noncomputable abbrev H7:=Option (Array Keyed)×Nat×Nat×Array Keyed×Nat×Nat×Nat
noncomputable def HC (a b out:Array Keyed)(na nb mg ac bc:Nat):StateT SortSt Sem (ForInStep H7):=do
 let y <- elem' a (na-1)
 if (na-1==0)=true then pure (.done (some (doneH a b (out.push y) (na-1) nb),na-1,nb,out.push y,mg,ac,bc))
 else if (decide (ac<7)&&decide (bc<7))=true then pure (.done (none,na-1,nb,out.push y,mg,ac,bc)) else pure (.yield (none,na-1,nb,out.push y,mg,ac,bc))
noncomputable def HB (a b out:Array Keyed)(na nb mg ac bc:Nat):StateT SortSt Sem (ForInStep H7):=do
 let y <- elem' b (nb-1)
 if (nb-1==1)=true then pure (.done (some (firstB a b (out.push y) na (nb-1)),na,nb-1,out.push y,mg,ac,bc))
 else do
  let z <- elem' a (na-1)
  let x <- Df true z b 0 (nb-1) (nb-1-1)
  match x with
  |some t=>if nb-1-t > 0 then (if (t==1)=true then pure (.done (some (firstB a b (out.push y++(b.extract t (nb-1)).reverse) na t),na,t,out.push y++(b.extract t (nb-1)).reverse,mg,ac,nb-1-t)) else if (t==0)=true then pure (.done (some (doneH a b (out.push y++(b.extract t (nb-1)).reverse) na t),na,t,out.push y++(b.extract t (nb-1)).reverse,mg,ac,nb-1-t)) else HC a b (out.push y++(b.extract t (nb-1)).reverse) na t mg ac (nb-1-t)) else HC a b (out.push y) na (nb-1) mg ac (nb-1-t)
  |_=>pure (.done (some (doneH a b (out.push y) na (nb-1)),na,nb-1,out.push y,mg,ac,bc))
noncomputable def HA (a b out:Array Keyed)(na nb mg ac bc:Nat):StateT SortSt Sem (ForInStep H7):=do
 Bf mg
 let y <- elem' b (nb-1)
 let x <- Df false y a 0 na (na-1)
 match x with
 |some t=>if na-t > 0 then (if (t==0)=true then pure (.done (some (doneH a b (out++(a.extract t na).reverse) t nb),t,nb,out++(a.extract t na).reverse,mg,na-t,bc)) else HB a b (out++(a.extract t na).reverse) t nb mg (na-t) bc) else HB a b out na nb mg (na-t) bc
 |_=>pure (.done (some (doneH a b out na nb),na,nb,out,mg,ac,bc))
noncomputable def H1 (a b:Array Keyed)(mg:Nat)(c:H6):StateT SortSt Sem (ForInStep H6):=do
 let y <- elem' b (c.2.2.1-1)
 let z <- elem' a (c.2.1-1)
 let x <- lt' y z
 match x with
 |some fi=>
  if fi=true then
   elem' a (c.2.1-1) >>= fun y=>
   if (c.2.1-1==0)=true then pure (.done (some (doneH a b (c.2.2.2.1.push y) (c.2.1-1) c.2.2.1),c.2.1-1,c.2.2.1,c.2.2.2.1.push y,c.2.2.2.2.1+1,0))
   else if c.2.2.2.2.1+1 >= mg then pure (.done (none,c.2.1-1,c.2.2.1,c.2.2.2.1.push y,c.2.2.2.2.1+1,0)) else pure (.yield (none,c.2.1-1,c.2.2.1,c.2.2.2.1.push y,c.2.2.2.2.1+1,0))
  else
   elem' b (c.2.2.1-1) >>= fun y=>
   if (c.2.2.1-1==1)=true then pure (.done (some (firstB a b (c.2.2.2.1.push y) c.2.1 (c.2.2.1-1)),c.2.1,c.2.2.1-1,c.2.2.2.1.push y,0,c.2.2.2.2.2+1))
   else if c.2.2.2.2.2+1 >= mg then pure (.done (none,c.2.1,c.2.2.1-1,c.2.2.2.1.push y,0,c.2.2.2.2.2+1)) else pure (.yield (none,c.2.1,c.2.2.1-1,c.2.2.2.1.push y,0,c.2.2.2.2.2+1))
 |_=>pure (.done (some (doneH a b c.2.2.2.1 c.2.1 c.2.2.1),c.2.1,c.2.2.1,c.2.2.2.1,c.2.2.2.2.1,c.2.2.2.2.2))
noncomputable def H2 (a b:Array Keyed)(c:H7):StateT SortSt Sem (ForInStep H7):=if c.2.2.2.2.1 > 1 then HA a b c.2.2.2.1 c.2.1 c.2.2.1 (c.2.2.2.2.1-1) c.2.2.2.2.2.1 c.2.2.2.2.2.2 else HA a b c.2.2.2.1 c.2.1 c.2.2.1 c.2.2.2.2.1 c.2.2.2.2.2.1 c.2.2.2.2.2.2
noncomputable def HO (a b:Array Keyed)(c:H5):StateT SortSt Sem (ForInStep H5):=do
 let d <- forIn [0:a.size+b.size] ((none,c.2.1,c.2.2.1,c.2.2.2.1,0,0):H6) fun _ d=>H1 a b c.2.2.2.2 d
 match d.1 with
 |some r=>pure (.done (some r,d.2.1,d.2.2.1,d.2.2.2.1,c.2.2.2.2))
 |none=>do
  liftM (rule "list.sort.gallop")
  let e <- forIn [0:a.size+b.size] ((none,d.2.1,d.2.2.1,d.2.2.2.1,c.2.2.2.2+1,d.2.2.2.2.1,d.2.2.2.2.2):H7) fun _ e=>H2 a b e
  match e.1 with
  |some r=>pure (.done (some r,e.2.1,e.2.2.1,e.2.2.2.1,e.2.2.2.2.1))
  |none=>do
   Bf (e.2.2.2.2.1+1)
   pure (.yield (none,e.2.1,e.2.2.1,e.2.2.2.1,e.2.2.2.2.1+1))
theorem PR (a b:Array Keyed):Ku a b=(do
 liftM (rule "list.sort.merge-hi")
 let y <- elem' a (a.size-1)
 if (a.size-1==0)=true then pure (doneH a b #[y] (a.size-1) b.size)
 else if (b.size==1)=true then pure (firstB a b #[y] (a.size-1) b.size)
 else do
  let g <- get
  let c <- forIn [0:a.size+b.size] ((none,a.size-1,b.size,#[y],gallopOf g):H5) fun _ c=>HO a b c
  match c.1 with
  |some r=>pure r
  |none=>unsupported "internal:list.sort.merge-bound"):=by
 rw[Q1]
 refine congrArg (bind _) (funext fun _=>congrArg (bind _) (funext fun y=>?_))
 refine congrArg (ite _ _) (congrArg (ite _ _) (congrArg (bind _) (funext fun g=>?_)))
 refine congr (congrArg bind (congrArg (forIn _ _) (funext fun _=>funext fun c=>?_))) (funext fun c=>?_)
 ·unfold HO
  dsimp only
  refine congr (congrArg bind (congrArg (forIn _ _) (funext fun _=>funext fun d=>?_))) (funext fun d=>?_)
  ·unfold H1
   rfl
  ·cases d.1 with
   |some r=>rfl
   |none=>
    dsimp only
    refine congrArg (bind _) (funext fun _=>congr (congrArg bind (congrArg (forIn _ _) (funext fun _=>funext fun e=>?_))) (funext fun e=>?_))
    ·unfold H2 HA HB HC
     rfl
    ·cases e.1 with
     |some r=>rfl
     |none=>rfl
 ·cases c.1 with
  |some r=>rfl
  |none=>rfl
section
variable {α:Type} {R:α->α->Prop} {A B:List α}
theorem K1 (A:List α)  (h:n<=A.length):A.reverse.drop (A.length-n)=(A.take n).reverse:=by
 rw[List.drop_reverse,show A.length-(A.length-n)=n by lia]
theorem Wa (A:List α)  (h:n<=A.length)(ht:t<=n):(A.reverse.drop (A.length-n)).take (n-t)=((A.take n).drop t).reverse:=by
 rw[K1 A h,List.take_reverse,List.length_take,show min n A.length-(n-t)=t by lia]
theorem Mgd.rev  (h:Mgd (fun x y=>R y x) B.reverse A.reverse r.reverse):Mgd R A B r:=by
 refine⟨?_,List.pairwise_reverse.mp h.2⟩
 have:=h.1
 rw[<-List.reverse_append]at this
 exact ((List.reverse_perm r).symm.trans this).trans (List.reverse_perm _)
end
section
variable {prog:Program} {w:World} {A:Around} {E:Value->Shared->Prop} {s:Shared} {a₀:Array Keyed} {κ:KeyKind} {kd:SortKind} {a b out:Array Keyed} {na nb:Nat}
structure MH (κ:KeyKind)(a b out:Array Keyed)(na nb:Nat):Prop where
 ha:na<=a.size
 hb:nb<=b.size
 mi:MI (fun x y=>LeK κ y x) a.toList.reverse b.toList.reverse out.toList (a.toList.length-na) (b.toList.length-nb)
theorem MH.swap (h:MH κ a b out na nb):MH κ b a out nb na:=⟨h.hb,h.ha,h.mi.swap⟩
theorem Wb   (h:x∈(a.toList.take na).drop t):∃j,∃hj:j<a.size,t<=j/\j<na/\x=a[j]:=by
 obtain⟨k,hk,e⟩:=List.mem_iff_getElem.mp h
 rw[List.getElem_drop,List.getElem_take]at e
 rw[List.length_drop,List.length_take]at hk
 exact⟨t+k,by simp at hk;lia,by lia,by lia,by rw[<-e];simp⟩
theorem SA  (h:x∈a.toList.take na):∃j,∃hj:j<a.size,j<na/\x=a[j]:=by
 obtain⟨j,hj,_,h2,e⟩:=Wb (t:=0) (by simpa using h)
 exact⟨j,hj,h2,e⟩
theorem MH.extA (h:MH κ a b out na nb)(sA:a.toList.Pairwise (LeK κ))  (ht:t<=na)(hx:∀j (hj:j<a.size),t<=j->j<na->∀y∈b.toList.take nb,LeK κ y a[j]):MH κ a b (out++(a.extract t na).reverse) t nb:=by
 have hna:=h.ha
 have hl:a.toList.length=a.size:=Array.length_toList
 have:=h.mi.ta (List.pairwise_reverse.mpr sA) (k:=na-t) (by rw[List.length_reverse];lia) (by
  rw[Wa _ s!"" ht,K1 _ (by have:=h.hb;simpa using this)]
  intro x fZ y hy
  obtain⟨j,hj,h1,h2,rfl⟩:=Wb (List.mem_reverse.mp fZ)
  exact hx j hj h1 h2 y (List.mem_reverse.mp hy))
 rw[Wa _ s!"" ht,show a.toList.length-na+(na-t)=a.toList.length-t by lia]at this
 refine⟨by lia,h.hb,?_⟩
 rw[Array.toList_append,Array.toList_reverse,GR,show (List.drop t a.toList).take (na-t)=(a.toList.take na).drop t by rw[List.drop_take]]
 exact this
theorem MH.extB (h:MH κ a b out na nb)(sB:b.toList.Pairwise (LeK κ))  (ht:t<=nb)(hx:∀j (hj:j<b.size),t<=j->j<nb->∀y∈a.toList.take na,LeK κ y b[j]):MH κ a b (out++(b.extract t nb).reverse) na t:=(h.swap.extA sB ht hx).swap
theorem MH.pushA (h:MH κ a b out na nb)(sA:a.toList.Pairwise (LeK κ))(h1:1<=na)(hi:na-1<a.size)(hx:∀y∈b.toList.take nb,LeK κ y a[na-1]):MH κ a b (out.push a[na-1]) (na-1) nb:=by
 have hna:=h.ha
 have:=h.extA sA (t:=na-1) s!"" (fun j hj g1 g2 y hy=>by (have e:j=na-1:=by lia);subst e;exact hx y hy)
 have e:(a.extract (na-1) na).reverse = #[a[na-1]]:=by
  apply Array.ext'
  rw[Array.toList_reverse,GR,show na-(na-1)=1 by lia,Aj_ hi];rfl
 rw[e]at this
 simpa using this
theorem MH.pushB (h:MH κ a b out na nb)(sB:b.toList.Pairwise (LeK κ))(h1:1<=nb)(hi:nb-1<b.size)(hx:∀y∈a.toList.take na,LeK κ y b[nb-1]):MH κ a b (out.push b[nb-1]) na (nb-1):=(h.swap.pushA sB h1 hi hx).swap
theorem Ci_ (a:Array Keyed)(n:Nat):(a.extract 0 n).toList=a.toList.take n:=by rw[GR];simp
theorem MP.doneH (M:MP a₀ κ a b)(h:MH κ a b out na nb)(he:na=0\/nb=0):Mgd (LeK κ) a.toList b.toList (doneH a b out na nb).toList:=by
 apply Mgd.rev
 have hA:=h.ha
 have hB:=h.hb
 have:=h.mi.swap.done (List.pairwise_reverse.mpr M.sB) (List.pairwise_reverse.mpr M.sA) (by simp only[List.length_reverse];simp only[Array.length_toList];lia)
 rw[K1 _ (by simpa using hB),K1 _ (by simpa using hA)]at this
 have e:(aA.doneH a b out na nb).toList.reverse=out.toList++(b.toList.take nb).reverse++(a.toList.take na).reverse:=by
  unfold aA.doneH
  simp only[Array.toList_append,Ci_,Array.toList_reverse,List.reverse_append,List.reverse_reverse,List.append_assoc]
 rw[e];exact this
theorem MP.firstB (M:MP a₀ κ a b)(h:MH κ a b out na nb)(he:nb=1):Mgd (LeK κ) a.toList b.toList (firstB a b out na nb).toList:=by
 apply Mgd.rev
 have hA:=h.ha
 have hB:=h.hb
 have:=h.mi.swap.last (List.pairwise_reverse.mpr M.sB) (List.pairwise_reverse.mpr M.sA) (by
  rw[K1 _ (by simpa using hB)]
  intro x hx y hy
  obtain⟨j,hj,h2,rfl⟩:=SA (List.mem_reverse.mp hy)
  have e:j=0:=by lia
  subst e
  exact M.hf x (List.mem_reverse.mp hx))
 rw[K1 _ (by simpa using hA),K1 _ (by simpa using hB)]at this
 have e:(aA.firstB a b out na nb).toList.reverse=out.toList++(a.toList.take na).reverse++(b.toList.take nb).reverse:=by
  unfold aA.firstB
  simp only[Array.toList_append,Ci_,Array.toList_reverse,List.reverse_append,List.reverse_reverse,List.append_assoc]
 rw[e];exact this
theorem Kv (sA:a.toList.Pairwise (LeK κ))(hi:na-1<a.size):∀y∈a.toList.take na,LeK κ y a[na-1]:=fun y hy=>by
 obtain⟨j,hj,h2,rfl⟩:=SA hy
 exact V9 sA s!"" hi
noncomputable def MHJ (κ:KeyKind)(a b out:Array Keyed)(na nb p:Nat):Prop:=MH κ a b out na nb/\1<=na/\2<=nb/\na+nb+p<=a.size+b.size
theorem CN_ (hO:LtOk kd κ a₀ prog w A E s)(M:MP a₀ κ a b){st:SortSt}(hk:kindOf st=kd)   (h1:c.1=none)(hJ:MHJ κ a b c.2.2.2.1 c.2.1 c.2.2.1 p)
  (h:∀d:H6,d.1=none->MHJ κ a b d.2.2.2.1 d.2.1 d.2.2.1 (p+1)->Q (.yield d) st/\Q (.done d) st) (hd:∀(d:H6) x,d.1=some x->Mgd (LeK κ) a.toList b.toList x.toList->Q (.done d) st):
  wpS (model prog w) A E s (H1 a b mg c) Q st:=by
 obtain⟨c0,na,nb,out,ac,bc⟩:=c
 obtain⟨hM,h2,h3,h4⟩:=hJ
 dsimp only at *
 have hA:=hM.ha
 have hB:=hM.hb
 unfold H1
 dsimp only
 refine wpS_bind (BQ (show nb-1<b.size by lia) (wpS_bind (BQ (show na-1<a.size by lia) (wpS_bind (hO _ _ _ _ (M.hB _ (by simp)) (M.hA _ (by simp)) hk ?_)))))
 cases e:κ.blt (KE κ b[nb-1]) (KE κ a[na-1]) with
 |true=>
  dsimp only
  rw[if_pos rfl]
  have bq:=hM.pushA M.sA h2 s!"" (fun y hy=>LeK.trans (Kv M.sB s!"" y hy) (KeyOrd.kle_of_klt e))
  refine wpS_bind (BQ (show na-1<a.size by lia) ?_)
  by_cases hq:na-1=0
  ·rw[if_pos (by simpa using hq)]
   exact wpS_pure (hd _ _ rfl (M.doneH bq (.inl hq)))
  ·rw[if_neg (by simpa using hq)]
   have hh:=h (none,na-1,nb,out.push a[na-1],ac+1,0) rfl (show MHJ κ a b (out.push a[na-1]) (na-1) nb (p+1) from ⟨bq,by lia,h3,by lia⟩)
   split
   ·exact wpS_pure hh.2
   ·exact wpS_pure hh.1
 |false=>
  dsimp only
  rw[if_neg (by simp)]
  have bq:=hM.pushB M.sB s!"" s!"" (fun y hy=>LeK.trans (Kv M.sA s!"" y hy) e)
  refine wpS_bind (BQ (show nb-1<b.size by lia) ?_)
  by_cases hq:nb-1=1
  ·rw[if_pos (by simpa using hq)]
   exact wpS_pure (hd _ _ rfl (M.firstB bq hq))
  ·rw[if_neg (by simpa using hq)]
   have hh:=h (none,na,nb-1,out.push b[nb-1],0,bc+1) rfl (show MHJ κ a b (out.push b[nb-1]) na (nb-1) (p+1) from ⟨bq,h2,by lia,by lia⟩)
   split
   ·exact wpS_pure hh.2
   ·exact wpS_pure hh.1
theorem Cj_ (M:MP a₀ κ a b){st:SortSt}  (hM:MH κ a b out na nb)(h2:1<=na)(h3:2<=nb)(h4:na+nb+p<=a.size+b.size)(hi:na-1<a.size)(aN:∀y∈b.toList.take nb,LeK κ y a[na-1])
  (h:∀d:H7,d.1=none->MHJ κ a b d.2.2.2.1 d.2.1 d.2.2.1 p->Q (.yield d) st/\Q (.done d) st) (hd:∀(d:H7) x,d.1=some x->Mgd (LeK κ) a.toList b.toList x.toList->Q (.done d) st):
  wpS (model prog w) A E s (HC a b out na nb mg ac bc) Q st:=by
 unfold HC
 refine wpS_bind (BQ hi ?_)
 have bq:=hM.pushA M.sA h2 hi aN
 by_cases hq:na-1=0
 ·rw[if_pos (by simpa using hq)]
  exact wpS_pure (hd _ _ rfl (M.doneH bq (.inl hq)))
 ·rw[if_neg (by simpa using hq)]
  have hh:=h (none,na-1,nb,out.push a[na-1],mg,ac,bc) rfl (show MHJ κ a b (out.push a[na-1]) (na-1) nb p from ⟨bq,by lia,h3,by lia⟩)
  split
  ·exact wpS_pure hh.2
  ·exact wpS_pure hh.1
theorem Ck_ (hO:LtOk kd κ a₀ prog w A E s)(M:MP a₀ κ a b){st:SortSt}(hk:kindOf st=kd)  (hM:MH κ a b out na nb)(h2:1<=na)(h3:2<=nb)(h4:na+nb+p<=a.size+b.size)(hi:nb-1<b.size)(aN:∀y∈a.toList.take na,LeK κ y b[nb-1])
  (h:∀d:H7,d.1=none->MHJ κ a b d.2.2.2.1 d.2.1 d.2.2.1 p->Q (.yield d) st/\Q (.done d) st) (hd:∀(d:H7) x,d.1=some x->Mgd (LeK κ) a.toList b.toList x.toList->Q (.done d) st):
  wpS (model prog w) A E s (HB a b out na nb mg ac bc) Q st:=by
 unfold HB
 have hA:=hM.ha
 have hB:=hM.hb
 refine wpS_bind (BQ hi ?_)
 have bq:=hM.pushB M.sB s!"" hi aN
 by_cases hq:nb-1=1
 ·rw[if_pos (by simpa using hq)]
  exact wpS_pure (hd _ _ rfl (M.firstB bq hq))
 ·rw[if_neg (by simpa using hq)]
  refine wpS_bind (BQ (show na-1<a.size by lia) (wpS_bind (NN hO hk (M.hA _ (by simp)) M.hB (NO M.sB _ _) s!"" s!"" (fun t kr g1 g2=>?_))))
  dsimp only
  have fh:∀y∈b.toList.take t,LeK κ y a[na-1]:=fun y hy=>by
   obtain⟨j,hj,aU,rfl⟩:=SA hy
   have:=g1 j s!"" aU
   simp only[Nat.zero_add]at this
   exact KeyOrd.kle_of_klt this
  by_cases cJ:nb-1-t > 0
  ·rw[if_pos cJ]
   have cK:=bq.extB M.sB (t:=t) s!"" (fun j hj ng nh y hy=>by
    have:=g2 j s!"" ng nh
    simp only[Nat.zero_add]at this
    exact LeK.trans (Kv M.sA s!"" y hy) this)
   by_cases bZ:t=1
   ·rw[if_pos (by simpa using bZ)]
    exact wpS_pure (hd _ _ rfl (M.firstB cK bZ))
   ·rw[if_neg (by simpa using bZ)]
    by_cases gO:t=0
    ·rw[if_pos (by simpa using gO)]
     exact wpS_pure (hd _ _ rfl (M.doneH cK (.inr gO)))
    ·rw[if_neg (by simpa using gO)]
     exact Cj_ M cK h2 s!"" s!"" s!"" fh h hd
  ·rw[if_neg cJ]
   have e:t=nb-1:=by lia
   subst e
   exact Cj_ M bq h2 s!"" s!"" s!"" fh h hd
theorem Cl_ (hO:LtOk kd κ a₀ prog w A E s)(M:MP a₀ κ a b){st:SortSt}(hk:kindOf st=kd)  (hJ:MHJ κ a b out na nb p)
  (h:∀(d:H7) ag,SG st ag->d.1=none->MHJ κ a b d.2.2.2.1 d.2.1 d.2.2.1 p->Q (.yield d) ag/\Q (.done d) ag) (hd:∀(d:H7) x ag,SG st ag->d.1=some x->Mgd (LeK κ) a.toList b.toList x.toList->Q (.done d) ag):
  wpS (model prog w) A E s (HA a b out na nb mg ac bc) Q st:=by
 obtain⟨hM,h2,h3,h4⟩:=hJ
 have hA:=hM.ha
 have hB:=hM.hb
 unfold HA
 refine wpS_bind (NQ ?_)
 have hG:SG st (Gi st mg):=(SG.refl st).set mg
 refine wpS_bind (BQ (show nb-1<b.size by lia) (wpS_bind (NM hO (hG.kd.trans hk) (M.hB _ (by simp)) M.hA (NO M.sA _ _) s!"" s!"" (fun t kr g1 g2=>?_))))
 dsimp only
 have aN:∀y∈a.toList.take t,LeK κ y b[nb-1]:=fun y hy=>by
  obtain⟨j,hj,aU,rfl⟩:=SA hy
  have:=g1 j s!"" aU
  simp only[Nat.zero_add]at this
  exact this
 by_cases cJ:na-t > 0
 ·rw[if_pos cJ]
  have cK:=hM.extA M.sA (t:=t) s!"" (fun j hj ng nh y hy=>by
   have:=g2 j s!"" ng nh
   simp only[Nat.zero_add]at this
   exact LeK.trans (Kv M.sB s!"" y hy) (KeyOrd.kle_of_klt this))
  by_cases hq:t=0
  ·rw[if_pos (by simpa using hq)]
   exact wpS_pure (hd _ _ _ hG rfl (M.doneH cK (.inl hq)))
  ·rw[if_neg (by simpa using hq)]
   exact Ck_ hO M (hG.kd.trans hk) cK s!"" h3 s!"" s!"" aN (fun d=>h d _ hG) (fun d x=>hd d x _ hG)
 ·rw[if_neg cJ]
  have e:t=na:=by lia
  subst e
  exact Ck_ hO M (hG.kd.trans hk) hM h2 h3 h4 s!"" aN (fun d=>h d _ hG) (fun d x=>hd d x _ hG)
theorem CO_ (hO:LtOk kd κ a₀ prog w A E s)(M:MP a₀ κ a b){st:SortSt}(hk:kindOf st=kd)   (hJ:MHJ κ a b c.2.2.2.1 c.2.1 c.2.2.1 p)
  (h:∀(d:H7) ag,SG st ag->d.1=none->MHJ κ a b d.2.2.2.1 d.2.1 d.2.2.1 p->Q (.yield d) ag/\Q (.done d) ag) (hd:∀(d:H7) x ag,SG st ag->d.1=some x->Mgd (LeK κ) a.toList b.toList x.toList->Q (.done d) ag):
  wpS (model prog w) A E s (H2 a b c) Q st:=by
 unfold H2
 split
 ·exact Cl_ hO M hk hJ h hd
 ·exact Cl_ hO M hk hJ h hd
theorem CP_ (hO:LtOk kd κ a₀ prog w A E s)(M:MP a₀ κ a b){st:SortSt}(hk:kindOf st=kd)   (hJ:MHJ κ a b c.2.2.2.1 c.2.1 c.2.2.1 p)
  (h:∀(d:H5) ag,SG st ag->d.1=none->MHJ κ a b d.2.2.2.1 d.2.1 d.2.2.1 (p+1)->Q (.yield d) ag) (hd:∀(d:H5) x ag,SG st ag->d.1=some x->Mgd (LeK κ) a.toList b.toList x.toList->Q (.done d) ag):
  wpS (model prog w) A E s (HO a b c) Q st:=by
 have cc:1<=a.size+b.size:=by have:=M.ha;lia
 unfold HO
 refine wpS_bind (wpS_mono (wpS_forRange (I:=fun x d ag=>ag=st/\d.1=none/\MHJ κ a b d.2.2.2.1 d.2.1 d.2.2.1 (p+x))
   (Q:=fun d ag=>ag=st/\((d.1=none/\MHJ κ a b d.2.2.2.1 d.2.1 d.2.2.1 (p+1)) \/ ∃x,d.1=some x/\Mgd (LeK κ) a.toList b.toList x.toList)) ?step ?fin ⟨rfl,rfl,hJ⟩) ?post)
 case step=>
  rintro x d ag _ hx ⟨rfl,h1,h2⟩
  refine CN_ hO M hk h1 h2 (fun d' g1 g2=>⟨⟨rfl,g1,g2⟩,rfl,.inl ⟨g1,g2.1,g2.2.1,g2.2.2.1,?_⟩⟩) (fun d' x g1 g2=>⟨rfl,.inr ⟨x,g1,g2⟩⟩)
  have:=g2.2.2.2;lia
 case fin=>
  rintro d ag ⟨rfl,h1,h2⟩
  refine⟨rfl,.inl ⟨h1,h2.1,h2.2.1,h2.2.2.1,?_⟩⟩
  have:=h2.2.2.2;lia
 case post=>
  rintro d ag ⟨rfl,hh⟩
  rcases hh with ⟨h1,h2⟩|⟨x,h1,h2⟩
  ·rw[h1]
   dsimp only
   refine wpS_bind (IQ ?_)
   refine wpS_bind (wpS_mono (wpS_forRange (I:=fun x d aQ=>SG ag aQ/\d.1=none/\MHJ κ a b d.2.2.2.1 d.2.1 d.2.2.1 (p+1))
    (Q:=fun d aQ=>SG ag aQ/\((d.1=none/\MHJ κ a b d.2.2.2.1 d.2.1 d.2.2.1 (p+1)) \/ ∃x,d.1=some x/\Mgd (LeK κ) a.toList b.toList x.toList)) ?step2 ?fin2 ⟨SG.refl _,rfl,h2⟩) ?post2)
   case step2=>
    rintro x e aQ _ hx ⟨g0,g1,g2⟩
    exact CO_ hO M (g0.kd.trans hk) g2 (fun d' dJ k0 k1 k2=>⟨⟨g0.trans k0,k1,k2⟩,g0.trans k0,.inl ⟨k1,k2⟩⟩) (fun d' x dJ k0 k1 k2=>⟨g0.trans k0,.inr ⟨x,k1,k2⟩⟩)
   case fin2=>
    rintro e aQ ⟨g0,g1,g2⟩
    exact⟨g0,.inl ⟨g1,g2⟩⟩
   case post2=>
    rintro e aQ ⟨g0,hh⟩
    rcases hh with ⟨g1,g2⟩|⟨x,g1,g2⟩
    ·rw[g1]
     dsimp only
     refine wpS_bind (NQ (wpS_pure ?_))
     exact h (none,e.2.1,e.2.2.1,e.2.2.2.1,e.2.2.2.2.1+1) _ (g0.set _) rfl g2
    ·rw[g1]
     dsimp only
     exact wpS_pure (hd _ x _ g0 rfl g2)
  ·rw[h1]
   dsimp only
   exact wpS_pure (hd _ x _ (SG.refl _) rfl h2)
theorem TH {st:SortSt}  (hO:LtOk kd κ a₀ prog w A E s)(M:MP a₀ κ a b)(hk:kindOf st=kd)
  (h:∀r ag,SG st ag->Mgd (LeK κ) a.toList b.toList r.toList->Q r ag):wpS (model prog w) A E s (Ku a b) Q st:=by
 have ha:=M.ha
 have hb:=M.hb
 rw[PR]
 refine wpS_bind (IQ (wpS_bind (BQ (show a.size-1<a.size by lia) ?_)))
 have hM0:MH κ a b #[] a.size b.size:=⟨Nat.le_refl _,Nat.le_refl _,by simpa using MI.start _ _⟩
 have hM:MH κ a b #[a[a.size-1]] (a.size-1) b.size:=hM0.pushA M.sA ha s!"" (fun y hy=>M.hl y (List.mem_of_mem_take hy))
 by_cases h1:a.size-1=0
 ·rw[if_pos (by simpa using h1)]
  exact wpS_pure (h _ _ (SG.refl _) (M.doneH hM (.inl h1)))
 ·rw[if_neg (by simpa using h1)]
  by_cases h2:b.size=1
  ·rw[if_pos (by simpa using h2)]
   exact wpS_pure (h _ _ (SG.refl _) (M.firstB hM h2))
  ·rw[if_neg (by simpa using h2)]
   refine wpS_bind (wpS_get ?_)
   refine wpS_bind (wpS_mono (wpS_forRange (I:=fun x c ag=>SG st ag/\c.1=none/\MHJ κ a b c.2.2.2.1 c.2.1 c.2.2.1 (1+x))
    (Q:=fun c ag=>SG st ag/\∃x,c.1=some x/\Mgd (LeK κ) a.toList b.toList x.toList) ?step ?fin ⟨SG.refl _,rfl,show MHJ κ a b #[a[a.size-1]] (a.size-1) b.size (1+0) from ⟨hM,by lia,by lia,by lia⟩⟩) ?post)
   case step=>
    rintro x c ag _ hx ⟨g0,g1,g2⟩
    exact CP_ hO M (g0.kd.trans hk) g2 (fun d aM k0 k1 k2=>⟨g0.trans k0,k1,k2⟩) (fun d x aM k0 k1 k2=>⟨g0.trans k0,x,k1,k2⟩)
   case fin=>
    rintro c ag ⟨g0,g1,g2⟩
    have:=g2.2.1;have:=g2.2.2.1;have:=g2.2.2.2
    lia
   case post=>
    rintro c ag ⟨g0,x,g1,g2⟩
    rw[g1]
    dsimp only
    exact wpS_pure (h x ag g0 g2)
end
end aA
namespace aA
open PySem PyProof.Rows
section
variable {prog:Program} {w:World} {A:Around} {E:Value->Shared->Prop} {s:Shared} {a₀:Array Keyed} {κ:KeyKind} {kd:SortKind}
structure SQ (kd:SortKind)(a₀:Array Keyed)(lo hi:Nat)(st ag:SortSt):Prop where
 b:SB kd a₀ ag
 pe:pendingOf ag=pendingOf st
 out:Out lo hi (arrOf st) (arrOf ag)
theorem SQ.refl {lo hi:Nat}{st:SortSt}(h:SB kd a₀ st):SQ kd a₀ lo hi st st:=⟨h,rfl,Out.refl _ _ _⟩
theorem SQ.trans {lo hi:Nat}{st ag aQ:SortSt}(h:SQ kd a₀ lo hi st ag)(g:SQ kd a₀ lo hi ag aQ):SQ kd a₀ lo hi st aQ:=⟨g.b,g.pe.trans h.pe,h.out.trans g.out⟩
theorem SQ.mir {lo hi i j:Nat}{st ag:SortSt}(h:SQ kd a₀ lo hi st ag)(hj:j<=a₀.size)(h1:lo<=i)(h2:j<=hi):SQ kd a₀ lo hi st (setArr ag (mirror (arrOf ag) i j ((j-i) / 2))):=
 ⟨h.b.setArr (mirror_perm _ _ _ _),h.pe,h.out.trans (MY (by rw[h.b.size];exact hj) h1 h2)⟩
theorem SQ.bub {lo hi k l:Nat}{st ag:SortSt}(h:SQ kd a₀ lo hi st ag)(hk:k<a₀.size)(h1:lo<=l)(hl:l<=k)(h2:k<hi):SQ kd a₀ lo hi st (setArr ag (bubble (arrOf ag) k (k-l))):=
 ⟨h.b.setArr (bubble_perm _ _ _),h.pe,h.out.trans (Tv (by rw[h.b.size];exact hk) s!"" s!"" h2)⟩
theorem SD {st bg:SortSt}{lo n ao:Nat}  (hO:LtOk kd κ a₀ prog w A E s)(hn:lo+ao<=a₀.size)(h1:1<=n)(eE:n<=ao)(hB:SQ kd a₀ lo (lo+ao) bg st)(hs:NI κ (arrOf st) lo (lo+n))
  (h:∀m ag,SQ kd a₀ lo (lo+ao) bg ag->1<=m->m<=ao->SO κ (arrOf ag) lo (lo+m)->Q (some m) ag):
  wpS (model prog w) A E s (PM lo n ao) Q st:=Ai_ hO hn h1 eE hB.b hs (fun m ag g1 g2 g3 g4 g5 g6=>h m ag (hB.trans ⟨g1,g2,g3⟩) g4 g5 g6)
noncomputable def Xl (lo n ao:Nat):StateT SortSt Sem DescSt:=
 forIn [n:ao] ((none,n,0):DescSt) fun _ c=>do
  let x <- ltAt' (lo+c.2.1) (lo+c.2.1-1)
  match x with
  |some b7=>
   if b7=true then
    if c.2.2 > 0 then do
     reverseSlice' (lo+c.2.1-(c.2.2+1)) (lo+c.2.1)
     pure (.yield (none,c.2.1+1,0))
    else pure (.yield (none,c.2.1+1,0))
   else do
    let x <- ltAt' (lo+c.2.1-1) (lo+c.2.1)
    match x with
    |some larger=>if larger=true then pure (.done (none,c.2.1,c.2.2)) else pure (.yield (none,c.2.1+1,c.2.2+1))
    |_=>pure (.done (some none,c.2.1,c.2.2))
  |_=>pure (.done (some none,c.2.1,c.2.2))
noncomputable def Wc (lo n ao:Nat):StateT SortSt Sem (Option Nat):=do
 liftM (rule "list.sort.descending-run")
 let c <- Xl lo (n+1) ao
 match c.1 with
 |some r=>pure r
 |none=>
  if c.2.2 > 0 then do
   reverseSlice' (lo+c.2.1-(c.2.2+1)) (lo+c.2.1)
   PM lo c.2.1 ao
  else PM lo c.2.1 ao
theorem NR (lo ao:Nat):countRun' lo ao=(do
  let c <- ascL lo 1 ao
  match c.1 with
  |some r=>pure r
  |none=>
   if (c.2==ao)=true then pure (some c.2)
   else if c.2 > 1 then do
    let x <- ltAt' lo (lo+c.2-1)
    match x with
    |some rose=>if rose=true then pure (some c.2) else do
      reverseSlice' lo (lo+c.2)
      Wc lo c.2 ao
    |_=>pure none
   else Wc lo c.2 ao):=by
 have tl:∀n (f:AscSt->StateT SortSt Sem (Option Nat)),(∀r m,f (some r,m)=pure r)->(∀m,f (none,m)=pure (some m))->(reverseSlice' lo (lo+n) >>= fun _=>ascL lo n ao >>= f)=PM lo n ao:=fun n f h1 h2=>by
  refine congrArg (bind _) (funext fun _=>congrArg (bind _) (funext fun c=>?_))
  rcases c with ⟨_|r,m⟩
  ·exact h2 m
  ·exact h1 r m
 have pl:∀n (f:DescSt->StateT SortSt Sem (Option Nat)),(∀r m q,f (some r,m,q)=pure r)->(∀m q,f (none,m,q)=if q > 0 then reverseSlice' (lo+m-(q+1)) (lo+m) >>= fun _=>PM lo m ao else PM lo m ao) ->
   (liftM (rule "list.sort.descending-run") >>= fun _=>Xl lo (n+1) ao >>= f)=Wc lo n ao:=fun n f h1 h2=>by
  refine congrArg (bind _) (funext fun _=>congrArg (bind _) (funext fun c=>?_))
  rcases c with ⟨_|r,m,q⟩
  ·exact h2 m q
  ·exact h1 r m q
 rw[countRun'_eq]
 unfold ascL
 refine congrArg (bind _) (funext fun c=>?_)
 obtain⟨r,n⟩:=c
 cases r with
 |some r=>rfl
 |none=>
  dsimp only
  refine congrArg (ite _ _) ?_
  by_cases hn:n > 1
  ·rw[if_pos hn,if_pos hn]
   refine congrArg (bind _) (funext fun x=>?_)
   cases x with
   |none=>rfl
   |some rose=>
    dsimp only
    refine congrArg (ite _ _) (congrArg (bind _) (funext fun _=>pl n _ (fun _ _ _=>rfl) fun m q=>by
    dsimp only
    by_cases o:q > 0
    ·rw[if_pos o,if_pos o];exact congrArg (bind _) (funext fun _=>tl m _ (fun _ _=>rfl) fun _=>rfl)
    ·rw[if_neg o,if_neg o];exact tl m _ (fun _ _=>rfl) fun _=>rfl))
  ·rw[if_neg hn,if_neg hn]
   exact pl n _ (fun _ _ _=>rfl) fun m q=>by
    dsimp only
    by_cases o:q > 0
    ·rw[if_pos o,if_pos o];exact congrArg (bind _) (funext fun _=>tl m _ (fun _ _=>rfl) fun _=>rfl)
    ·rw[if_neg o,if_neg o];exact tl m _ (fun _ _=>rfl) fun _=>rfl
theorem Ak_ {st bg:SortSt}{lo n ao:Nat}  (hO:LtOk kd κ a₀ prog w A E s)(hn:lo+ao<=a₀.size)(h1:1<=n)(eE:n<=ao)(hB:SQ kd a₀ lo (lo+ao) bg st)(hs:NI κ (arrOf st) lo (lo+n))
  (h:∀m cV ag,SQ kd a₀ lo (lo+ao) bg ag->n<=m->m<=ao->NI κ (arrOf ag) lo (lo+m)->cV+1<=m->(∀i,lo+m-(cV+1)<=i->i<lo+m->KK κ (arrOf ag) i=KK κ (arrOf ag) (lo+m-1))->Q (none,m,cV) ag):
  wpS (model prog w) A E s (Xl lo n ao) Q st:=by
 unfold Xl
 refine wpS_forRange (I:=fun x c ag=>∃cV,c=(none,x,cV)/\SQ kd a₀ lo (lo+ao) bg ag/\NI κ (arrOf ag) lo (lo+x)/\cV+1<=x /\
   (∀i,lo+x-(cV+1)<=i->i<lo+x->KK κ (arrOf ag) i=KK κ (arrOf ag) (lo+x-1))) ?step ?fin ⟨0,rfl,hB,hs,by lia,fun i h1 h2=>by congr 1;lia⟩
 case fin=>
  rintro c ag ⟨cV,rfl,g1,g2,g3,g4⟩
  rw[show max n ao=ao by lia]at g2 g3 g4 ⊢
  exact h ao cV ag g1 eE (Nat.le_refl _) g2 g3 g4
 case step=>
  rintro x c ag hax hxn ⟨cV,rfl,hQ,hN,hq,he⟩
  dsimp only
  have hsz:lo+x<=(arrOf ag).size:=by rw[hQ.b.size];lia
  refine wpS_bind (KZ hO hQ.b s!"" s!"" ?_)
  cases hless:κ.blt (KK κ (arrOf ag) (lo+x)) (KK κ (arrOf ag) (lo+x-1))
  case true=>
   simp only[if_true]
   have grow:∀xs:Array Keyed,(∀k,KK κ xs k=KK κ (arrOf ag) k)->NI κ xs lo (lo+(x+1)):=by
    intro xs hk i j hl aU hj
    rw[hk,hk]
    rcases Nat.lt_or_ge j (lo+x) with jB|jB
    ·exact hN i j hl aU jB
    ·obtain rfl:j=lo+x:=by lia
     rcases Nat.lt_or_ge i (lo+x) with hi' | hi'
     ·exact KeyOrd.kle_trans (KeyOrd.kle_of_klt hless) (hN i (lo+x-1) hl s!"" s!"")
     ·obtain rfl:i=lo+x:=by lia
      exact KeyOrd.kle_refl _
   by_cases fj:cV > 0
   ·rw[if_pos fj]
    exact wpS_bind (GQ (wpS_pure ⟨0,rfl,hQ.mir s!"" s!"" s!"",grow _ (KK_mirror_equal hsz he),by lia,fun i h1 h2=>by congr 1;lia⟩))
   ·rw[if_neg fj]
    exact wpS_pure ⟨0,rfl,hQ,grow _ (fun _=>rfl),by lia,fun i h1 h2=>by congr 1;lia⟩
  case false=>
   simp only[Bool.false_eq_true,if_false]
   refine wpS_bind (KZ hO hQ.b s!"" s!"" ?_)
   cases hlarger:κ.blt (KK κ (arrOf ag) (lo+x-1)) (KK κ (arrOf ag) (lo+x))
   case true=>
    simp only[if_true]
    exact wpS_pure (h x cV ag hQ hax s!"" hN hq he)
   case false=>
    simp only[Bool.false_eq_true,if_false]
    have same:KK κ (arrOf ag) (lo+x)=KK κ (arrOf ag) (lo+x-1):=KeyOrd.kle_antisymm hlarger hless
    refine wpS_pure ⟨cV+1,rfl,hQ,fun i j hl aU hj=>?_,by lia,fun i h1 h2=>?_⟩
    ·rcases Nat.lt_or_ge j (lo+x) with jB|jB
     ·exact hN i j hl aU jB
     ·obtain rfl:j=lo+x:=by lia
      rcases Nat.lt_or_ge i (lo+x) with hi' | hi'
      ·rw[same];exact hN i (lo+x-1) hl s!"" s!""
      ·obtain rfl:i=lo+x:=by lia
       exact KeyOrd.kle_refl _
    ·rw[show lo+(x+1)-1=lo+x by lia]
     by_cases gP:i=lo+x
     ·rw[gP]
     ·rw[same];exact he i s!"" s!""
theorem We {st bg:SortSt}{lo n ao:Nat}  (hO:LtOk kd κ a₀ prog w A E s)(hn:lo+ao<=a₀.size)(eE:n+1<=ao)(hB:SQ kd a₀ lo (lo+ao) bg st)(hs:NI κ (arrOf st) lo (lo+(n+1)))
  (h:∀m ag,SQ kd a₀ lo (lo+ao) bg ag->1<=m->m<=ao->SO κ (arrOf ag) lo (lo+m)->Q (some m) ag):
  wpS (model prog w) A E s (Wc lo n ao) Q st:=by
 unfold Wc
 refine wpS_bind (IQ (wpS_bind (Ak_ hO hn s!"" eE hB hs fun m cV ag g1 g2 g3 g4 g5 g6=>?_)))
 dsimp only
 have hsz:lo+m<=(arrOf ag).size:=by rw[g1.b.size];lia
 by_cases fj:cV > 0
 ·rw[if_pos fj]
  refine wpS_bind (GQ (SD hO hn s!"" g3 (g1.mir s!"" s!"" s!"") ?_ h))
  intro i j hl aU hj
  show κ.kle (KK κ (mirror (arrOf ag) _ _ _) j) (KK κ (mirror (arrOf ag) _ _ _) i)
  rw[KK_mirror_equal hsz g6,KK_mirror_equal hsz g6]
  exact g4 i j hl aU hj
 ·rw[if_neg fj]
  exact SD hO hn s!"" g3 g1 g4 h
theorem Q2 {st:SortSt}{lo ao:Nat}  (hO:LtOk kd κ a₀ prog w A E s)(hn:lo+ao<=a₀.size)(h1:1<=ao)(hB:SB kd a₀ st)
  (h:∀m ag,SQ kd a₀ lo (lo+ao) st ag->1<=m->m<=ao->SO κ (arrOf ag) lo (lo+m)->Q (some m) ag):
  wpS (model prog w) A E s (countRun' lo ao) Q st:=by
 have hQ:SQ kd a₀ lo (lo+ao) st st:=SQ.refl hB
 rw[NR]
 refine wpS_bind (Y9 hO hn (Nat.le_refl 1) h1 hB (fun i j hl aU hj=>by (obtain rfl:i=j:=by lia);exact KeyOrd.kle_refl _) fun n bR fb gi hor=>?_)
 dsimp only
 by_cases eE:n=ao
 ·rw[if_pos (by simpa using eE)]
  exact wpS_pure (h n st hQ bR fb gi)
 ·rw[if_neg (by simpa using eE)]
  have ar:=hor.resolve_left eE
  by_cases jC:n > 1
  ·rw[if_pos jC]
   refine wpS_bind (KZ hO hB s!"" s!"" ?_)
   cases hrose:κ.blt (KK κ (arrOf st) lo) (KK κ (arrOf st) (lo+n-1))
   case true=>
    simp only[if_true]
    exact wpS_pure (h n st hQ bR fb gi)
   case false=>
    simp only[Bool.false_eq_true,if_false]
    have hsz:lo+n<=(arrOf st).size:=by rw[hB.size];lia
    have aL:∀k,lo<=k->k<lo+n->KK κ (arrOf st) k=KK κ (arrOf st) (lo+n-1):=fun k jF fO=>
     KeyOrd.kle_antisymm (gi k (lo+n-1) jF s!"" s!"") (KeyOrd.kle_trans hrose (gi lo k (Nat.le_refl _) jF fO))
    refine wpS_bind (GQ (We hO hn s!"" (hQ.mir s!"" (Nat.le_refl _) s!"") ?_ h))
    intro i j hl aU hj
    show κ.kle (KK κ (mirror (arrOf st) _ _ _) j) (KK κ (mirror (arrOf st) _ _ _) i)
    rw[KK_mirror_equal hsz aL,KK_mirror_equal hsz aL]
    rcases Nat.lt_or_ge j (lo+n) with hjn|hjn
    ·rw[aL i hl s!"",aL j s!"" hjn];exact KeyOrd.kle_refl _
    ·obtain rfl:j=lo+n:=by lia
     rcases Nat.lt_or_ge i (lo+n) with hi' | hi'
     ·rw[aL i hl hi'];exact KeyOrd.kle_of_klt ar
     ·obtain rfl:i=lo+n:=by lia
      exact KeyOrd.kle_refl _
  ·rw[if_neg jC]
   obtain rfl:n=1:=by lia
   refine We hO hn s!"" hQ ?_ h
   intro i j hl aU hj
   by_cases hi':i=j
   ·subst hi';exact KeyOrd.kle_refl _
   ·obtain rfl:i=lo:=by lia
    obtain rfl:j=i+1:=by lia
    exact KeyOrd.kle_of_klt ar
structure Bis (κ:KeyKind)(xs:Array Keyed)(lo k l r:Nat):Prop where
 le:l<=r
 top:r<=k
 low:∀i,lo<=i->i<lo+l->κ.kle (KK κ xs i) (KK κ xs (lo+k))
 high:∀i,lo+r<=i->i<lo+k->κ.klt (KK κ xs (lo+k)) (KK κ xs i)
section
variable {xs:Array Keyed} {lo k l r:Nat}
theorem Bis.start:Bis κ xs lo k 0 k:=⟨Nat.zero_le _,Nat.le_refl _,fun i a b=>absurd a (Nat.not_le.mpr b),fun i a b=>absurd a (Nat.not_le.mpr b)⟩
theorem Bis.turn (B:Bis κ xs lo k l r)(o:l<r)(hs:SO κ xs lo (lo+k))(b:Bool)(e:κ.blt (KK κ xs (lo+k)) (KK κ xs (lo+(l+r) / 2))=b):
  if b=true then Bis κ xs lo k l ((l+r) / 2) else Bis κ xs lo k ((l+r) / 2+1) r:=by
 have t:=B.top
 cases b
 ·exact⟨by lia,t,fun i a c=>KeyOrd.kle_trans (hs i (lo+(l+r) / 2) a s!"" s!"") e,B.high⟩
 ·exact⟨by lia,by lia,B.low,fun i a c=>KeyOrd.klt_of_klt_of_kle e (hs _ i s!"" a c)⟩
theorem Bis.put (B:Bis κ xs lo k l l)(hs:SO κ xs lo (lo+k))(hz:lo+k<xs.size):SO κ (bubble xs (lo+k) (lo+k-(lo+l))) lo (lo+(k+1)):=by
 have t:=B.top
 have dr:∀i,KK κ (bubble xs (lo+k) (lo+k-(lo+l))) i=if i=lo+l then KK κ xs (lo+k) else if lo+l<i/\i<=lo+k then KK κ xs (i-1) else KK κ xs i:=fun i=>by
  rw[KK_bubble hz s!"",show lo+k-(lo+k-(lo+l))=lo+l by lia]
 intro i j a b c
 rw[dr i,dr j]
 rcases Nat.lt_trichotomy i (lo+l) with x|x|x<;>rcases Nat.lt_trichotomy j (lo+l) with y|y|y
 ·rw[if_neg s!"",if_neg s!"",if_neg s!"",if_neg s!""];exact hs i j a b s!""
 ·rw[if_neg s!"",if_neg s!"",if_pos y];exact B.low i a x
 ·rw[if_neg s!"",if_neg s!"",if_neg s!"",if_pos s!""];exact hs i (j-1) a s!"" s!""
 ·lia
 ·rw[if_pos x,if_pos y];exact KeyOrd.kle_refl _
 ·rw[if_pos x,if_neg s!"",if_pos s!""];exact KeyOrd.kle_of_klt (B.high (j-1) s!"" s!"")
 ·lia
 ·lia
 ·rw[if_neg s!"",if_pos s!"",if_neg s!"",if_pos s!""];exact hs (i-1) (j-1) s!"" s!"" s!""
end
theorem NS {st:SortSt}{lo n ok:Nat}  (hO:LtOk kd κ a₀ prog w A E s)(hn:lo+n<=a₀.size)(hok:ok<=n)(hB:SB kd a₀ st)(hs:SO κ (arrOf st) lo (lo+ok))
  (h:∀ag,SQ kd a₀ lo (lo+n) st ag->SO κ (arrOf ag) lo (lo+n)->Q true ag):wpS (model prog w) A E s (binarySort' lo n ok) Q st:=by
 rw[binarySort'_eq]
 have one:SO κ (arrOf st) lo (lo+max ok 1):=fun i j a b c=>if q:i=j then q ▸ KeyOrd.kle_refl _ else hs i j a b s!""
 have fin:∀t,SQ kd a₀ lo (lo+n) st t->SO κ (arrOf t) lo (lo+max (max ok 1) n)->Q true t:=fun t q so=>h t q fun i j a b c=>so i j a b s!""
 refine wpS_bind (wpS_forRange (fun k c t=>c=(none,())/\SQ kd a₀ lo (lo+n) st t/\SO κ (arrOf t) lo (lo+k)) (fun k c t a b i=>?_) (fun c t i=>?_) ⟨rfl,SQ.refl hB,one⟩)
 ·obtain⟨rfl,q,so⟩:=i
  have put:∀l,Bis κ (arrOf t) lo k l l->wpS (model prog w) A E s (do moveDown' (lo+k) (lo+l);pure (ForInStep.yield ((none:Option Bool),()))) (fun r u=>match r with | .done _=>False | .yield c=>c=(none,())/\SQ kd a₀ lo (lo+n) st u/\SO κ (arrOf u) lo (lo+(k+1))) t:=fun l B=>by
   have tp:=B.top
   rw[moveDown'_eq]
   exact wpS_bind (wpS_modify (wpS_pure ⟨rfl,q.bub s!"" s!"" s!"" s!"",B.put so (by rw[q.b.size];lia)⟩))
  refine wpS_bind (wpS_mono (wpS_forRange (fun x d t'=>t'=t/\∃l r,d=(none,l,r)/\r-l<=k-x/\Bis κ (arrOf t) lo k l r) (Q:=fun d t'=>t'=t/\∃l,d=(none,l,l)/\Bis κ (arrOf t) lo k l l) (fun x d t' _ y i=>?_) (fun d t' i=>?_) ⟨rfl,0,k,rfl,Nat.le_refl _,.start⟩) fun d t' i=>?_)
  ·obtain⟨rfl,l,r,rfl,z,B⟩:=i
   have tp:=B.top
   by_cases o:l<r
   ·have m:=B.turn o so
    dsimp only
    rw[if_neg (Nat.not_le.mpr o)]
    refine wpS_bind (KZ hO q.b s!"" s!"" ?_)
    generalize e:κ.blt _ _=b
    replace m:=m b e
    cases b
    ·exact wpS_pure ⟨rfl,_,r,rfl,by lia,m⟩
    ·exact wpS_pure ⟨rfl,l,_,rfl,by lia,m⟩
   ·cases Nat.le_antisymm B.le (Nat.not_lt.mp o)
    dsimp only
    rw[if_pos (Nat.le_refl _)]
    exact wpS_pure ⟨rfl,l,rfl,B⟩
  ·obtain⟨rfl,l,r,rfl,z,B⟩:=i
   cases Nat.le_antisymm B.le s!""
   exact⟨rfl,l,rfl,B⟩
  ·obtain⟨rfl,l,rfl,B⟩:=i
   exact wpS_mono (put l B) fun r u g=>by cases r with|done _=>exact g.elim|yield _=>exact g
 ·obtain⟨rfl,q,so⟩:=i
  exact wpS_pure (fin t q so)
end
end aA
namespace aA
open PySem PyProof.Rows
noncomputable def wr (a:Array Keyed)(base:Nat)(r:List Keyed)(n:Nat):Array Keyed:=(r.zipIdx n).foldl (fun a (p,j)=>a.setIfInBounds (base+j) p) a
theorem Q3 (i:Nat):mergeAt' i=(do
 let s <- get
 let (some (sa,na,power),some (sb,nb,_)):=((pendingOf s)[i]?,(pendingOf s)[i+1]?)|unsupported "internal:list.sort.pending"
 set (setPending s (((pendingOf s).setIfInBounds i (sa,na+nb,power)).eraseIdxIfInBounds (i+1)))
 let some k <- Df false ( <- elem' (arrOf s) sb) (arrOf s) sa na 0|return false
 if na-k==0 then return true
 let some m <- Df true ( <- elem' (arrOf s) (sa+k+(na-k)-1)) (arrOf s) sb nb (nb-1)|return false
 if m==0 then return true
 let merged <- if na-k<=m then Kr ((arrOf s).extract (sa+k) sb) ((arrOf s).extract sb (sb+m)) else Ku ((arrOf s).extract (sa+k) sb) ((arrOf s).extract sb (sb+m))
 modify fun s=>setArr s (wr (arrOf s) (sa+k) merged.toList 0)
 return (failedOf ( <- get)).isNone):=rfl
theorem Wg {base:Nat}:∀(r:List Keyed) (n:Nat) (a:Array Keyed),base+n+r.length<=a.size->(wr a base r n).toList=a.toList.take (base+n)++r++a.toList.drop (base+n+r.length)
 |[],n,a,h=>by simp[wr]
 |x::r,n,a,h=>by
  have ih:=Wg (base:=base) r (n+1) (a.setIfInBounds (base+n) x) (by simp at h ⊢;lia)
  unfold wr at ih ⊢
  rw[List.zipIdx_cons,List.foldl_cons]
  simp only at ih ⊢
  simp only[List.length_cons]at h
  have hl:base+n<a.toList.length:=by simp;lia
  rw[ih,Array.toList_setIfInBounds,show base+(n+1)=base+n+1 by lia,List.take_set,List.drop_set_of_lt s!"",List.take_succ_eq_append_getElem hl,List.set_append_right _ _ (by simp;lia)]
  simp only[List.length_take,Array.length_toList,List.length_cons]
  rw[show base+n-min (base+n) a.size=0 by lia,List.set_cons_zero,show base+n+1+r.length=base+n+(r.length+1) by lia]
  simp
section
variable {prog:Program} {w:World} {A:Around} {E:Value->Shared->Prop} {s:Shared} {a₀:Array Keyed} {κ:KeyKind} {kd:SortKind}
noncomputable def seg (a:Array Keyed)(lo hi:Nat):List Keyed:=(a.toList.take hi).drop lo
theorem Q4  {lo hi:Nat}(h:hi<=a.size):(seg a lo hi).length=hi-lo:=by unfold seg;simp;lia
theorem NT  {lo hi i:Nat}(h:i<(seg a lo hi).length)(hi':lo+i<a.size):(seg a lo hi)[i]=a[lo+i]:=by simp[seg]
theorem M0  {lo hi:Nat}(h:hi<=a.size):SO κ a lo hi↔(seg a lo hi).Pairwise (LeK κ):=by
 rw[List.pairwise_iff_getElem]
 constructor
 ·intro g i j hi hj aU
  have hl:=Q4 (lo:=lo) h
  have:=g (lo+i) (lo+j) s!"" s!"" s!""
  rw[F7 s!"",F7 s!""]at this
  rw[NT hi s!"",NT hj s!""]
  exact this
 ·intro g i j hl aU hj
  rcases Nat.lt_or_ge i j with ar|a9
  ·have ak:=Q4 (lo:=lo) h
   have:=g (i-lo) (j-lo) s!"" s!"" s!""
   rw[NT s!"" s!"",NT s!"" s!""]at this
   simp only[show lo+(i-lo)=i by lia,show lo+(j-lo)=j by lia]at this
   rw[F7 s!"",F7 s!""]
   exact this
  ·obtain rfl:i=j:=by lia
   exact KeyOrd.kle_refl _
theorem Hs  {lo hi:Nat}  (h:x∈seg a lo hi):∃j,∃hj:j<a.size,lo<=j/\j<hi/\x=a[j]:=Wb h
theorem IS (a:Array Keyed)  (h1:l<=m)(h2:m<=h):seg a l h=seg a l m++seg a m h:=by
 unfold seg
 have e:a.toList.take h=a.toList.take m++(a.toList.take h).drop m:=by
  have:=List.take_append_drop m (a.toList.take h)
  rw[List.take_take,show min m h=m by lia]at this
  exact this.symm
 rw[e]
 rcases Nat.le_total m a.toList.length with hm|hm
 ·rw[List.drop_append_of_le_length (by rw[List.length_take];lia)]
  congr 1
  rw[<-e]
 ·rw[show (a.toList.take h).drop m=[] from List.drop_eq_nil_of_le (by rw[List.length_take];lia)]
  simp only[List.append_nil]
  rw[show List.drop m (a.toList.take m)=[] from List.drop_eq_nil_of_le (by rw[List.length_take];lia),List.append_nil]
theorem Q5  {lo hi i j:Nat}(h:SO κ a lo hi)(h1:lo<=i)(h2:i<=j)(h3:j<hi)(hi':i<a.size)(hj:j<a.size):LeK κ a[i] a[j]:=by
 have:=h i j h1 h2 h3
 rw[F7 hi',F7 hj]at this
 exact this
theorem Kw  {lo hi:Nat}(e:∀i,lo<=i->i<hi->ys[i]?=xs[i]?)(h:SO κ xs lo hi):SO κ ys lo hi:=fun i j h1 h2 h3=>by
 rw[KK_congr (e i h1 s!""),KK_congr (e j s!"" h3)];exact h i j h1 h2 h3
theorem Xm    (aN:l<=e)(he:e<=a.size)(hp:r.Perm (seg a l e)):
  (wr a l r 0).Perm a/\Out l e a (wr a l r 0)/\seg (wr a l r 0) l e=r:=by
 have hl:r.length=e-l:=by rw[hp.length_eq,Q4 he]
 have hw:=Wg (base:=l) r 0 a s!""
 rw[Nat.add_zero,show l+r.length=e by lia]at hw
 have h0:a.toList=a.toList.take l++seg a l e++a.toList.drop e:=by
  have h1:=List.take_append_drop e a.toList
  have h2:=List.take_append_drop l (a.toList.take e)
  rw[List.take_take,show min l e=l by lia]at h2
  rw[show seg a l e=(a.toList.take e).drop l from rfl,h2,h1]
 have ar:(a.toList.take l).length=l:=by simp;lia
 refine⟨?_,fun i hi=>?_,?_⟩
 ·rw[Array.perm_iff_toList_perm,hw]
  conv=>rhs;rw[h0]
  exact List.Perm.append_right _ (List.Perm.append_left _ hp)
 ·rw[<-Array.getElem?_toList,<-Array.getElem?_toList,hw]
  rcases hi with hi|hi
  ·rw[List.append_assoc,List.getElem?_append_left s!"",List.getElem?_take_of_lt hi]
  ·rw[List.getElem?_append_right (by rw[List.length_append];lia),List.length_append,ar,List.getElem?_drop]
   congr 1;lia
 ·unfold seg
  rw[hw,List.append_assoc,<-List.append_assoc,List.take_append_of_le_length (by rw[List.length_append];lia),List.take_of_length_le (by rw[List.length_append];lia),List.drop_append_of_le_length s!"",List.drop_eq_nil_of_le s!"",List.nil_append]
theorem Gj (a:Array Keyed)(i j:Nat):(a.extract i j).toList=seg a i j:=by rw[GR,seg,List.drop_take]
theorem Cm_ {st ag:SortSt}  (h:Q ⟨⟩ ag):wpS (model prog w) A E s (set ag:StateT SortSt Sem PUnit) Q st:=wpS_modify (f:=fun _=>ag) h
theorem TJ {st:SortSt}   (hO:LtOk kd κ a₀ prog w A E s)(hB:SB kd a₀ st)(e1:(pendingOf st)[i]?=some (sa,na,pw))(e2:(pendingOf st)[i+1]?=some (sb,nb,q))(hsb:sb=sa+na)(hna:1<=na)(ni:1<=nb)(hz:sb+nb<=a₀.size)
  (s1:SO κ (arrOf st) sa sb) (s2:SO κ (arrOf st) sb (sb+nb))
  (h:∀ag,SB kd a₀ ag->pendingOf ag=((pendingOf st).setIfInBounds i (sa,na+nb,pw)).eraseIdxIfInBounds (i+1)->Out sa (sb+nb) (arrOf st) (arrOf ag)->SO κ (arrOf ag) sa (sb+nb)->Q true ag):
  wpS (model prog w) A E s (mergeAt' i) Q st:=by
 have hsz:=hB.size
 rw[Q3]
 refine wpS_bind (wpS_get ?_)
 rw[e1,e2]
 dsimp only
 refine wpS_bind (Cm_ ?_)
 have gh:SB kd a₀ (setPending st (((pendingOf st).setIfInBounds i (sa,na+nb,pw)).eraseIdxIfInBounds (i+1))):=⟨hB.perm,hB.kind,hB.failed⟩
 have aZ:∀x∈(arrOf st).toList,x∈a₀.toList:=fun x hx=>hB.mem hx
 refine wpS_bind (BQ (show sb<(arrOf st).size by lia) (wpS_bind (NM hO gh.kind (aZ _ (by simp)) aZ (fun i j hi hj g1 g2 g3=>Q5 s1 g1 g2 s!"" hi hj) s!"" s!"" (fun k jE g1 g2=>?_))))
 dsimp only
 by_cases cJ:na-k=0
 ·rw[if_pos (by simpa using cJ)]
  refine wpS_pure (h _ gh rfl (Out.refl _ _ _) ?_)
  intro i j hl aU hj
  show κ.kle (KK κ (arrOf st) i) (KK κ (arrOf st) j)
  rcases Nat.lt_or_ge j sb with c|c
  ·exact s1 i j hl aU c
  ·rcases Nat.lt_or_ge i sb with c2|c2
   ·have a1:=g1 (i-sa) s!"" s!""
    simp only[show sa+(i-sa)=i by lia]at a1
    have a2:=s2 sb j (Nat.le_refl _) c hj
    rw[F7 (show sb<(arrOf st).size by lia)]at a2
    rw[F7 (show i<(arrOf st).size by lia)]
    exact KeyOrd.kle_trans a1 a2
   ·exact s2 i j c2 aU hj
 ·rw[if_neg (by simpa using cJ)]
  have el:sa+k+(na-k)-1=sb-1:=by lia
  rw[el]
  refine wpS_bind (BQ (show sb-1<(arrOf st).size by lia) (wpS_bind (NN hO gh.kind (aZ _ (by simp)) aZ (fun i j hi hj g1 g2 g3=>Q5 s2 g1 g2 s!"" hi hj) s!"" s!"" (fun m hmn g3 g4=>?_))))
  dsimp only
  by_cases dY:m=0
  ·rw[if_pos (by simpa using dY)]
   refine wpS_pure (h _ gh rfl (Out.refl _ _ _) ?_)
   intro i j hl aU hj
   show κ.kle (KK κ (arrOf st) i) (KK κ (arrOf st) j)
   rcases Nat.lt_or_ge j sb with c|c
   ·exact s1 i j hl aU c
   ·rcases Nat.lt_or_ge i sb with c2|c2
    ·have a1:=g4 (j-sb) s!"" s!"" s!""
     simp only[show sb+(j-sb)=j by lia]at a1
     have a2:=s1 i (sb-1) hl s!"" s!""
     rw[F7 (show sb-1<(arrOf st).size by lia)]at a2
     rw[F7 (show j<(arrOf st).size by lia)]
     exact KeyOrd.kle_trans a2 a1
    ·exact s2 i j c2 aU hj
  ·rw[if_neg (by simpa using dY)]
   have z1:((arrOf st).extract (sa+k) sb).size=sb-(sa+k):=by simp;lia
   have z2:((arrOf st).extract sb (sb+m)).size=m:=by simp;lia
   have hM:MP a₀ κ ((arrOf st).extract (sa+k) sb) ((arrOf st).extract sb (sb+m)):=by
    refine {hA:=fun x hx=>?_,hB:=fun x hx=>?_,sA:=?_,sB:=?_,ha:=by lia,hb:=by lia,hf:=fun y hy=>?_,hl:=fun x hx=>?_}
    ·rw[Gj]at hx;obtain⟨j,hj,_,_,rfl⟩:=Hs hx;exact aZ _ (by simp)
    ·rw[Gj]at hx;obtain⟨j,hj,_,_,rfl⟩:=Hs hx;exact aZ _ (by simp)
    ·rw[Gj];exact (M0 s!"").mp (fun i j c1 c2 c3=>s1 i j s!"" c2 c3)
    ·rw[Gj];exact (M0 s!"").mp (fun i j c1 c2 c3=>s2 i j c1 c2 s!"")
    ·rw[Gj]at hy;obtain⟨j,hj,c1,c2,rfl⟩:=Hs hy
     have a1:=g2 (j-sa) s!"" s!"" s!""
     simp only[show sa+(j-sa)=j by lia]at a1
     simp only[Array.getElem_extract,Nat.add_zero]
     exact KeyOrd.kle_of_klt a1
    ·rw[Gj]at hx;obtain⟨j,hj,c1,c2,rfl⟩:=Hs hx
     have a1:=g3 (j-sb) s!"" s!""
     simp only[show sb+(j-sb)=j by lia]at a1
     simp only[Array.getElem_extract,z1,show sa+k+(sb-(sa+k)-1)=sb-1 by lia]
     exact KeyOrd.kle_of_klt a1
   have hend:∀(r:Array Keyed) (ag:SortSt),SG (setPending st (((pendingOf st).setIfInBounds i (sa,na+nb,pw)).eraseIdxIfInBounds (i+1))) ag->Mgd (LeK κ) ((arrOf st).extract (sa+k) sb).toList ((arrOf st).extract sb (sb+m)).toList r.toList ->
     wpS (model prog w) A E s (do
      modify fun s=>setArr s (wr (arrOf s) (sa+k) r.toList 0)
      return (failedOf ( <- get)).isNone:StateT SortSt Sem Bool) Q ag:=by
    intro r ag hG hR
    refine wpS_bind (wpS_modify (wpS_bind (wpS_get (wpS_pure ?_))))
    have ea:arrOf ag=arrOf st:=hG.arr
    have hf:failedOf (setArr ag (wr (arrOf ag) (sa+k) r.toList 0))=none:=hG.fa.trans hB.failed
    rw[hf]
    rw[Gj,Gj]at hR
    have hp:r.toList.Perm (seg (arrOf st) (sa+k) (sb+m)):=by rw[IS _ (show sa+k<=sb by lia) (show sb<=sb+m by lia)];exact hR.1
    obtain⟨w1,w2,w3⟩:=Xm s!"" s!"" hp
    have hsz2:(wr (arrOf st) (sa+k) r.toList 0).size=(arrOf st).size:=w1.size_eq
    have iF:arrOf (setArr ag (wr (arrOf ag) (sa+k) r.toList 0))=wr (arrOf st) (sa+k) r.toList 0:=by rw[<-ea]
    refine h _ ⟨?_,hG.kd.trans hB.kind,hf⟩ hG.pe ?_ ?_
    ·rw[iF];exact w1.trans hB.perm
    ·rw[iF];exact fun i hi=>w2 i s!""
    ·rw[iF,M0 s!"",IS _ (show sa<=sa+k by lia) (show sa+k<=sb+nb by lia),IS _ (show sa+k<=sb+m by lia) (show sb+m<=sb+nb by lia),w3]
     have f1:∀x∈seg (wr (arrOf st) (sa+k) r.toList 0) sa (sa+k),∃j,∃hj:j<(arrOf st).size,sa<=j/\j<sa+k/\x=(arrOf st)[j]:=fun x hx=>by
      obtain⟨j,hj,c1,c2,rfl⟩:=Hs hx
      refine⟨j,by lia,c1,c2,?_⟩
      have:=w2 j s!""
      rw[Array.getElem?_eq_getElem hj,Array.getElem?_eq_getElem (show j<(arrOf st).size by lia)]at this
      exact Option.some.inj this
     have f3:∀x∈seg (wr (arrOf st) (sa+k) r.toList 0) (sb+m) (sb+nb),∃j,∃hj:j<(arrOf st).size,sb+m<=j/\j<sb+nb/\x=(arrOf st)[j]:=fun x hx=>by
      obtain⟨j,hj,c1,c2,rfl⟩:=Hs hx
      refine⟨j,by lia,c1,c2,?_⟩
      have:=w2 j s!""
      rw[Array.getElem?_eq_getElem hj,Array.getElem?_eq_getElem (show j<(arrOf st).size by lia)]at this
      exact Option.some.inj this
     have f2:∀x∈r.toList,∃j,∃hj:j<(arrOf st).size,sa+k<=j/\j<sb+m/\x=(arrOf st)[j]:=fun x hx=>by
      obtain⟨j,hj,c1,c2,rfl⟩:=Hs (hp.mem_iff.mp hx)
      exact⟨j,hj,c1,c2,rfl⟩
     have low:∀j (hj:j<(arrOf st).size),sa<=j->j<sa+k->LeK κ (arrOf st)[j] ((arrOf st)[sb]'s!""):=fun j hj c1 c2=>by
      have a1:=g1 (j-sa) s!"" s!""
      simp only[show sa+(j-sa)=j by lia]at a1
      exact a1
     have high:∀j (hj:j<(arrOf st).size),sb+m<=j->j<sb+nb->LeK κ ((arrOf st)[sb-1]'s!"") (arrOf st)[j]:=fun j hj c1 c2=>by
      have a1:=g4 (j-sb) s!"" s!"" s!""
      simp only[show sb+(j-sb)=j by lia]at a1
      exact a1
     refine List.pairwise_append.mpr ⟨?_,List.pairwise_append.mpr ⟨hR.2,?_,fun x hx y hy=>?_⟩,fun x hx y hy=>?_⟩
     ·exact (M0 s!"").mp (Kw (fun i c1 c2=>w2 i s!"") (fun i j c1 c2 c3=>s1 i j c1 c2 s!""))
     ·exact (M0 s!"").mp (Kw (fun i c1 c2=>w2 i s!"") (fun i j c1 c2 c3=>s2 i j s!"" c2 s!""))
     ·obtain⟨j,hj,c1,c2,rfl⟩:=f2 x hx
      obtain⟨l,hl,d1,d2,rfl⟩:=f3 y hy
      rcases Nat.lt_or_ge j sb with c|c
      ·exact LeK.trans (Q5 s1 s!"" s!"" s!"" hj s!"") (high l hl d1 d2)
      ·exact Q5 s2 c s!"" d2 hj hl
     ·obtain⟨j,hj,c1,c2,rfl⟩:=f1 x hx
      rcases List.mem_append.mp hy with hy|hy
      ·obtain⟨l,hl,d1,d2,rfl⟩:=f2 y hy
       rcases Nat.lt_or_ge l sb with c|c
       ·exact Q5 s1 c1 s!"" c hj hl
       ·exact LeK.trans (low j hj c1 c2) (Q5 s2 (Nat.le_refl _) c s!"" s!"" hl)
      ·obtain⟨l,hl,d1,d2,rfl⟩:=f3 y hy
       exact LeK.trans (low j hj c1 c2) (Q5 s2 (Nat.le_refl _) s!"" d2 s!"" hl)
   by_cases hc:na-k<=m
   ·rw[if_pos hc]
    exact wpS_bind (TF hO hM gh.kind hend)
   ·rw[if_neg hc]
    exact wpS_bind (TH hO hM gh.kind hend)
end
end aA
namespace aA
open PySem PyProof.Rows
noncomputable abbrev Rn:=Nat×Nat×Nat
noncomputable def JP (lo n:Nat):StateT SortSt Sem (ForInStep (Option Unit×Nat)):=do
 modify fun s=>setPending s ((pendingOf s).push (lo,n,0))
 pure (.yield (none,lo+n))
noncomputable def JM (pw:Nat):StateT SortSt Sem (ForInStep (Option Unit×Unit)):=do
 let g <- get
 match if (pendingOf g).size > 1 then (pendingOf g)[(pendingOf g).size-2]? else none with
 |some (_,_,older)=>if older<=pw then pure (.done (none,())) else do
   let b <- mergeAt' ((pendingOf g).size-2)
   if (!b)=true then pure (.done (some (),())) else pure (.yield (none,()))
 |_=>pure (.done (none,()))
noncomputable def JB (size lo n:Nat):StateT SortSt Sem (ForInStep (Option Unit×Nat)):=do
 let g <- get
 match (pendingOf g).back? with
 |some (s1,n1,_)=>do
  let c <- forIn [0:size] ((none,()):Option Unit×Unit) fun _ _=>JM (power' size (2*s1+n1) (2*s1+n1+n1+n) size)
  match c.1 with
  |some r=>pure (.done (some r,lo))
  |none=>do
   modify fun s=>setPending s ((pendingOf s).modify ((pendingOf s).size-1) fun (st,len,_)=>(st,len,power' size (2*s1+n1) (2*s1+n1+n1+n) size))
   JP lo n
 |_=>JP lo n
noncomputable def RN (size bF lo n:Nat):StateT SortSt Sem (ForInStep (Option Unit×Nat)):=
 if n<bF then (do
  liftM (rule "list.sort.binary-insertion")
  let b <- binarySort' lo (min (size-lo) bF) n
  if (!b)=true then pure (.done (some (),lo)) else JB size lo (min (size-lo) bF))
 else JB size lo n
noncomputable def RB (size bF:Nat)(c:Option Unit×Nat):StateT SortSt Sem (ForInStep (Option Unit×Nat)):=
 if c.2 >= size then pure (.done (none,c.2)) else do
  let x <- countRun' c.2 (size-c.2)
  match x with
  |some n=>RN size bF c.2 n
  |_=>pure (.done (some (),c.2))
noncomputable def FI (p:Array Rn):Nat:=if Option.any (fun x=>decide (x<p[p.size-2+1]?.elim 0 fun x=>x.snd.fst)) (if p.size-2 > 0 then Option.map (fun x=>x.snd.fst) p[p.size-2-1]? else none)=true then p.size-2-1 else p.size-2
noncomputable def FB:StateT SortSt Sem (ForInStep (Option Unit×Unit)):=do
 let g <- get
 if (pendingOf g).size<=1 then pure (.done (none,()))
 else do
  let b <- mergeAt' (FI (pendingOf g))
  if (!b)=true then pure (.done (some (),())) else pure (.yield (none,()))
theorem NU:sortRuns'=(do
 let g <- get
 let c <- forIn [0:(arrOf g).size] ((none,0):Option Unit×Nat) fun _ c=>RB (arrOf g).size (minRun' (arrOf g).size (arrOf g).size 0) c
 match c.1 with
 |some r=>pure r
 |none=>do
  let c <- forIn [0:(arrOf g).size] ((none,()):Option Unit×Unit) fun _ _=>FB
  match c.1 with
  |some r=>pure r
  |none=>pure ()):=by
 rw[sortRuns'_eq]
 refine congrArg (bind _) (funext fun g=>?_)
 refine congr (congrArg bind (congrArg (forIn _ _) (funext fun _=>funext fun c=>?_))) (funext fun c=>?_)
 ·unfold RB
  refine congrArg (ite _ _) (congrArg (bind _) (funext fun x=>?_))
  cases x with
  |none=>rfl
  |some n=>
   dsimp only
   unfold RN
   by_cases hn:n<minRun' (arrOf g).size (arrOf g).size 0
   ·rw[if_pos hn,if_pos hn]
    refine congrArg (bind _) (funext fun _=>congrArg (bind _) (funext fun b=>congrArg (ite _ _) ?_))
    unfold JB
    refine congrArg (bind _) (funext fun g'=>?_)
    try dsimp only
    rcases (pendingOf g').back? with _|⟨s1,n1,q⟩
    ·rfl
    ·try dsimp only
     refine congr (congrArg bind (congrArg (forIn _ _) (funext fun _=>funext fun _=>?_))) (funext fun c=>?_)
     ·unfold JM
      refine congrArg (bind _) (funext fun g2=>?_)
      try dsimp only
      rcases (if (pendingOf g2).size > 1 then (pendingOf g2)[(pendingOf g2).size-2]? else none) with _|⟨a,b,c⟩
      ·rfl
      ·rfl
     ·obtain⟨r,u⟩:=c
      cases r<;>rfl
   ·rw[if_neg hn,if_neg hn]
    unfold JB
    refine congrArg (bind _) (funext fun g'=>?_)
    try dsimp only
    rcases (pendingOf g').back? with _|⟨s1,n1,q⟩
    ·rfl
    ·try dsimp only
     refine congr (congrArg bind (congrArg (forIn _ _) (funext fun _=>funext fun _=>?_))) (funext fun c=>?_)
     ·unfold JM
      refine congrArg (bind _) (funext fun g2=>?_)
      try dsimp only
      rcases (if (pendingOf g2).size > 1 then (pendingOf g2)[(pendingOf g2).size-2]? else none) with _|⟨a,b,c⟩
      ·rfl
      ·rfl
     ·obtain⟨r,u⟩:=c
      cases r<;>rfl
 ·obtain⟨r,lo⟩:=c
  cases r with
  |some r=>rfl
  |none=>
   dsimp only
   refine congr (congrArg bind (congrArg (forIn _ _) (funext fun _=>funext fun c=>?_))) (funext fun c=>?_)
   ·rfl
   ·obtain⟨r,u⟩:=c
    cases r<;>rfl
section
variable {prog:Program} {w:World} {A:Around} {E:Value->Shared->Prop} {s:Shared} {a₀:Array Keyed} {κ:KeyKind} {kd:SortKind}
noncomputable def Ch (κ:KeyKind)(xs:Array Keyed):List Rn->Nat->Nat->Prop
 |[],a,b=>a=b
 |p::r,a,b=>p.1=a/\1<=p.2.1/\SO κ xs a (a+p.2.1)/\Ch κ xs r (a+p.2.1) b
theorem Ch.le {xs:Array Keyed}:∀{l:List Rn} {a b:Nat},Ch κ xs l a b->a+l.length<=b
 |[],a,b,h=>Nat.le_of_eq h
 |p::r,a,b,h=>by have:=Ch.le h.2.2.2;have:=h.2.1;simp only[List.length_cons];lia
theorem Ch.append {xs:Array Keyed}:∀{l l':List Rn} {a b:Nat},Ch κ xs (l++l') a b ↔ ∃c,Ch κ xs l a c/\Ch κ xs l' c b
 |[],l',a,b=>⟨fun h=>⟨a,rfl,h⟩,fun ⟨c,e,h⟩=>by cases e;exact h⟩
 |p::r,l',a,b=>⟨fun ⟨h1,h2,h3,h4⟩=>by obtain⟨c,g1,g2⟩:=Ch.append.mp h4;exact⟨c,⟨h1,h2,h3,g1⟩,g2⟩,fun ⟨c,⟨h1,h2,h3,h4⟩,h5⟩=>⟨h1,h2,h3,Ch.append.mpr ⟨c,h4,h5⟩⟩⟩
theorem Ch.congr {xs ys:Array Keyed}:∀{l:List Rn} {a b:Nat},(∀i,a<=i->i<b->ys[i]?=xs[i]?)->Ch κ xs l a b->Ch κ ys l a b
 |[],a,b,_,h=>h
 |p::r,a,b,e,⟨h1,h2,h3,h4⟩=>⟨h1,h2,Kw (fun i g1 g2=>e i g1 (by have:=h4.le;lia)) h3,h4.congr (fun i g1 g2=>e i s!"" g2)⟩
theorem Ch.same {xs:Array Keyed}:∀{l l':List Rn} {a b:Nat},l.map (fun p=>(p.1,p.2.1))=l'.map (fun p=>(p.1,p.2.1))->Ch κ xs l a b->Ch κ xs l' a b
 |[],[],_,_,_,h=>h
 |[],_::_,_,_,e,_=>by cases e
 |_::_,[],_,_,e,_=>by cases e
 |p::r,p'::r',a,b,e,⟨h1,h2,h3,h4⟩=>by
  simp only[List.map_cons,List.cons.injEq,Prod.mk.injEq]at e
  obtain⟨⟨e1,e2⟩,e3⟩:=e
  refine⟨e1 ▸ h1,e2 ▸ h2,e2 ▸ h3,?_⟩
  rw[<-e2]
  exact h4.same e3
theorem PU {st:SortSt}   (hO:LtOk kd κ a₀ prog w A E s)(hB:SB kd a₀ st)(hC:Ch κ (arrOf st) (pendingOf st).toList 0 m)(hm:m<=a₀.size)(hi:i+1<(pendingOf st).size)
  (h:∀ag,SB kd a₀ ag->Ch κ (arrOf ag) (pendingOf ag).toList 0 m->(pendingOf ag).size+1=(pendingOf st).size->Out 0 m (arrOf st) (arrOf ag)->Q true ag):
  wpS (model prog w) A E s (mergeAt' i) Q st:=by
 have hl:(pendingOf st).toList.length=(pendingOf st).size:=Array.length_toList
 have e0:(pendingOf st).toList=(pendingOf st).toList.take i++(pendingOf st)[i]::(pendingOf st)[i+1]::(pendingOf st).toList.drop (i+2):=by
  have h1:=(List.take_append_drop i (pendingOf st).toList).symm
  rw[List.drop_eq_getElem_cons s!"",List.drop_eq_getElem_cons s!""]at h1
  exact h1
 obtain⟨l1,bj⟩:∃l,l=(pendingOf st).toList.take i:=⟨_,rfl⟩
 obtain⟨l2,cx⟩:∃l,l=(pendingOf st).toList.drop (i+2):=⟨_,rfl⟩
 obtain⟨⟨sa,na,pw⟩,hx⟩:∃p,p=(pendingOf st)[i]:=⟨_,rfl⟩
 obtain⟨⟨sb,nb,q⟩,hy⟩:∃p,p=(pendingOf st)[i+1]:=⟨_,rfl⟩
 rw[<-bj,<-cx,<-hx,<-hy]at e0
 have ku:l1.length=i:=by rw[bj,List.length_take];lia
 rw[e0]at hC
 obtain⟨c,c1,c2,c3,c4,c5,c6,c7,c8⟩:=Ch.append.mp hC
 dsimp only at c2 c3 c4 c5 c6 c7 c8
 subst c2
 subst c5
 have aN:=c8.le
 have hle1:=c1.le
 refine TJ hO hB (by rw[hx];exact Array.getElem?_eq_getElem s!"") (by rw[hy];exact Array.getElem?_eq_getElem hi) rfl c3 c6 s!"" c4 c7 (fun ag g1 g2 g3 g4=>?_)
 have e1:(pendingOf ag).toList=l1++(sa,na+nb,pw)::l2:=by
  rw[g2,Array.toList_eraseIdxIfInBounds,Array.toList_setIfInBounds,e0,List.set_append_right _ _ s!"",ku,Nat.sub_self,List.set_cons_zero,List.eraseIdx_append_of_length_le s!"",ku,show i+1-i=1 by lia]
  rfl
 refine h ag g1 ?_ ?_ (fun i hi=>g3 i s!"")
 ·rw[e1]
  refine Ch.append.mpr ⟨sa,c1.congr (fun i _ h2=>g3 i s!""),rfl,?_,?_,?_⟩
  ·show 1<=na+nb
   lia
  ·rw[show sa+(na+nb)=sa+na+nb by lia];exact g4
  ·show Ch κ (arrOf ag) l2 (sa+(na+nb)) m
   rw[show sa+(na+nb)=sa+na+nb by lia]
   exact c8.congr (fun i h1 _=>g3 i s!"")
 ·have l1':(pendingOf ag).toList.length=(l1++(sa,na+nb,pw)::l2).length:=by rw[e1]
  have l2':(pendingOf st).toList.length=(l1++(sa,na,pw)::(sa+na,nb,q)::l2).length:=by rw[e0]
  simp only[List.length_append,List.length_cons,Array.length_toList]at l1' l2'
  lia
theorem Cn_ {st:SortSt}{lo n:Nat}  (hB:SB kd a₀ st)(hC:Ch κ (arrOf st) (pendingOf st).toList 0 lo)(hn:1<=n)(hs:SO κ (arrOf st) lo (lo+n))
  (h:∀ag,SB kd a₀ ag->Ch κ (arrOf ag) (pendingOf ag).toList 0 (lo+n)->Q (.yield (none,lo+n)) ag):wpS (model prog w) A E s (JP lo n) Q st:=by
 unfold JP
 refine wpS_bind (wpS_modify (wpS_pure (h _ ⟨hB.perm,hB.kind,hB.failed⟩ ?_)))
 show Ch κ (arrOf st) ((pendingOf st).push (lo,n,0)).toList 0 (lo+n)
 rw[Array.toList_push]
 exact Ch.append.mpr ⟨lo,hC,rfl,hn,hs,rfl⟩
theorem Co_ {st:SortSt}{lo n:Nat}  (hO:LtOk kd κ a₀ prog w A E s)(hB:SB kd a₀ st)(hC:Ch κ (arrOf st) (pendingOf st).toList 0 lo)(hn:1<=n)(hz:lo+n<=a₀.size)(hs:SO κ (arrOf st) lo (lo+n))
  (h:∀ag,SB kd a₀ ag->Ch κ (arrOf ag) (pendingOf ag).toList 0 (lo+n)->Q (.yield (none,lo+n)) ag):wpS (model prog w) A E s (JB a₀.size lo n) Q st:=by
 unfold JB
 refine wpS_bind (wpS_get ?_)
 rcases (pendingOf st).back? with _|⟨s1,n1,q⟩
 ·exact Cn_ hB hC hn hs h
 ·dsimp only
  generalize power' a₀.size (2*s1+n1) (2*s1+n1+n1+n) a₀.size=pw
  refine wpS_bind (wpS_mono (wpS_forRange (I:=fun _ c ag=>c=(none,())/\SB kd a₀ ag/\Ch κ (arrOf ag) (pendingOf ag).toList 0 lo/\Out 0 lo (arrOf st) (arrOf ag))
   (Q:=fun c ag=>c=(none,())/\SB kd a₀ ag/\Ch κ (arrOf ag) (pendingOf ag).toList 0 lo/\Out 0 lo (arrOf st) (arrOf ag)) ?step (fun _ _ hh=>hh) ⟨rfl,hB,hC,Out.refl _ _ _⟩) ?post)
  case step=>
   rintro x c ag _ _ ⟨rfl,g1,g2,g3⟩
   unfold JM
   refine wpS_bind (wpS_get ?_)
   rcases hh:(if (pendingOf ag).size > 1 then (pendingOf ag)[(pendingOf ag).size-2]? else none) with _|⟨a,b,older⟩
   ·exact wpS_pure ⟨rfl,g1,g2,g3⟩
   ·dsimp only
    have jC:(pendingOf ag).size > 1:=by
     by_cases hq:(pendingOf ag).size > 1
     ·exact hq
     ·rw[if_neg hq]at hh;cases hh
    split
    ·exact wpS_pure ⟨rfl,g1,g2,g3⟩
    ·refine wpS_bind (PU hO g1 g2 s!"" s!"" (fun aM k1 k2 k3 k4=>?_))
     rw[if_neg (by simp)]
     exact wpS_pure ⟨rfl,k1,k2,g3.trans k4⟩
  case post=>
   rintro c ag ⟨rfl,g1,g2,g3⟩
   dsimp only
   refine wpS_bind (wpS_modify ?_)
   refine Cn_ ⟨g1.perm,g1.kind,g1.failed⟩ ?_ hn ?_ h
   ·refine Ch.same ?_ g2
    show _=((pendingOf ag).modify _ _).toList.map _
    rw[Array.toList_modify]
    apply List.ext_getElem?
    intro i
    rw[List.getElem?_map,List.getElem?_map,List.getElem?_modify]
    by_cases hi:(pendingOf ag).size-1=i
    ·simp only[if_pos hi];cases (pendingOf ag).toList[i]?<;>rfl
    ·simp only[if_neg hi];cases (pendingOf ag).toList[i]?<;>rfl
   ·exact Kw (fun i h1 h2=>g3 i s!"") hs
theorem Q6 {st:SortSt}  (hO:LtOk kd κ a₀ prog w A E s)(hB:SB kd a₀ st)(hp:pendingOf st = #[])
  (h:∀ag,SB kd a₀ ag->SO κ (arrOf ag) 0 a₀.size->Q () ag):wpS (model prog w) A E s sortRuns' Q st:=by
 rw[NU]
 refine wpS_bind (wpS_get ?_)
 rw[hB.size]
 generalize minRun' a₀.size a₀.size 0=mr
 refine wpS_bind (wpS_mono (wpS_forRange (I:=fun x c ag=>SB kd a₀ ag/\∃lo,c=(none,lo)/\lo<=a₀.size/\(x<=lo\/a₀.size<=lo)/\Ch κ (arrOf ag) (pendingOf ag).toList 0 lo)
  (Q:=fun c ag=>SB kd a₀ ag/\c=(none,a₀.size)/\Ch κ (arrOf ag) (pendingOf ag).toList 0 a₀.size) ?step ?fin ⟨hB,0,rfl,by lia,by lia,by rw[hp];rfl⟩) ?post)
 case fin=>
  rintro c ag ⟨g1,lo,rfl,g2,g3,g4⟩
  obtain rfl:lo=a₀.size:=by lia
  exact⟨g1,rfl,g4⟩
 case step=>
  rintro x c ag _ hx ⟨g1,lo,rfl,g2,g3,g4⟩
  unfold RB
  dsimp only
  by_cases a9:lo >= a₀.size
  ·rw[if_pos a9]
   obtain rfl:lo=a₀.size:=by lia
   exact wpS_pure ⟨g1,rfl,g4⟩
  ·rw[if_neg a9]
   have aR:∀n,1<=n->lo+n<=a₀.size->∀aM,SB kd a₀ aM->Ch κ (arrOf aM) (pendingOf aM).toList 0 (lo+n)->SB kd a₀ aM/\∃kz,((none,lo+n):Option Unit×Nat)=(none,kz)/\kz<=a₀.size/\(x+1<=kz\/a₀.size<=kz)/\Ch κ (arrOf aM) (pendingOf aM).toList 0 kz :=
    fun n h1 h2 aM k1 k2=>⟨k1,lo+n,rfl,h2,by lia,k2⟩
   refine wpS_bind (Q2 hO s!"" s!"" g1 (fun m aM k1 k2 k3 k4=>?_))
   have k5:Ch κ (arrOf aM) (pendingOf aM).toList 0 lo:=by rw[k1.pe];exact g4.congr (fun i _ h2=>k1.out i (.inl h2))
   dsimp only
   unfold RN
   by_cases hm:m<mr
   ·rw[if_pos hm]
    refine wpS_bind (IQ (wpS_bind (NS hO s!"" s!"" k1.b k4 (fun dJ q1 q2=>?_))))
    rw[if_neg (by simp)]
    have q3:Ch κ (arrOf dJ) (pendingOf dJ).toList 0 lo:=by rw[q1.pe];exact k5.congr (fun i _ h2=>q1.out i (.inl h2))
    exact Co_ hO q1.b q3 s!"" s!"" q2 (aR _ s!"" s!"")
   ·rw[if_neg hm]
    exact Co_ hO k1.b k5 k2 s!"" k4 (aR _ k2 s!"")
 case post=>
  rintro c ag ⟨g1,rfl,g4⟩
  dsimp only
  have aN:=g4.le
  refine wpS_bind (wpS_mono (wpS_forRange (I:=fun x c aM=>c=(none,())/\SB kd a₀ aM/\Ch κ (arrOf aM) (pendingOf aM).toList 0 a₀.size/\(pendingOf aM).size+x<=a₀.size)
   (Q:=fun c aM=>c=(none,())/\SB kd a₀ aM/\Ch κ (arrOf aM) (pendingOf aM).toList 0 a₀.size/\(pendingOf aM).size<=1) ?step2 ?fin2 ⟨rfl,g1,g4,by simpa using aN⟩) ?post2)
  case fin2=>
   rintro c aM ⟨rfl,k1,k2,k3⟩
   exact⟨rfl,k1,k2,by lia⟩
  case step2=>
   rintro x c aM _ hx ⟨rfl,k1,k2,k3⟩
   unfold FB
   refine wpS_bind (wpS_get ?_)
   by_cases h1:(pendingOf aM).size<=1
   ·rw[if_pos h1]
    exact wpS_pure ⟨rfl,k1,k2,h1⟩
   ·rw[if_neg h1]
    have hFI:FI (pendingOf aM)+1<(pendingOf aM).size:=by
     unfold FI
     repeat' split
     all_goals lia
    refine wpS_bind (PU hO k1 k2 (Nat.le_refl _) hFI (fun dJ q1 q2 q3 q4=>?_))
    rw[if_neg (by simp)]
    exact wpS_pure ⟨rfl,q1,q2,by lia⟩
  case post2=>
   rintro c aM ⟨rfl,k1,k2,k3⟩
   refine wpS_pure (h aM k1 ?_)
   have hl:(pendingOf aM).toList.length<=1:=by simpa using k3
   match aS:(pendingOf aM).toList,hl with
   |[],_=>rw[aS]at k2;intro i j h1 h2 h3;rw[<-show 0=a₀.size from k2]at h3;lia
   |[p],_=>
    rw[aS]at k2
    obtain⟨c1,c2,c3,c4⟩:=k2
    have e:0+p.2.1=a₀.size:=c4
    rw[e]at c3
    exact c3
end
end aA
namespace HT
theorem lexLt_irr2:∀{xs:List Int},HT.lexLt xs xs=false
 |[]=>rfl
 |x::xs=>by rw[HT.lexLt_cons,if_pos rfl];exact lexLt_irr2
theorem lexLt_trans:∀{xs ys zs:List Int},lexLt xs ys=true->lexLt ys zs=true->lexLt xs zs=true
 |[],[],_,h,_=>by cases h
 |_::_,[],_,h,_=>by cases h
 |_,_::_,[],_,h=>by cases h
 |[],_::_,_::_,_,_=>rfl
 |x::xs,y::ys,z::zs,h,g=>by
  rw[lexLt_cons]at h g ⊢
  by_cases e1:x=y
  ·rw[if_pos e1]at h
   by_cases e2:y=z
   ·rw[if_pos e2]at g;rw[if_pos (e1.trans e2)];exact lexLt_trans h g
   ·rw[if_neg e2]at g;rw[if_neg (e1 ▸ e2),e1];exact g
  ·rw[if_neg e1]at h
   by_cases e2:y=z
   ·rw[if_neg (e2 ▸ e1),<-e2];exact h
   ·rw[if_neg e2]at g
    have:=of_decide_eq_true h
    have:=of_decide_eq_true g
    rw[if_neg s!""]
    exact decide_eq_true s!""
theorem lexLt_total:∀{xs ys:List Int},lexLt xs ys=false->lexLt ys xs=false->xs=ys
 |[],[],_,_=>rfl
 |[],_::_,h,_=>by cases h
 |_::_,[],_,h=>by cases h
 |x::xs,y::ys,h,g=>by
  rw[lexLt_cons]at h g
  by_cases e:x=y
  ·rw[if_pos e]at h;rw[if_pos e.symm]at g;rw[e,lexLt_total h g]
  ·rw[if_neg e]at h;rw[if_neg (Ne.symm e)]at g
   have:=of_decide_eq_false h
   have:=of_decide_eq_false g
   lia
end HT
namespace aA
open PySem PyProof.Rows L2
noncomputable def pblt (x y:Int×List Int):Bool:=if x.1=y.1 then HT.lexLt x.2 y.2 else decide (x.1<y.1)
theorem M3  (h:pblt a b=true)(g:pblt b c=true):pblt a c=true:=by
 unfold pblt at *
 by_cases e1:a.1=b.1
 ·rw[if_pos e1]at h
  by_cases e2:b.1=c.1
  ·rw[if_pos e2]at g;rw[if_pos (e1.trans e2)];exact HT.lexLt_trans h g
  ·rw[if_neg e2]at g;rw[if_neg (e1 ▸ e2),e1];exact g
 ·rw[if_neg e1]at h
  by_cases e2:b.1=c.1
  ·rw[if_neg (e2 ▸ e1),<-e2];exact h
  ·rw[if_neg e2]at g
   have:=of_decide_eq_true h
   have:=of_decide_eq_true g
   rw[if_neg s!""]
   exact decide_eq_true s!""
theorem pblt_total  (h:pblt a b=false)(g:pblt b a=false):a=b:=by
 unfold pblt at *
 by_cases e:a.1=b.1
 ·rw[if_pos e]at h;rw[if_pos e.symm]at g
  exact Prod.ext e (HT.lexLt_total h g)
 ·rw[if_neg e]at h;rw[if_neg (Ne.symm e)]at g
  have:=of_decide_eq_false h
  have:=of_decide_eq_false g
  lia
theorem Xn  (h:pblt a c=true):pblt a b=true\/pblt b c=true:=by
 cases e:pblt a b with
 |true=>exact .inl rfl
 |false=>
  cases e2:pblt b a with
  |true=>exact .inr (M3 e2 h)
  |false=>have:=pblt_total e e2;subst this;exact .inr h
noncomputable def KeyV (K:PySem.W.Frag)(H:Hp)(v:Value)(n:Int)(ns:List Int):Prop:=∃t u,v=.ref t/\SqT K H t [.int n,.ref u]/\SqT K H u (ns.map V.int)
open Classical in
noncomputable def kS (K:PySem.W.Frag)(H:Hp):PyProof.Rows.KeyKind where
 α:=Int×List Int
 blt:=pblt
 irrefl:=fun a=>by unfold pblt;rw[if_pos rfl];exact HT.lexLt_irr2
 trans:=fun _ _ _=>M3
 negTrans:=fun _ _ _=>Xn
 total:=fun _ _=>pblt_total
 keyOf:=fun v=>if h:∃p:Int×List Int,KeyV K H v p.1 p.2 then some h.choose else none
 dflt:=(0,[])
section
variable {X:Cx} {af:List (Addr×Obj)} {σ:L2.St} {H:Hp} {s:Shared}
theorem K2:∀{ns ms:List Int},ns.map V.int=ms.map V.int->ns=ms
 |[],[],_=>rfl
 |[],_::_,h=>by cases h
 |_::_,[],h=>by cases h
 |n::ns,m::ms,h=>by
  simp only[List.map_cons,List.cons.injEq,V.int.injEq]at h
  rw[h.1,K2 h.2]
theorem KeyV.inj (I:Inv X af σ H s)    (h:KeyV X.K H v n ns)(g:KeyV X.K H v m ms):n=m/\ns=ms:=by
 obtain⟨t,u,rfl,h1,h2⟩:=h
 obtain⟨t',u',e,g1,g2⟩:=g
 cases e
 have e:=I.tuple_inj h1 g1
 simp only[List.cons.injEq,V.int.injEq,V.ref.injEq,and_true]at e
 obtain⟨rfl,rfl⟩:=e
 exact⟨rfl,K2 (I.tuple_inj h2 g2)⟩
theorem Xo (I:Inv X af σ H s)    (h:KeyV X.K H x.1 n ns):KE (kS X.K H) x=(n,ns):=by
 have hex:∃p:Int×List Int,KeyV X.K H x.1 p.1 p.2:=⟨(n,ns),h⟩
 have e:(kS X.K H).keyOf x.1=some hex.choose:=dif_pos hex
 have e2:=KeyV.inj I hex.choose_spec h
 unfold KE
 rw[e]
 exact Prod.ext e2.1 e2.2
theorem Al_ (I:Inv X af σ H s)   (hu:A.units+6<cLine)    (hv:KeyV X.K H v n ns)(hw:KeyV X.K H u m ms)  (h:Q (pblt (n,ns) (m,ms)) s):
  wpAny (model X.prog X.w) A (keyLt' (tuples' true) v u) Q E s:=by
 obtain⟨a,ta,rfl,ha,hta⟩:=hv
 obtain⟨b,tb,rfl,hb,jG⟩:=hw
 obtain⟨its,r1,⟨o1,q1,c1,n1,d1⟩,_⟩:=I.tuple ha
 obtain⟨az,r2,⟨o2,q2,c2,n2,d2⟩,_⟩:=I.tuple hb
 obtain⟨jts,k1,p1,_⟩:=I.tuple hta
 obtain⟨jts2,k2,p2,_⟩:=I.tuple jG
 have i1:IntsAre jts.toArray.toList ns:=intsAre_of k1
 have i2:IntsAre jts2.toArray.toList ms:=intsAre_of k2
 have eqT:=fun (bb:Bool) (he:EqD X.K H 2 (.ref ta) (.ref tb) bb)=>(EqD.at (x:=V.ref ta) (y:=V.ref tb) (u:=Value.ref ta) (v:=Value.ref tb) I 2 A s!"" rfl rfl he).1
 have hed:=EqD.ints (K:=X.K) (H:=H) (a:=ta) (c:=tb) (xs:=ns) (ys:=ms) (.inr ⟨hta,jG⟩) 1
 cases r1 with
 |cons e1 r1'=>cases r1' with
  |cons e2 r1''=>cases r1'';cases r2 with
   |cons e3 r2'=>cases r2' with
    |cons e4 r2'' =>
     cases r2''
     obtain⟨t1,rfl⟩:=e1
     obtain⟨t2,rfl⟩:=e3
     cases e2
     cases e4
     refine PySem.W.kat_lt q1 d1 q2 d2 ?_
     simp only[List.zip_cons_cons,List.zip_nil_right]
     refine PySem.W.kat_cons (wpAny_eqBool_int (PySem.W.kat_go (fun e=>?_) (fun e=>?_)))
     ·have lG:n=m:=by simpa using e
      refine PySem.W.kat_yes (PySem.W.kat_cons (eqT _ hed _ _ _ _ (PySem.W.kat_go (fun e'=>?_) (fun e'=>?_))))
      ·have gg:ns=ms:=of_decide_eq_true e'
       refine PySem.W.kat_yes (PySem.W.kat_nil ?_)
       have:pblt (n,ns) (m,ms)=decide (([Value.int n t1,Value.ref ta].toArray).size<([Value.int m t2,Value.ref tb].toArray).size):=by
        subst lG;subst gg
        unfold pblt
        rw[if_pos rfl,HT.lexLt_irr2];rfl
       rw[<-this];exact h
      ·have gg:ns≠ms:=of_decide_eq_false e'
       refine PySem.W.kat_no (PySem.W.kat_one _ _ ?_)
       have:pblt (n,ns) (m,ms)=HT.lexLt ns ms:=by unfold pblt;rw[if_pos lG]
       rw[this]at h
       exact HT.lt_tupInts p1 p2 i1 i2 s!"" h
     ·have lG:n≠m:=by simpa using e
      refine PySem.W.kat_no ?_
      show wpAny _ _ (oneLt' true _ _) _ _ _
      refine oneLt_int ?_
      have:pblt (n,ns) (m,ms)=decide (n<m):=by unfold pblt;rw[if_neg lG]
      rw[<-this];exact h
theorem ltOk (I:Inv X af σ H s)   (hu:A.units+6<cLine)  (hk:∀x∈a₀.toList,∃n ns,KeyV X.K H x.1 n ns):LtOk (tuples' true) (kS X.K H) a₀ X.prog X.w A E s:=by
 intro x y st Q hx hy mP h
 obtain⟨n,ns,h1⟩:=hk x hx
 obtain⟨m,ms,h2⟩:=hk y hy
 rw[Xo I h1,Xo I h2]at h
 rw[lt'_eq]
 refine wpS_bind (wpS_get ?_)
 rw[mP]
 refine wpS_bind (wpS_lift (wpAny_attempt (Al_ I hu h1 h2 ⟨rfl,?_⟩)))
 exact wpS_pure h
end
end aA
namespace aA
open PySem PyProof.Rows L2
theorem Q7 {α β:Type}{f:α->β}:∀{k l:List β},k.Perm l->∀m:List α,k=m.map f->∃m':List α,m'.Perm m/\l=m'.map f:=by
 intro k l h
 induction h with
 |nil=>intro m e;cases m with
  |nil=>exact⟨[],.refl _,rfl⟩
  |cons=>cases e
 |cons x _ ih=>intro m e;cases m with
  |nil=>cases e
  |cons y m=>
   simp only[List.map_cons,List.cons.injEq]at e
   obtain⟨rfl,e⟩:=e
   obtain⟨m',p,rfl⟩:=ih m e
   exact⟨y::m',p.cons y,rfl⟩
 |swap x y l=>intro m e;cases m with
  |nil=>cases e
  |cons a m=>cases m with
   |nil=>cases e
   |cons b m=>
    simp only[List.map_cons,List.cons.injEq]at e
    obtain⟨rfl,rfl,rfl⟩:=e
    exact⟨b::a::m,.swap a b m,rfl⟩
 |trans _ _ ih1 ih2=>
  intro m e
  obtain⟨m1,p1,e1⟩:=ih1 m e
  obtain⟨m2,p2,e2⟩:=ih2 m1 e1
  exact⟨m2,p2.trans p1,e2⟩
noncomputable abbrev Wd:=Addr×List Int
noncomputable def wv (ws:List Wd):List V:=ws.map fun w=>V.ref w.1
noncomputable def wu (ws:List Wd):List Value:=ws.map fun w=>Value.ref w.1
theorem Wi:∀ws:List Wd,Vals (wv ws) (wu ws)
 |[]=>.nil
 |_::r=>.cons rfl (Wi r)
theorem Ih:∀{ts:List Addr} {us:List Value},Vals (ts.map V.ref) us->us=ts.map Value.ref
 |[],_,h=>by cases h;rfl
 |t::ts,_,h=>by
  cases h with
  |cons e r=>
   have e':_=Value.ref t:=e
   rw[Ih r,e'];rfl
noncomputable def kw (w:Wd):Int×List Int:=((w.2.length:Int),w.2)
noncomputable def Srt (os:List Wd):Prop:=os.Pairwise fun p q=>pblt (kw q) (kw p)=false
noncomputable def WsOk (K:PySem.W.Frag)(H:Hp)(ws:List Wd):Prop:=∀w∈ws,SqT K H w.1 (w.2.map V.int)
noncomputable def TsOk (K:PySem.W.Frag)(H:Hp)(ts:List Addr)(ws:List Wd):Prop:=∀(j:Nat) t w,ts[j]?=some t->ws[j]?=some w->SqT K H t [.int w.2.length,.ref w.1]
section
variable {X:Cx} {af:List (Addr×Obj)} {σ:L2.St} {H H0:Hp} {s:Shared} {A:Around} {E:Value->Shared->Prop} {ws:List Wd} {ts:List Addr} {a kT:Addr} {e1:Nat} {P:PySem.Fin->Shared->Prop} {f:Value}
noncomputable def Turn (X:Cx)(af:List (Addr×Obj))(σ:L2.St)(A:Around)(f:Value)(ws:List Wd)(H0:Hp):Prop:=∀w∈ws,∀(H':Hp) (s':Shared),Inv X af σ H' s'->Same H0 H' ->
 wpAny (model X.prog X.w) A (call f [.ref w.1]) (EP X af σ (fun k gf=>∃t,k=.ref t/\Same H' gf/\SqT X.K gf t [.int w.2.length,.ref w.1])) (fun _ _=>False) s'
noncomputable abbrev Emp (a:Addr)(e1:Nat):L2.HO:=.ext fun h=>h.get? a=some (seqObj "list" #[] e1)
noncomputable def Xp (X:Cx)(af:List (Addr×Obj))(σ:L2.St)(H0:Hp)(a:Addr)(ws:List Wd)(P:PySem.Fin->Shared->Prop):Prop:=
 ∀s' H' os,Inv X af σ H' s'->Same H0 H'->H' a=some (.lst (wv os))->os.Perm ws->Srt os->P (.done (.ret .none)) s'
theorem Cp_ {st:SortSt}{os:List Wd}(I:Inv X af σ H s)(ha:H a=some (Emp a e1))(hk:H kT=some (.lst (ts.map V.ref)))(jH:kT≠a)(h0:Same H0 H)(hn:H0 a=none)(jI:H0 kT=none)(hz:os.length<=sizeLine)
  (harr:(arrOf st).map (·.2)=(wu os).toArray) (hf:failedOf st=none) (hp:os.Perm ws) (hs:Srt os) (h:Xp X af σ H0 a ws P):
  wpAny (model X.prog X.w) A (ksk_tail a false e1 (.ref kT) st) P E s:=by
 obtain⟨z,its,n,r,el,e⟩:=I.lstM hk
 have I1:Inv X af σ (upd H kT (.lst [])) {s with heap:=s.heap.update kT (Obj.mapSeq fun _=>(#[]:Array Value)),toks:=s.toks}:=I.lset (its':=[]) (f:=fun _ => #[]) hk e rfl .nil (Nat.zero_le _)
 have iC:upd H kT (.lst []) a=some (Emp a e1):=by rw[Ah (Ne.symm jH)];exact ha
 obtain⟨e2,_,_⟩:=I1.hok a _ iC
 unfold ksk_tail
 refine wpAny_bind (listUpdate_at e rfl ?_ (by rw[List.size_toArray,<-el];exact z) (Nat.zero_le _))
 refine wpAny_bind (wpAny_letGo ?_)
 refine wpAny_bind (seqEpoch_at e2 rfl ?_)
 simp only[Bool.false_eq_true,if_false]
 rw[harr]
 refine wpAny_bind (listUpdate_at e2 rfl ?_ (Nat.zero_le _) (by rw[List.size_toArray];simp only[wu,List.length_map];lia))
 rw[hf]
 simp only[bne_self_eq_false,Bool.false_eq_true,if_false]
 have q:=PySem.IsL.update (f:=fun _=>(wu os).toArray) e2
 have I2:Inv X af σ (upd (upd H kT (.lst [])) a (.lst (wv os))) {s with heap:=(s.heap.update kT (Obj.mapSeq fun _=>(#[]:Array Value))).update a (Obj.mapSeq fun _=>(wu os).toArray),toks:=s.toks}:=by
  refine I1.write (x:=a) (e:=a) (by rw[iC];exact trivial) (.inl rfl) (fun b' u hb hu=>(Heap.get?_update_other _ _ (Ne.symm hb)).trans hu) ⟨_,q⟩ ⟨by simp only[wv,List.length_map];exact hz,wu os,_,Wi os,q⟩
 exact wpAny_pure (h _ _ os I2 ((h0.over jI).over hn) Ab hp hs)
theorem M4 (hl:ts.length=ws.length):((ts.map Value.ref).toArray.zip (wu ws).toArray).toList=(ts.zip ws).map fun p=>(Value.ref p.1,Value.ref p.2.1):=by
 rw[ksk_zip,List.toList_toArray]
 unfold wu
 rw[List.zip_map]
 rfl
theorem Wj (hl:ts.length=ws.length)(hT:TsOk X.K H ts ws)  (hp:p∈ts.zip ws):SqT X.K H p.1 [.int p.2.2.length,.ref p.2.1]:=by
 obtain⟨j,hj,e⟩:=List.mem_iff_getElem.mp hp
 rw[List.getElem_zip]at e
 rw[List.length_zip]at hj
 subst e
 exact hT j _ _ (List.getElem?_eq_getElem s!"") (List.getElem?_eq_getElem s!"")
theorem Wk (I:Inv X af σ H s):∀(ts:List Addr) (ws:List Wd),ts.length=ws.length->(∀p∈ts.zip ws,SqT X.K H p.1 [.int p.2.2.length,.ref p.2.1])->∃fs:List Value,PySem.W.KatTups s.heap (ts.map Value.ref) fs/\fs.length=ts.length/\∀v∈fs,∃n t,v=.int n t
 |[],[],_,_=>⟨[],trivial,rfl,fun v hv=>by cases hv⟩
 |t::ts,w::ws,hl,h=>by
  obtain⟨fs,h1,h2,h3⟩:=Wk I ts ws (by simpa using hl) (fun p hp=>h p (List.mem_cons_of_mem _ hp))
  have h4:SqT X.K H t [.int w.2.length,.ref w.1]:=h (t,w) List.mem_cons_self
  obtain⟨its,r,⟨o,ho,hc,n,hd⟩,_⟩:=I.tuple h4
  cases r with
  |cons e1 r' =>
   obtain⟨tk,rfl⟩:=e1
   refine⟨.int w.2.length tk::fs,PySem.W.KatTups.cons ho hc hd rfl h1,by simp[h2],fun v hv=>?_⟩
   rcases List.mem_cons.mp hv with rfl|hv
   ·exact⟨_,_,rfl⟩
   ·exact h3 v hv
theorem CQ_ (I:Inv X af σ H s)(hu:A.units+6<cLine)(ha:H a=some (Emp a e1))(hk:H kT=some (.lst (ts.map V.ref)))(jH:kT≠a)(h0:Same H0 H)(hn:H0 a=none)(jI:H0 kT=none)(hz:ws.length<=sizeLine)
  (hl:ts.length=ws.length) (hW:WsOk X.K H ws) (hT:TsOk X.K H ts ws) (h:Xp X af σ H0 a ws P):
  wpAny (model X.prog X.w) A (ksk_end a false (wu ws).toArray e1 (.ref kT) (ts.map Value.ref).toArray) P E s:=by
 have hsz:(wu ws).toArray.size=ws.length:=by simp[wu]
 have bM:=fun p hp=>Wj (X:=X) (H:=H) hl hT (p:=p) hp
 have fin:∀st:SortSt,(arrOf st).Perm ((ts.map Value.ref).toArray.zip (wu ws).toArray)->failedOf st=none->SO (kS X.K H) (arrOf st) 0 (arrOf st).size->wpAny (model X.prog X.w) A (ksk_tail a false e1 (.ref kT) st) P E s:=by
  intro st hp hf hs
  have lD:=(Array.perm_iff_toList_perm.mp hp).symm
  rw[M4 hl]at lD
  obtain⟨m',p1,e⟩:=Q7 lD _ rfl
  have e2:(arrOf st).map (·.2)=(wu (m'.map (·.2))).toArray:=by
   apply Array.ext'
   rw[Array.toList_map,e,List.toList_toArray]
   simp[wu]
  have pz:(m'.map (·.2)).Perm ws:=by
   have:=p1.map (·.2)
   rwa [List.map_snd_zip s!""]at this
  refine Cp_ I ha hk jH h0 hn jI (by rw[pz.length_eq];exact hz) e2 hf pz ?_ h
  have bY:=(M0 (Nat.le_refl _)).mp hs
  have e3:seg (arrOf st) 0 (arrOf st).size=(arrOf st).toList:=by unfold seg;rw[List.drop_zero];exact List.take_of_length_le (by simp)
  rw[e3,e,List.pairwise_map]at bY
  unfold Srt
  rw[List.pairwise_map]
  refine bY.imp_of_mem (fun {x y} hx hy aN=>?_)
  have kx:KeyV X.K H (Value.ref x.1) x.2.2.length x.2.2:=⟨_,_,rfl,bM x (p1.mem_iff.mp hx),hW _ (List.of_mem_zip (p1.mem_iff.mp hx)).2⟩
  have ky:KeyV X.K H (Value.ref y.1) y.2.2.length y.2.2:=⟨_,_,rfl,bM y (p1.mem_iff.mp hy),hW _ (List.of_mem_zip (p1.mem_iff.mp hy)).2⟩
  unfold LeK at aN
  rw[Xo I (x:=(Value.ref x.1,Value.ref x.2.1)) kx,Xo I (x:=(Value.ref y.1,Value.ref y.2.1)) ky]at aN
  exact aN
 unfold ksk_end
 simp only[Bool.false_eq_true,if_false]
 by_cases h2:(wu ws).toArray.size<2
 ·rw[if_pos h2,if_pos h2]
  refine wpAny_bind (wpAny_pure ?_)
  rw[StateT.run_pure]
  refine wpAny_bind (wpAny_pure ?_)
  refine fin (SortSt.mk' general' ((ts.map Value.ref).toArray.zip (wu ws).toArray) #[] 7 none) (Array.Perm.refl _) rfl ?_
  intro i j g1 g2 g3
  have g4:j<((ts.map Value.ref).toArray.zip (wu ws).toArray).size:=g3
  rw[Array.size_zip,hsz]at g4
  have:i=j:=by lia
  subst this
  exact KeyOrd.kle_refl _
 ·rw[if_neg h2,if_neg h2]
  obtain⟨fs,f1,f2,f3⟩:=Wk I ts ws hl bM
  refine wpAny_bind (PySem.W.kat_kind (T:=.type "int") f1 s!"" (fun v hv=>?_) (by decide) ?_)
  ·obtain⟨n,t,rfl⟩:=f3 v hv
   exact PySem.W.Looks.of_pure rfl
  ·have hz0:((ts.map Value.ref).toArray.zip (wu ws).toArray).size=ws.length:=by simp[wu,hl]
   refine wpAny_bind (wpAny_mono (Q6 (κ:=kS X.K H) (kd:=tuples' true) (a₀:=(ts.map Value.ref).toArray.zip (wu ws).toArray) (st:=SortSt.mk' (tuples' true) ((ts.map Value.ref).toArray.zip (wu ws).toArray) #[] 7 none)
    (Q:=fun _ ag=>SB (tuples' true) ((ts.map Value.ref).toArray.zip (wu ws).toArray) ag/\SO (kS X.K H) (arrOf ag) 0 ((ts.map Value.ref).toArray.zip (wu ws).toArray).size)
    (ltOk I hu (fun x hx=>?_)) ⟨Array.Perm.refl _,rfl,rfl⟩ rfl fun ag a1 a2=>⟨a1,a2⟩) ?_ fun _ _ e=>e)
   ·rw[M4 hl]at hx
    obtain⟨p,hp,rfl⟩:=List.mem_map.mp hx
    exact⟨p.2.2.length,p.2.2,_,_,rfl,bM p hp,hW _ (List.of_mem_zip hp).2⟩
   ·rintro⟨⟨⟩,ag⟩ s' ⟨rfl,hB,hS⟩
    exact fin ag hB.perm hB.failed (by rw[hB.size];exact hS)
theorem WsOk.same {K:PySem.W.Frag}  (h:WsOk K H ws)(e:Same H H'):WsOk K H' ws:=fun w hw=>e.seqT (h w hw)
theorem Xq {K:PySem.W.Frag}     (hp:H p=some (.lst zs))(h:SqT K H b xs):SqT K (upd H p o) b xs:=by
 have:TSq K H (upd H p o):=TSq.un (fun xs e=>by rw[hp]at e;cases e) (fun ob xs e=>by rw[hp]at e;cases e)
 exact this b xs h
theorem Cq_ (I:Inv X af σ H s)(hu:A.units+6<cLine)(ha:H a=some (Emp a e1))(hk:H kT=some (.lst []))(jH:kT≠a)(h0:Same H0 H)(hn:H0 a=none)(jI:H0 kT=none)(hz:ws.length<sizeLine)
  (hW:WsOk X.K H0 ws) (hT:Turn X af σ A f ws H0) (h:Xp X af σ H0 a ws P):
  wpAny (model X.prog X.w) A (ksk_rest a f false (wu ws).toArray e1 (.ref kT)) P E s:=by
 unfold ksk_rest
 refine wpAny_bind (wpAny_rule ?_)
 rw[List.forIn_toArray]
 refine wpAny_bind (ksk_fold (fun i s'=>∃(H':Hp) (ts:List Addr),Inv X af σ H' s'/\Same H0 H'/\H' a=some (Emp a e1)/\H' kT=some (.lst (ts.map V.ref))/\ts.length=i/\TsOk X.K H' ts ws) (wu ws) 0 s
  ⟨H,[],I,h0,ha,hk,rfl,fun j t w h1 _=>by simp at h1⟩ ?step ?done)
 case step=>
  rintro j x s' hx ⟨H',ts,I',g0,g1,g2,g3,g4⟩
  simp only[Nat.zero_add]at g3 ⊢
  unfold wu at hx
  rw[List.getElem?_map]at hx
  obtain⟨w,hw,rfl⟩:∃w,ws[j]?=some w/\Value.ref w.1=x:=by
   cases e:ws[j]? with
   |none=>rw[e]at hx;cases hx
   |some w=>rw[e]at hx;cases hx;exact⟨w,rfl,rfl⟩
  have hj:j<ws.length:=(List.getElem?_eq_some_iff.mp hw).1
  refine wpAny_bind (wpAny_attempt (wpAny_mono (hT w (List.mem_of_getElem? hw) H' s' I' g0) (fun k s2 fO=>?_) fun _ _ z=>z.elim))
  obtain⟨v,H2,I2,rv,t,rfl,q1,q2⟩:=fO
  have rk:k=Value.ref t:=rv
  subst rk
  have fQ:=q1 _ _ g2
  obtain⟨z,its,n,r,el,e⟩:=I2.lstM fQ
  dsimp only
  have hi:=Ih r
  have lH:its.length=j:=by rw[hi,List.length_map];exact g3
  refine wpAny_bind (listUpdate_at e rfl ?_ (by rw[List.size_toArray,lH];lia) (by rw[Array.size_push,List.size_toArray,lH];lia))
  refine wpAny_pure ⟨rfl,upd H2 kT (.lst ((ts++[t]).map V.ref)),ts++[t],?_,?_,?_,Ab,by simp[g3],?_⟩
  ·have:=I2.lset (its':=its++[Value.ref t]) (ys:=(ts++[t]).map V.ref) (f:=fun a=>a.push (Value.ref t)) (t':=s2.toks) fQ e (by simp) (by rw[List.map_append];exact r.append (.cons rfl .nil)) (by rw[List.length_map,List.length_append,g3];simp;lia)
   exact this
  ·exact (g0.trans q1).over jI
  ·rw[Ah (Ne.symm jH)];exact q1 _ _ g1
  ·intro i t' w' h1 h2
   refine Xq fQ ?_
   by_cases hi:i<ts.length
   ·rw[List.getElem?_append_left hi]at h1
    exact q1.seqT (g4 i t' w' h1 h2)
   ·rw[List.getElem?_append_right s!""]at h1
    have:i-ts.length=0:=by
     by_cases hq:i-ts.length=0
     ·exact hq
     ·rw[List.getElem?_eq_none (by simp;lia)]at h1;cases h1
    rw[this]at h1
    cases h1
    have:i=j:=by lia
    subst this
    rw[hw]at h2;cases h2
    exact q2
 case done=>
  rintro s' ⟨H',ts,I',g0,g1,g2,g3,g4⟩
  obtain⟨z,its,n,r,el,e⟩:=I'.lstM g2
  have hi:=Ih r
  subst hi
  refine wpAny_bind (listItems_at e rfl ?_)
  exact CQ_ I' hu g1 g2 jH g0 hn jI s!"" (by rw[g3];simp[wu]) (hW.same g0) g4 h
theorem Cr_ {n:Nat}(I:Inv X af σ H s)(hu:A.units+6<cLine)(ha:H a=some (.lst (wv ws)))(h0:Same H0 H)(hn:H0 a=none)(hz:ws.length<sizeLine)(gQ:∀b,s.heap.objs.size<=b->H0 b=none)
  (hW:WsOk X.K H0 ws) (hT:Turn X af σ A f ws H0) (h:Xp X af σ H0 a ws P):
  wpAny (model X.prog X.w) A (ksk_tree a f false) P E s:=by
 obtain⟨z,its,n,r,el,e⟩:=I.lstM ha
 have hi:its=wu ws:=by
  have:Vals ((ws.map (·.1)).map V.ref) its:=by rw[List.map_map];exact r
  rw[Ih this,List.map_map];rfl
 subst hi
 have q:=PySem.IsL.update (f:=fun _=>(#[]:Array Value)) e
 obtain⟨e1,jJ⟩:∃e1,(s.heap.update a (Obj.mapSeq fun _=>(#[]:Array Value))).get? a=some (seqObj "list" #[] e1):=⟨_,q⟩
 have I1:Inv X af σ (upd H a (Emp a e1)) {s with heap:=s.heap.update a (Obj.mapSeq fun _=>(#[]:Array Value)),toks:=s.toks}:=by
  refine I.write (x:=a) (e:=a) (by rw[ha];exact trivial) (.inl rfl) (fun b' u hb hu=>(Heap.get?_update_other _ _ (Ne.symm hb)).trans hu) ⟨_,jJ⟩ ⟨jJ,⟨_,jJ⟩,fun h1 h2 g1 g2=>g2 _ g1⟩
 unfold ksk_tree
 refine wpAny_bind (listItems_at e rfl ?_)
 refine wpAny_bind (listUpdate_at e rfl ?_ (by rw[List.size_toArray];simp only[wu,List.length_map];lia) (Nat.zero_le _))
 refine wpAny_bind (seqEpoch_at jJ rfl ?_)
 refine wpAny_bind (wpAny_newTuple ?_ (by rw[List.toList_toArray];simp only[wu,List.length_map];lia))
 refine wpAny_bind (wpAny_newList ?_ (Nat.zero_le _))
 refine wpAny_holding ?_
 have I2:=I1.kept (t':=s.toks) (h':=(s.heap.update a (Obj.mapSeq fun _=>(#[]:Array Value))).push {cls:=.type "tuple",data:=.seq (wu ws).toArray}) (fun _ _ q=>Heap.get?_push_of_some _ q)
 have I3:=I2.lnew (t':=s.toks) (its:=[]) (ys:=[]) .nil (Nat.zero_le _)
 have hk:((s.heap.update a (Obj.mapSeq fun _=>(#[]:Array Value))).push {cls:=.type "tuple",data:=.seq (wu ws).toArray}).objs.size=s.heap.objs.size+1:=by rw[size_push',Heap.size_update]
 have ar:=Heap.lt_size e
 refine Cq_ I3 hu ?_ Ab ?_ ?_ hn ?_ hz hW hT h
 ·rw[Ah (by show a≠_;rw[hk];exact Nat.ne_of_lt (Nat.lt_succ_of_lt ar))];exact Ab
 ·show _≠a
  rw[hk];exact Nat.ne_of_gt (Nat.lt_succ_of_lt ar)
 ·refine (h0.over hn).over (gQ _ ?_)
  show _<=_
  rw[hk];lia
 ·refine gQ _ ?_
  show _<=_
  rw[hk];lia
noncomputable def CR_ (X:Cx)(af:List (Addr×Obj))(σ:L2.St)(H:Hp)(ws:List Wd)(Q:Value->Shared->Prop):Prop:=
 ∀s' H' D os,Inv X af σ H' s'->Same H H'->H D=none->H' D=some (.lst (wv os))->os.Perm ws->Srt os->Q (.ref D) s'
theorem Xr   (I:Inv X af σ H s)(hu:A.units+8<cLine)(hl:SqL X.K H l (wv ws))(hz:ws.length<sizeLine)(hW:WsOk X.K H ws)
  (hT:Turn X af σ A.in1.in1 (.ref q) ws H) (h:CR_ X af σ H ws Q):
  wpAny (model X.prog X.w) A (call (.builtin "sorted") [.ref l] [(Str.ofString "key",.ref q)]) Q E s:=by
 obtain⟨its,r,pl,_⟩:=I.list hl
 have hi:its=wu ws:=by
  have:Vals ((ws.map (·.1)).map V.ref) its:=by rw[List.map_map];exact r
  rw[Ih this,List.map_map];rfl
 subst hi
 have ak:(wu ws).length=ws.length:=by simp[wu]
 refine call_function_entry_kw kind_sorted plain_sorted entry_sorted (ksk_s1 _ _) ?_
 unfold Builtin.«sorted»
 refine wpAny_bind (m:=checkCount "sorted" 1 1 _) (wpAny_pure ?_)
 refine wpAny_bind (collect_list (vs:=wu ws) ?isl ?_ s!"")
 case isl=>
  exact pl.isList
 refine wpAny_bind (wpAny_newList ?_ s!"")
 have hsz:((s.heap.push (seqObj "list" #[] 0)).update s.heap.objs.size (Obj.mapSeq (· ++ (wu ws).toArray))).objs.size=s.heap.objs.size+1:=by
  rw[Heap.size_update,size_push']
 have keep:∀b o,s.heap.get? b=some o->((s.heap.push (seqObj "list" #[] 0)).update s.heap.objs.size (Obj.mapSeq (· ++ (wu ws).toArray))).get? b=some o:=fun b o q=>by
  have ar:b<s.heap.objs.size:=Heap.lt_size q
  rw[Heap.get?_update_ne _ _ _ _ (Nat.ne_of_lt ar),Heap.get?_push_ne _ _ _ (Nat.ne_of_lt ar)]
  exact q
 have I1:=I.kept (t':=s.toks) keep
 have I2:=I1.lnew (t':=s.toks) (its:=wu ws) (ys:=wv ws) (Wi ws) (by simp only[wv,List.length_map];lia)
 have hD:H (s.heap.objs.size+1)=none:=I.hok.fresh (Nat.le_succ _)
 have mF:(((s.heap.push (seqObj "list" #[] 0)).update s.heap.objs.size (Obj.mapSeq (· ++ (wu ws).toArray))).push (seqObj "list" (wu ws).toArray 0)).get? (s.heap.objs.size+1)=some (seqObj "list" (wu ws).toArray 0):=by
  rw[<-hsz];exact Heap.get?_push_size _ rfl
 show wpAny _ _ _ _ _ {s with heap:=((s.heap.push (seqObj "list" #[] 0)).update s.heap.objs.size (Obj.mapSeq (· ++ (wu ws).toArray))).push (seqObj "list" (wu ws).toArray 0)}
 have I3:Inv X af σ (upd H (s.heap.objs.size+1) (.lst (wv ws))) {s with heap:=((s.heap.push (seqObj "list" #[] 0)).update s.heap.objs.size (Obj.mapSeq (· ++ (wu ws).toArray))).push (seqObj "list" (wu ws).toArray 0)}:=by
  have:=I2
  dsimp only at this
  rw[hsz]at this
  exact this
 rw[hsz]
 refine wpAny_bind (wpAny_holding (wpAny_call_entry_kw slot_list_sort ⟨_,mF,rfl⟩ entry_list_sort ?body (ksk_l1 _ _)))
 case body=>
  have dn:=ksk_t1 q (s.heap.objs.size+1)
  show wpAny (model X.prog X.w) A.in1.in1 (Builtin.«list.sort» ⟨[.ref (s.heap.objs.size+1)],[(Str.ofString "key",.ref q)]⟩) _ _ _
  rw[dn]
  refine Cr_ (n:=0) (H0:=H) I3 (by rw[in1_units,in1_units];lia) Ab (Same.new hD) hD hz (fun b hb=>I.hok.fresh ?_) hW hT fun s' H' os I' g1 g2 g3 g4=>⟨_,rfl,?_⟩
  ·have fU:(((s.heap.push (seqObj "list" #[] 0)).update s.heap.objs.size (Obj.mapSeq (· ++ (wu ws).toArray))).push (seqObj "list" (wu ws).toArray 0)).objs.size<=b:=hb
   rw[size_push',hsz]at fU
   lia
  ·exact wpAny_pure ⟨_,rfl,h s' H' _ os I' g1 hD g2 g3 g4⟩
end
end aA
namespace L2
open PySem PySem.Spec PyProof.Rows
theorem Cs_   {K:PySem.W.Frag}
               (S:FnScope N ps scope) (hr:Room (k+1) A) (e0:Env0 P w K mg base A outer s H)
    (ho:s.heap.get? f=some (PySem.W.kla_obj name qual params body scope [] pm c' fR)) (bo:s.heap.CodeRec (.ref c') qual) (hb:bindArgs (PySem.W.kla_fn name qual params body scope [] pm (.ref c') fR) args=pure (ps.zip us)) (r:Vals vs us) (hl:vs.length=ps.length)
    (ht:PE (cxOf CX0 P w K mg base N qual scope f (.ref c') A outer s H E).nox body t) (hq:t (start N vs) H Q):codeAny (model P w) A (.call (.ref f) args) (CR CX0 outer P w H s Q E) s:=by
  have mL:s.heap.NoLimit:=e0.mod.nolimit.keeps fun b o e=>(e0.bs b o e).1
  have eL:∀y∈ps.zip us,scope.names.lookup y.1=some .local\/(scope.names.lookup y.1=some .cell/\((cellsFrom (s.heap.objs.size+1) scope.names []).lookup y.1).isSome=true):=fun ⟨n,v⟩ hy=>by
    rcases S.par n (List.of_mem_zip hy).1 with q|q
    . exact .inl q
    . exact .inr ⟨q,PySem.W.cellsFrom_some _ _ _ (.inl q)⟩
  refine PySem.W.kla_callFunE hr.depth ho rfl S.co S.gen rfl bo ?_
  rw[hb]
  refine wpAny_pure ?_
  refine wpAny_newFunctionEnv_cells S.kind eL fun env he s1 x=>?_
  subst he
  refine⟨mL.keeps x.toInCall.keep,PySem.W.kla_codeExpr ?_⟩
  have I:Inv (cxOf CX0 P w K mg base N qual scope f (.ref c') A outer s H E) [] (start N vs) H s1:=O5 S hr.hd e0 hl r x
  refine wpAny_mono (ht [] s1 (start N vs) H _ (I.wish _) hq) (fun u s' hs=>?_) fun e s' hs=>hs.elim
  obtain⟨v,H',J,rv,q⟩:=hs
  have J':=J.unwish
  exact⟨v,H',J'.os,J'.bare,J'.base,J'.hok,rv,q⟩
noncomputable def BmOk (mg:Str->Option Value)(base:Heap):Prop:=∃bm ob,mg "__builtins__"=some (.ref bm)/\bm≠builtinsNs/\base.get? bm=some ob/\ob.cls=.type "module" /\ ob.dict=some builtinsNs/\ob.data=.plain
end L2
namespace L2
open PySem PySem.Spec PyProof.Rows aA
noncomputable abbrev lamA (ap:Pos):Arguments:={posonlyargs:=[],args:=[{arg := "word",annotation:=none,pos:=ap}],vararg:=none,kwonlyargs:=[],kw_defaults:=[],kwarg:=none,defaults:=[]}
noncomputable abbrev lamB (p1 p2 p3 p4 p5:Pos):Expr:=.Tuple [.Call (.Name "len" p1) [.Name "word" p2] [] p3,.Name "word" p4] 0 p5
noncomputable abbrev lamS:Scope:={kind:=.function,names:=[(Str.ofString "word",.local),(Str.ofString "len",.globalImplicit)],isGenerator:=false,isCoroutine:=false,more:=[]}
theorem Xs:FnScope ["word"] ["word"] lamS:=⟨rfl,rfl,rfl,by decide,rfl,fun x hx=>.inl (by rw[List.mem_singleton.mp hx];rfl),fun y hy=>by
 rcases List.mem_cons.mp hy with rfl|hy
 ·simp
 ·rw[List.mem_singleton.mp hy];simp⟩
end L2
namespace L2
open PySem PySem.Spec PyProof.Rows
theorem Wl   {K:PySem.W.Frag}
  (KX:K.In s₁.heap) (gg:s₁.heap.Ns mainGlobals mg) (hb:s₁.heap.Ns builtinsNs mb) (hbb:∀x:Str,x ≠ "__name__" -> mb x=bootBuiltins x) (hlim:s₁.heap.NoLimit) (hg:s₁.gens = #[]) (nj:BmOk mg s₁.heap)
  (hC:PySem.W.CodeHd s₁.heap c T) (hT:s₁.heap.get? T=some (PySem.W.tabObj #[])) (nk:K.lookup T=none)
  (ha:s₁.heap.get? a=some {cls:=.type "list",data:=.seq vs.toArray}) (hi:IntsAre vs ns) (hl:ns.length<=sizeLine) (hr:Room k callerA)
  (F:∀base:Heap,K.In base->base.Ns mainGlobals mg->PySem.W.CodeHd base c T->BmOk mg base->FnOk P w K mg base CX k fa fd [x] sp) (hbind:∀(s:Shared) (u:Value),BindsTo s fd ⟨[u],[]⟩ [(x,u)])
  (cQ:∀H:Hp,H T=some (.tbl #[])->SqL K H a (ns.map V.int)->sp [.ref a] H (fun v _=>v=.bl true) fun _ _ _=>False)
  (nq:∀H e s',CX [] H s₁ (fun _ _ _=>False) e s'->False):
  codeAny (model P w) callerA (.call (.ref fa) ⟨[.ref a],[]⟩) (fun r s'=>r=.ok (.ret (.bool true))/\OldK s₁.heap s'.heap/\s'.os=s₁.os/\AllBare s'.gens) s₁:=by
 have rv:=O6 hi
 have lenV:=hi.length
 have hTa:T≠a:=fun z=>by subst z;rw[hT]at ha;cases ha
 have core:∀H:Hp,H T=some (.tbl #[])->SqL K H a (ns.map V.int)->HOk P w H s₁.heap->(∀b,H b≠none->b=T\/(b=a/\K.lookup a=none/\∃o xs,H a=some (.frz o (.lst xs)))) ->
   codeAny (model P w) callerA (.call (.ref fa) ⟨[.ref a],[]⟩) (fun r s'=>r=.ok (.ret (.bool true))/\OldK s₁.heap s'.heap/\s'.os=s₁.os/\AllBare s'.gens) s₁:=by
  intro H hHT hS hok hA
  have free:∀{b:Addr} {o:Obj},s₁.heap.get? b=some o->o.cls ≠ .none->o.data ≠ .seq vs.toArray 0->H b=none:=fun {b o} e h1 h2=>by
   cases q:H b with
   |none=>rfl
   |some u=>
    rcases hA b (by rw[q];simp) with rfl|⟨rfl,_⟩
    ·rw[hT]at e;cases e;exact absurd rfl h1
    ·rw[ha]at e;cases e;exact absurd rfl h2
  have lJ:∀{b:Addr} {m:Str->Option Value},s₁.heap.Ns b m->(hidT s₁.heap H).Ns b m:=fun {b m} ⟨o,es,ep,e,d,r⟩=>⟨o,es,ep,Kk e (by
   cases q:H b with
   |none=>rfl
   |some u=>
    rcases hA b (by rw[q];simp) with rfl|⟨rfl,_⟩
    ·rw[hT]at e;cases e;cases d
    ·rw[ha]at e;cases e;cases d),d,r⟩
  have hKb:K.In (hidT s₁.heap H):=fun b o e=>Kk (KX b o e) (by
   cases q:H b with
   |none=>rfl
   |some u=>
    rcases hA b (by rw[q];simp) with rfl|⟨rfl,z,_⟩
    ·rw[nk]at e;cases e
    ·rw[z]at e;cases e)
  have hM:Mod K mg (hidT s₁.heap H):=⟨hKb,lJ gg,⟨mb,lJ hb,hbb⟩,let ⟨mc,h1,h2⟩:=hlim;⟨mc,lJ h1,h2⟩⟩
  have e0:Env0 P w K mg (hidT s₁.heap H) callerA [] s₁ H:=⟨rfl,hM,fun b o e=>Zp e,Nat.le_of_eq (UG _ _),trivial,fun b hb=>absurd (show b∈([]:List Addr) from hb) (by simp),hok,.of_eq hg⟩
  have hCb:PySem.W.CodeHd (hidT s₁.heap H) c T:=by
   obtain⟨o,ws,file,tf,flags,tg,inF,text,tt,e,hc,hd,r⟩:=id hC
   exact⟨o,ws,file,tf,flags,tg,inF,text,tt,Kk e (free e (by rw[hc];intro z;cases z) (by rw[hd];intro z;cases z)),hc,hd,r⟩
  have hbb2:BmOk mg (hidT s₁.heap H):=by
   obtain⟨bm,ob,b1,b2,b3,b4,b5,b6⟩:=nj
   exact⟨bm,ob,b1,b2,Kk b3 (free b3 (by rw[b4];intro z;cases z) (by rw[b6];intro z;cases z)),b4,b5,b6⟩
  refine codeAny_mono ((F _ hKb (lJ gg) hCb hbb2).run callerA [] s₁ H ⟨[.ref a],[]⟩ [.ref a] [.ref a] _ _ hr e0 (hbind s₁ (.ref a)) (.cons rfl .nil) (cQ H hHT hS)) fun r s' h=>?_
  cases r with
  |error e=>exact (nq H e s' h).elim
  |ok fl=>
   cases fl with
   |next=>exact False.elim h
   |brk=>exact False.elim h
   |cont=>exact False.elim h
   |ret u=>
    obtain⟨v,H',os,bare,un,hok',r',q⟩:=h
    have q':v=.bl true:=q
    subst q'
    obtain rfl:u=Value.bool true:=r'
    have noB:∀b:Addr,b∉frs ([]:List Env):=fun b z=>absurd (show b∈([]:List Addr) from z) (by simp)
    have all:∀b o,s₁.heap.get? b=some o->asItWas s₁.heap s'.heap b o:=fun b o e=>by
     cases q:H b with
     |none=>exact .inl (un.keep b o e q (noB b) (by simp))
     |some u=>
      rcases hA b (by rw[q];simp) with rfl|⟨rfl,_,ob,xs,z⟩
      ·obtain⟨more,z2⟩:=un.tbls b _ hHT
       have e2:s'.heap.get? b=some {cls:=.none,data:=.fields (#[]++more)}:=hok' b _ z2
       rw[hT]at e;cases e
       obtain⟨o',ws,_,_,_,_,_,_,_,e3,hc,hd,h11,_⟩:=hC
       exact .inr (.inl ⟨⟨c,o',ws,e3,hc,hd,h11⟩,rfl,#[],more,rfl,e2⟩)
      ·have z2:=un.frzs b ob _ z
       obtain⟨e1,_⟩:=hok b _ z
       obtain⟨e2,_⟩:=hok' b _ z2
       rw[e]at e1;cases e1
       exact .inl e2
    refine⟨rfl,⟨all,fun b o e=>?_⟩,os,bare⟩
    exact un.there b o e (by simp)
 cases hk:K.lookup a with
 |some o=>
  have e:=KX a o hk
  rw[ha]at e
  cases e
  refine core (fun b=>if b=T then some (.tbl #[]) else none) (if_pos rfl) (.inr ⟨_,vs.toArray,_,hk,rfl,rfl,rfl,by rw[List.size_toArray,lenV];exact hl,by simpa using rv⟩) (fun b u z=>?_) (fun b z=>?_)
  ·by_cases hb:b=T
   ·have z':=(if_pos hb).symm.trans z
    cases z';subst hb;exact hT
   ·have z':=(if_neg hb).symm.trans z
    cases z'
  ·by_cases hb:b=T
   ·exact .inl hb
   ·exact absurd (if_neg hb) z
 |none=>
  refine core (fun b=>if b=T then some (.tbl #[]) else if b=a then some (.frz {cls:=.type "list",data:=.seq vs.toArray} (.lst (ns.map V.int))) else none) (if_pos rfl) (.inl (.inr ⟨{cls:=.type "list",data:=.seq vs.toArray},by show (if a=T then _ else _)=_;rw[if_neg (Ne.symm hTa),if_pos rfl]⟩)) (fun b u z=>?_) (fun b z=>?_)
  ·by_cases hb:b=T
   ·have z':=(if_pos hb).symm.trans z
    cases z';subst hb;exact hT
   ·have z1:=(if_neg hb).symm.trans z
    by_cases dZ:b=a
    ·have z':=(if_pos dZ).symm.trans z1
     cases z'
     subst dZ
     exact⟨ha,by rw[List.length_map];exact hl,vs,_,rv,ha⟩
    ·have z':=(if_neg dZ).symm.trans z1
     cases z'
  ·by_cases hb:b=T
   ·exact .inl hb
   ·by_cases dZ:b=a
    ·exact .inr ⟨dZ,hk,_,_,by show (if a=T then _ else _)=_;rw[if_neg (Ne.symm hTa),if_pos rfl]⟩
    ·exact absurd (by show (if b=T then _ else _)=_;rw[if_neg hb,if_neg dZ]) z
theorem walk_ofT {l:PySem.W.OpenLaw}{n k:Nat}{q:Program}{bQ:List Str}{XP:(Str->Option Value)->Heap->Prop}{YP:World->Heap->Prop}{d:DefRec}{K:Params->PySem.W.Frag}{CX:World->CXT}{sp:World->Sp}{x xT:Str}
  (hn:l.most=some n) (fb:n<=sizeLine) (j6:d.params.defaults=[]) (hr:Room k callerA)
  (hY:∀(w:World) (h:Heap),YP w h->(K w.params).In h)
  (F:∀(w:World) (mg:Str->Option Value) (fa:Addr) (h:Heap),YP w h->(K w.params).In h->h.Ns mainGlobals mg->mg d.name=some (.ref fa) ->
   ∃(fd:FuncData) (c T:Addr),PySem.W.tabIn (K w.params) xT=some (c,T)/\(K w.params).lookup T=none/\PySem.W.CodeHd h c T/\h.get? T=some (PySem.W.tabObj #[])/\(∀(s:Shared) (u:Value),BindsTo s fd ⟨[u],[]⟩ [(x,u)]) /\
    ∀base:Heap,(K w.params).In base->base.Ns mainGlobals mg->PySem.W.CodeHd base c T->BmOk mg base->FnOk l.prog w (K w.params) mg base (CX w) k fa fd [x] (sp w))
  (cQ:∀(w:World) (H:Hp) (a c T:Addr) (ns:List Int),ns.length<=n->PySem.W.tabIn (K w.params) xT=some (c,T)->H T=some (.tbl #[])->SqL (K w.params) H a (ns.map V.int)->sp w [.ref a] H (fun v _=>v=.bl true) fun _ _ _=>False)
  (nq:∀(w:World) (H:Hp) (s:Shared) (e:Value) (s':Shared),CX w [] H s (fun _ _ _=>False) e s'->False):
  PySem.W.WalkO q bQ XP YP l.row.toRowW d [] (fun f vs=>PySem.call f vs):=by
 refine Att.attach_call hn j6 fun w s₀ s₁ mg mb fa o pm cd bp a vs ns G Y ho hd bo hmg cz eQ ak hg=>?_
 have KX:=hY w _ Y
 obtain⟨fd,c,T,lH,nk,hC,hT,hb,hF⟩:=F w mg fa _ Y KX G.T.g hmg
 exact Wl KX G.T.g G.T.b G.T.builtins G.T.nolimit hg (let ⟨bm,ob,b1,b2,b3,b4,b5,b6⟩:=G.T.bmain;⟨bm,ob,b1,b2,b3,b4,b5,b6⟩) hC hT nk cz eQ (Nat.le_trans ak fb) hr hF hb (fun H hO hS=>cQ w H a c T ns ak lH hO hS) fun H e s'=>nq w H s₁ e s'
noncomputable def tabC (K:PySem.W.Frag)(x:Str):Addr:=((PySem.W.tabIn K x).getD (0,0)).1
noncomputable def tabP (K:PySem.W.Frag)(x:Str):Addr:=((PySem.W.tabIn K x).getD (0,0)).2
theorem Q8 {K:PySem.W.Frag}   (h:PySem.W.tabIn K x=some (c,T)):tabC K x=c:=by unfold tabC;rw[h];rfl
theorem Wm {K:PySem.W.Frag}   (h:PySem.W.tabIn K x=some (c,T)):tabP K x=T:=by unfold tabP;rw[h];rfl
theorem Xt {K:PySem.W.Frag}      {sl fK:Array (Option Value)}  (a:PySem.W.nsIn K mainGlobals x=some (some (.ref f)))(l:K.lookup f=some ⟨oc,od,.func fd,sl⟩)(hc:fd.code=.ref c)
  (lc:K.lookup c=some ⟨oc2,od2,.fields vs,fK⟩) (h:vs[11]?=some (.ref T)):PySem.W.tabIn K x=some (c,T):=by
 unfold PySem.W.tabIn
 rw[a]
 dsimp only
 rw[l]
 dsimp only
 rw[hc]
 dsimp only
 rw[lc]
 dsimp only
 rw[h]
structure FunL (K:PySem.W.Frag)(mg:Str->Option Value)(base:Heap)(x qual:Str)(st:Stmt)(f:Addr)(fd:FuncData):Prop where
 ex:∃(oc:Value) (od:Option Addr) (kV bp pm:Value) (an:Option Addr) (ct:Value) (eg:Array (Option Value)),
  fd=PySem.W.fnOf x qual (AD st) (Aw st) (Af st) .none kV bp pm an (.ref (tabC K x)) ct/\K.lookup f=some ⟨oc,od,.func fd,eg⟩/\PySem.W.codeIn K (.ref (tabC K x)) qual=true
 C:PySem.W.CodeHd base (tabC K x) (tabP K x)
 B:BmOk mg base
section
variable {P:Program} {w:World} {K:PySem.W.Frag} {mg:Str->Option Value} {base:Heap}
theorem FunL.ok  {st:Stmt}      (F:FunL K mg base x qual st f fd)(S:FnScope N ps (Af st))(len:∀vs H Q E,sp vs H Q E->vs.length=ps.length)
  (bA:∀(aB:Value) (bo:aB=.ref (tabC K x)) (A:Around) (outer:List Env) (s:Shared) (H:Hp) (vs:List V) (Q:VK) (E:XK),Room k (A.deeper (envOfC qual (Af st) s.heap.objs.size f aB))->sp vs H Q E ->
   ∃t,PSs (cxOf CX0 P w K mg base N qual (Af st) f aB A outer s H E).nox (Aw st) t/\t {nx:=fun _ H'=>Q .non H',rt:=Q} (start N vs) H):FnOk P w K mg base CX0 (k+1) f fd ps sp:=by
 obtain⟨oc,od,kV,bp,pm,an,ct,eg,rfl,lk,bo⟩:=F.ex
 refine Zy lk bo S len fun A outer s H vs Q E hr cQ=>?_
 obtain⟨t,h,q⟩:=bA _ rfl A outer s H vs Q E hr cQ
 exact⟨t,h.nox,q⟩
theorem Am_  {st:Stmt}     {kV bp pm ct:Value}(ti:PySem.W.tabIn K x=some (c,T))(l:K.lookup f=some ⟨oc,od,.func (PySem.W.fnOf x qual (AD st) (Aw st) (Af st) .none kV bp pm an (.ref c) ct),eg⟩)
  (hc:PySem.W.codeIn K (.ref c) qual=true) (C:PySem.W.CodeHd base c T) (B:BmOk mg base):FunL K mg base x qual st f (PySem.W.fnOf x qual (AD st) (Aw st) (Af st) .none kV bp pm an (.ref c) ct):=
 ⟨⟨oc,od,kV,bp,pm,an,ct,eg,by rw[Q8 ti],l,by rw[Q8 ti];exact hc⟩,by rw[Q8 ti,Wm ti];exact C,B⟩
end
end L2
namespace L2
open PySem PySem.Spec PyProof.Rows aA
noncomputable def BV (T:Addr)(H H':Hp):Prop:=∀b o,b≠T->H b=some o->H' b=some o
noncomputable def LamT (T:Addr)(lp:Pos)(qual:Str)(H:Hp):Prop:=H T=some (.tbl #[]) \/ ∃(c':Addr) (oc:Obj) (vs:Array Value) (t:Tok),H T=some (.tbl #[rawInt lp.line,rawInt lp.col,.ref c'])/\H c'=some (.frz oc (.own 0))/\oc.data=.fields vs/\vs[1]?=some (.str (qual ++ "<lambda>") t)
theorem LamT.is     (h:LamT T lp qual H):∃ps,H T=some (.tbl ps):=by
 rcases h with h|⟨_,_,_,_,h,_⟩
 ·exact⟨_,h⟩
 ·exact⟨_,h⟩
theorem LamT.mono     (h:LamT T lp qual H)(s:Same H H'):LamT T lp qual H':=by
 rcases h with h|⟨c',oc,vs,t,h,h2,h3,h4⟩
 ·exact .inl (s _ _ h)
 ·exact .inr ⟨c',oc,vs,t,s _ _ h,s _ _ h2,h3,h4⟩
theorem BV.of   (s:Same H H'):BV T H H':=fun b o _ e=>s b o e
theorem BV.trans   (s:BV T H H')(s':BV T H' gf):BV T H gf:=fun b o hb e=>s' b o hb (s b o hb e)
theorem BV.ne   (s:BV T H H')   (e:H b=some o)(ho:∀ps,o ≠ .tbl ps)  (hT:H T=some (.tbl ps)):H' b=some o:=s b o (fun z=>by subst z;rw[hT]at e;cases e;exact ho _ rfl) e
theorem BV.tsq {K:PySem.W.Frag}   (s:BV T H H')  (hT:H T=some (.tbl ps))   (h:SqT K H b ys):SqT K H' b ys:=by
 rcases h with h|h
 ·left
  rcases h with h|⟨o,h⟩
  ·exact .inl (s.ne h (fun _ z=>by cases z) hT)
  ·exact .inr ⟨o,s.ne h (fun _ z=>by cases z) hT⟩
 ·exact .inr h
theorem BV.lsq {K:PySem.W.Frag}   (s:BV T H H')  (hT:H T=some (.tbl ps))   (h:SqL K H b ys):SqL K H' b ys:=by
 rcases h with h|h
 ·left
  rcases h with h|⟨o,h⟩
  ·exact .inl (s.ne h (fun _ z=>by cases z) hT)
  ·exact .inr ⟨o,s.ne h (fun _ z=>by cases z) hT⟩
 ·exact .inr h
theorem BV.none   (s:BV T H H')  (hT:H' T=some (.tbl ps))  (h:H' b=none):H b=none:=by
 cases q:H b with
 |none=>rfl
 |some o=>
  have:=s b o (fun z=>by subst z;rw[hT]at h;cases h) q
  rw[h]at this;cases this
section
variable {X:Cx} {af:List (Addr×Obj)} {σ:St} {H:Hp} {s:Shared}
theorem Inv.tabK      (I:Inv X af σ H s)(hP:H P=some (.tbl ps))(k:∀b o,b≠P->s.heap.get? b=some o->h'.get? b=some o)(e:h'.get? P=some (PySem.W.tabObj (ps++ps')))
  (hc:s.heap.objs.size<=c') (eK:h'.get? c'=some oc):Inv X af σ (upd (upd H P (.tbl (ps++ps'))) c' (.frz oc (.own 0))) {s with heap:=h',toks:=t' }:=by
 have nP:∀b,H b=none->b≠P:=fun b n z=>by subst z;rw[hP]at n;cases n
 have kA:∀b u,H b=some u->(∀qs,u ≠ .tbl qs)->b≠P:=fun b u q hu z=>by subst z;rw[hP]at q;cases q;exact hu _ rfl
 have nC:∀b u,H b=some u->b≠c':=fun b u q z=>by subst z;rw[I.hok.fresh hc]at q;cases q
 have nC2:∀b o,s.heap.get? b=some o->b≠c':=fun b o q z=>by subst z;exact absurd (Heap.lt_size q) (Nat.not_lt.mpr hc)
 refine I.un ⟨fun b o q n _ _=>k b o (nP b n) q,fun b o q n _ _=>⟨o.slots,k b o (nP b n) q⟩,fun b o q n _=>by rw[Ah (nC2 b o q),Ah (nP b n)];exact n,fun b o q _=>?_,fun b xs q=>?_,fun b o u q=>?_,fun b qs q=>?_⟩ (fun b u q=>?_)
 ·by_cases hb:b=P
  ·subst hb;exact⟨_,e⟩
  ·exact⟨o,k b o hb q⟩
 ·rw[Ah (nC b _ q),Ah (kA b _ q (fun _ z=>by cases z))];exact q
 ·rw[Ah (nC b _ q),Ah (kA b _ q (fun _ z=>by cases z))];exact q
 ·by_cases hb:b=P
  ·subst hb;rw[hP]at q;cases q;exact⟨ps',by rw[Ah (nC b _ hP)];exact Ab⟩
  ·rw[Ah (nC b _ q),Ah hb];exact⟨#[],by rw[q];simp⟩
 ·by_cases hbc:b=c'
  ·subst hbc;rw[Ab]at q;cases q;exact⟨eK,_,eK⟩
  rw[Ah hbc]at q
  by_cases hb:b=P
  ·subst hb;rw[Ab]at q;cases q;exact e
  ·rw[Ah hb]at q
   refine (I.hok b u q).stay (fun c v hc r=>k c v ?_ r) (fun c r=>by rw[Ah (nC c _ r),Ah (kA c _ r (fun _ z=>by cases z))];exact r) fun c xs r=>by rw[Ah (nC c _ r),Ah (kA c _ r (fun _ z=>by cases z))];exact r
   rcases hc with rfl|hc
   ·exact hb
   ·exact kA c _ hc (fun _ z=>by cases z)
theorem Wn          (I:Inv X af σ H s)(dt:X.env.code=.ref c)(C:PySem.W.CodeHd X.base c P)(hL:LamT P pos X.env.qual H)
  (hb:BmOk X.mg X.base) (cI:closureFor scope X.env=pure []) (hdef:defaultsOf params X.env=([],[]))
  (h:∀(f c':Addr) (oc:Obj) (vs:Array Value) (t:Tok) (fR:Value) (H':Hp) (s':Shared),Inv X (af++[(f,PySem.W.kla_obj "<lambda>" (X.env.qual ++ "<lambda>") params body scope [] ((X.mg "__name__").getD .none) c' fR)]) σ H' s'->BV P H H'->H' P=some (.tbl #[rawInt pos.line,rawInt pos.col,.ref c'])->H' c'=some (.frz oc (.own 0))->oc.data=.fields vs->vs[1]?=some (.str (X.env.qual ++ "<lambda>") t)->Q (.ref f) s'):
  wpAny M A (eval (.Lambda params body scope pos) X.env) Q E s:=by
 obtain⟨ps,hP⟩:=hL.is
 obtain⟨bm,ob,b1,b2,b3,b4,b5,b6⟩:=hb
 have hg:s.heap.Ns mainGlobals X.mg:=I.mod.glob.keeps I.bk
 have eP:s.heap.get? P=some (PySem.W.tabObj ps):=I.hok P _ hP
 have nb:∀b o,X.base.get? b=some o->b≠P:=fun b o e z=>by subst z;have:=(I.bs b o e).2;rw[hP]at this;cases this
 have hgP:mainGlobals≠P:=by
  obtain⟨o,es,ep,e,_⟩:=I.mod.glob
  exact nb _ _ e
 have hbG:bm≠mainGlobals:=fun q=>by
  obtain⟨o,es,ep,e,hd,_⟩:=I.mod.glob
  rw[q,e]at b3;cases b3;rw[hd]at b6;cases b6
 refine PySem.W.kla_eval hdef ?_
 rcases hL with hL|⟨c',oc,vs,t,h1,h2,h3,h4⟩
 ·have:ps = #[]:=by rw[hL]at hP;cases hP;rfl
  subst this
  refine PySem.W.kla_makeFunction (mg:=X.mg) cI I.ok.glob hg dt (C.keeps I.bk) eP (by trivial) rfl hgP ⟨bm,ob,b1,b2,hbG,nb _ _ b3,I.bk _ _ b3,b4,b5,b6⟩ fun c' fR h' tk hx a9 ar hrec jG=>?_
  obtain⟨c₂,oc,vs,t,e2,eK,hd,hv⟩:=hrec
  cases e2
  have I1:=I.tabK (t':=tk) (h':=h'.push (PySem.W.kla_obj "<lambda>" (X.env.qual ++ "<lambda>") params body scope [] ((X.mg "__name__").getD .none) c' fR)) hP (fun b o hb e=>Heap.get?_push_of_some _ (hx b o hb e)) (Heap.get?_push_of_some _ jG) a9 (Heap.get?_push_of_some _ eK)
  have hsz:s.heap.objs.size<=h'.objs.size:=Nat.le_trans a9 (Nat.le_of_lt ar)
  have hcP:P≠c':=fun z=>by subst z;exact absurd (Heap.lt_size eP) (Nat.not_lt.mpr a9)
  refine h h'.objs.size c' oc vs t fR _ _ (I1.pins_of fun p hp=>?_) (fun b o hb e=>?_) ((Ah hcP).trans Ab) Ab hd hv
  ·rcases List.mem_append.mp hp with hp|hp
   ·exact I1.pin p (List.mem_append_right _ hp)
   ·rw[List.mem_singleton.mp hp]
    refine⟨Heap.get?_push_size _ rfl,?_,fun z=>?_,I.nofs hsz,fun v z=>by cases z⟩
    ·rw[Ah (fun z=>absurd ar (by dsimp only at z;rw[z];exact Nat.lt_irrefl _)),Ah (fun z=>by dsimp only at z;subst z;exact absurd (Heap.lt_size eP) (Nat.not_lt.mpr hsz))]
     exact I.hok.fresh hsz
    ·dsimp only at z
     have:=I.lt
     rw[<-z]at this
     exact absurd this (Nat.not_lt.mpr hsz)
  ·rw[Ah (fun z=>by subst z;rw[I.hok.fresh a9]at e;cases e),Ah hb];exact e
 ·have:ps = #[rawInt pos.line,rawInt pos.col,.ref c']:=by rw[h1]at hP;cases hP;rfl
  subst this
  refine PySem.W.kla_makeFunctionHit (mg:=X.mg) (cv:=.ref c') cI I.ok.glob hg dt (C.keeps I.bk) eP (by trivial) (by simp[codeAmong,rawInt]) ⟨bm,ob,b1,b2,hbG,nb _ _ b3,I.bk _ _ b3,b4,b5,b6⟩ fun fR h' tk hk hsz=>?_
  have I1:=I.kept (t':=tk) (h':=h'.push (PySem.W.kla_obj "<lambda>" (X.env.qual ++ "<lambda>") params body scope [] ((X.mg "__name__").getD .none) c' fR)) (fun b o e=>Heap.get?_push_of_some _ (hk b o e))
  refine h h'.objs.size c' oc vs t fR _ _ (I1.pins_of fun p hp=>?_) (fun b o hb e=>e) h1 h2 h3 h4
  rcases List.mem_append.mp hp with hp|hp
  ·exact I1.pin p (List.mem_append_right _ hp)
  ·rw[List.mem_singleton.mp hp]
   refine⟨Heap.get?_push_size _ rfl,I.hok.fresh hsz,fun z=>?_,I.nofs hsz,fun v z=>by cases z⟩
   dsimp only at z
   have:=I.lt
   rw[<-z]at this
   exact absurd this (Nat.not_lt.mpr hsz)
end
noncomputable def SE (K:PySem.W.Frag)(P:Addr)(lp:Pos)(qual:Str)(t:TA):TE:=fun σ H Q=>t σ H fun vs H1=>∃l ws,vs=[.ref l]/\SqL K H1 l (wv ws)/\WsOk K H1 ws/\ws.length<sizeLine/\LamT P lp qual H1 /\
 ∀H2 D os,BV P H1 H2->LamT P lp qual H2->H1 D=none->H2 D=some (.lst (wv os))->os.Perm ws->Srt os->Q (.ref D) H2
theorem PV {K:PySem.W.Frag}        : SE K P lp qual t σ H Q=t σ H fun vs H1=>∃l ws,vs=[.ref l]/\SqL K H1 l (wv ws)/\WsOk K H1 ws/\ws.length<sizeLine/\LamT P lp qual H1 /\
 ∀H2 D os,BV P H1 H2->LamT P lp qual H2->H1 D=none->H2 D=some (.lst (wv os))->os.Perm ws->Srt os->Q (.ref D) H2:=rfl
theorem TL        (hr:Room (k+3) X.A)(hg:Gl X "sorted")(hm:X.mg "sorted"=none)(nr:X.mg "len"=none)(dt:X.env.code=.ref c)(C:PySem.W.CodeHd X.base c P)(nj:BmOk X.mg X.base)
  (ha:PA X [e] ta) (hq:X.env.qual=qual:=by rfl)
  (he:backTo pos (starEach [e] X.env)=(false,eval e X.env)::backTo pos (starEach [] X.env):=by rfl) (gF:(backTo pos (starEach [e] X.env)).any (·.1)=false:=by rfl):
  PE X (.Call (.Name "sorted" p) [e] [⟨some "key",.Lambda (lamA ap) (lamB p1 p2 p3 p4 p5) lamS lp,kp⟩] pos) (SE X.K P lp qual ta):=by
 intro af s σ H Q I h
 subst hq
 refine wpAny_Call_Name_kw (He I hg hm rfl ?_)
 refine callWith_kw ?_ he gF
 refine thn (ha pos af s σ H _ I h) fun us s1 ⟨vs,H1,I1,r1,q1⟩=>?_
 obtain⟨l,ws,rfl,hl,hW,hz,hP,q⟩:=q1
 obtain⟨ps,hP1⟩:=hP.is
 obtain⟨u1,rfl,rx⟩:=vals1 r1
 cases rx
 refine kws_cons (Wn I1 dt C hP nj rfl rfl fun f c' oc vs t fR H2 s2 I2 gH lK cH hd hv=>kws_nil ?_)
 show wpAny (model X.prog X.w) X.A (call (.builtin "sorted") [.ref l] [(Str.ofString "key",.ref f)]) _ _ s2
 have nP:∀b ys,SqT X.K H1 b ys->SqT X.K H2 b ys:=fun b ys=>gH.tsq hP1
 have cx:SqL X.K H2 l (wv ws):=gH.lsq hP1 hl
 refine Xr I2 (by have:=hr.un;lia) cx hz (fun w hw=>nP _ _ (hW w hw)) (fun w hw H' s' I' hS=>?_) (fun s' H' D os I' g1 g2 g3 g4 g5=>?_)
 ·have hf:=(I'.pin _ (List.mem_append_right _ (List.mem_append_right _ (List.mem_cons_self)))).1
  have fH:s'.heap.get? c'=some oc:=(I'.hok c' _ (hS _ _ cH)).1
  have kB:s'.heap.CodeRec (.ref c') (X.env.qual ++ "<lambda>"):=⟨c',oc,vs,t,rfl,fH,hd,hv⟩
  have nu:SqT X.K H' w.1 (w.2.map V.int):=hS.seqT (nP _ _ (hW w hw))
  refine wpAny_call (codeAny_mono (Cs_ (k:=k) (N:=["word"]) (ps:=["word"]) (vs:=[.ref w.1]) (us:=[.ref w.1]) (E:=fun _ _ _=>False) (Q:=fun kv gf=>∃t,kv=.ref t/\Same H' gf/\SqT X.K gf t [.int w.2.length,.ref w.1]) Xs hr.in1.in1 I'.env0.in1.in1 hf kB rfl (.cons rfl .nil) rfl
   (Dx (Aa (Av Ak rfl nr rfl (Aa (pv 0) Ad)) (Aa (pv 0) Ad))) ?_) fun r s2 hq=>?_)
  ·refine⟨.ref w.1,rfl,w.1,w.2.map V.int,rfl,.inr nu,.ref w.1,rfl,?_,fun p hp=>?_⟩
   ·show 2<=sizeLine
    decide
   ·rw[List.length_map]
    exact⟨p,rfl,Same.new hp,.inl (.inl Ab)⟩
  ·cases r with
   |error e=>exact hq.elim
   |ok fl=>
    cases fl with
    |ret u=>exact I'.after hq
    |next=>exact False.elim hq
    |brk=>exact False.elim hq
    |cont=>exact False.elim hq
 ·exact⟨.ref D,H',I'.unpinned,rfl,q H' D os (gH.trans (BV.of g1)) (.inr ⟨c',oc,vs,t,g1 _ _ lK,g1 _ _ cH,hd,hv⟩) (gH.none lK g2) g3 g4 g5⟩
end L2
namespace L2
open PySem PySem.Spec PyProof.Rows
noncomputable def EqsD (K:PySem.W.Frag)(H:Hp)(n:Nat)(xs:List V)(x:V)(e:Nat->Bool):Prop:=(∀(i:Nat) (v:V),xs[i]?=some v->∃a,v=.ref a/\EqD K H n v x (e i))/\∀(i j:Nat) (v:V),xs[i]?=some v->xs[j]?=some v->e i=e j
noncomputable def evG (xs:List V)(e:Nat->Bool)(y:Value):Bool := @decide (∃(i:Nat) (a:Addr),y=.ref a/\xs[i]?=some (.ref a)/\e i=true) (Classical.propDecidable _)
theorem PX {K:PySem.W.Frag}      (h:EqsD K H n xs x e)   (hx:xs[i]?=some (.ref a)):evG xs e (.ref a)=e i:=by
 rw[Bool.eq_iff_iff]
 unfold evG
 rw[@decide_eq_true_iff _ (Classical.propDecidable _)]
 constructor
 ·rintro⟨j,b,hb,nv,kC⟩
  cases hb
  rw[h.2 i j _ hx nv];exact kC
 ·intro he
  exact⟨i,a,rfl,hx,he⟩
noncomputable def rInG (K:PySem.W.Frag)(n:Nat)(ig:Bool):R2:=fun x y H Q=>∃p t xs e,y=.ref p/\x=.ref t/\SqL K H p xs/\EqsD K H n xs x e/\Q (.bl (if ig then !((List.range xs.length).any e) else (List.range xs.length).any e)) H
theorem Ct_ {K:PySem.W.Frag}      : rInG K n ig x y H Q=∃p t xs e,y=.ref p/\x=.ref t/\SqL K H p xs/\EqsD K H n xs x e/\Q (.bl (if ig then !((List.range xs.length).any e) else (List.range xs.length).any e)) H:=rfl
theorem Xu          (hu:X.A.units+n+1<cLine)(I:Inv X af σ H s)(hp:SqL X.K H p xs)(hE:EqsD X.K H n xs (.ref t) e):
  ∃(its:Array Value),s.heap.IsList p its/\(∀y,y∈its->SeqAt.EqAt X.A.in1 s y (.ref t) (evG xs e y))/\its.any (evG xs e)=(List.range xs.length).any e:=by
 obtain⟨its,r,pl,_⟩:=I.list hp
 have hl:=r.length
 refine⟨its.toArray,pl.isList,fun y hy=>?_,?_⟩
 ·have hy':y∈its:=by simpa using hy
  obtain⟨i,hi,ei⟩:=List.getElem_of_mem hy'
  have gP:i<xs.length:=by lia
  obtain⟨u,gI,ru⟩:=r.get (i:=i) (x:=xs[i]) (by simp[gP])
  rw[List.getElem?_eq_getElem hi,ei]at gI
  cases gI
  obtain⟨a,e2,e3⟩:=hE.1 i xs[i] (by simp[gP])
  rw[e2]at ru e3
  cases ru
  rw[PX hE (i:=i) (by rw[List.getElem?_eq_getElem gP,e2])]
  exact (EqD.at (x:=V.ref a) (y:=V.ref t) I n X.A.in1 (by rw[in1_units];lia) rfl rfl e3).1
 ·rw[show its.toArray.any (evG xs e)=its.any (evG xs e) by simp,Bool.eq_iff_iff,List.any_eq_true,List.any_eq_true]
  constructor
  ·rintro⟨y,hy,hey⟩
   obtain⟨j,b,_,nv,kC⟩:=(@decide_eq_true_iff _ (Classical.propDecidable _)).mp hey
   exact⟨j,List.mem_range.mpr (List.getElem?_eq_some_iff.mp nv).1,kC⟩
  ·rintro⟨i,hi,kb⟩
   have hi:=List.mem_range.mp hi
   obtain⟨a,e2,e3⟩:=hE.1 i xs[i] (by simp[hi])
   have hx:xs[i]?=some (.ref a):=by rw[List.getElem?_eq_getElem hi,e2]
   obtain⟨u,gI,ru⟩:=r.get hx
   cases ru
   exact⟨.ref a,List.mem_of_getElem? gI,by rw[PX hE hx];exact kb⟩
theorem hu45  (h:u+8<cLine):u+4+1<cLine:=by lia
theorem hu46  (h:u+8<cLine):u+4+2<cLine:=by lia
theorem Wo  (n:Nat)(hu:X.A.units+n+1<cLine):OpR X (compareOp .NotIn) (rInG X.K n true):=by
 intro af s σ H x y v u Q I rx ry h
 obtain⟨p,t,xs,e,rfl,rfl,hp,hw,q⟩:=h
 cases ry
 cases rx
 obtain⟨its,h1,h2,h3⟩:=Xu hu I hp hw
 refine SeqAt.notIn_listAt _ h1 h2 ⟨.bl _,H,I,rfl,?_⟩
 rw[h3]
 exact q
noncomputable def Q9 (K:PySem.W.Frag)(n:Nat):V->List V->Hp->VK->Prop:=fun x vs H Q=>∃l xs t e m,x=.ref l/\vs=[.ref t]/\H l=some (.lst xs)/\EqsD K H n xs (.ref t) e/\m<xs.length/\e m=true/\(∀j,j<m->e j=false)/\xs.length<1000000/\Q (.int (m:Nat)) H
theorem SF {K:PySem.W.Frag}      : Q9 K n x vs H Q=∃l xs t e m,x=.ref l/\vs=[.ref t]/\H l=some (.lst xs)/\EqsD K H n xs (.ref t) e/\m<xs.length/\e m=true/\(∀j,j<m->e j=false)/\xs.length<1000000/\Q (.int (m:Nat)) H:=rfl
theorem Wq  (n:Nat)(hu:X.A.units+n+2<cLine):MtM X "list.index" (Q9 X.K n):=by
 intro af s σ H x vs v us Q I rx rv h
 obtain⟨l,xs,t,e,m,rfl,rfl,hH,hE,hm,hem,kC,ar,q⟩:=h
 cases rx
 obtain⟨u,rfl,ry⟩:=vals1 rv
 cases ry
 obtain⟨zz,its,k,r,hl,eo⟩:=I.lstM hH
 have cB:xs.length=its.length:=r.length
 have get:∀(j:Nat) (hj:j<its.toArray.size),∃(a:Addr),its.toArray[j]=.ref a/\xs[j]?=some (.ref a)/\EqD X.K H n (.ref a) (.ref t) (e j):=fun j hj=>by
  have eB:j<xs.length:=by rw[List.size_toArray]at hj;lia
  obtain⟨a,e2,e3⟩:=hE.1 j xs[j] (by simp[eB])
  rw[e2]at e3
  have hx:xs[j]?=some (.ref a):=by rw[List.getElem?_eq_getElem eB,e2]
  obtain⟨w',f1,f2⟩:=r.get hx
  have e4:its.toArray[j]=w':=by
   have:its[j]?=some its.toArray[j]:=by simp at hj;simp[hj]
   rw[f1]at this
   exact (Option.some.inj this).symm
  cases f2
  exact⟨a,e4,hx,e3⟩
 have kl:m<its.toArray.size:=by rw[List.size_toArray];lia
 refine call_meets F.slot_list_index ⟨_,eo,rfl⟩ F.entry_list_index (F.args_list_index_2 _ _) (SeqAt.list_indexAt l its.toArray k none #[] (.ref t) (evG xs e) m kl s!"" ?_ fun j hj hjm=>?_) ⟨eo,fun y hy=>?_,?_⟩
 ·obtain⟨a,e1,e2,e3⟩:=get _ kl
  rw[e1,PX hE e2];exact hem
 ·obtain⟨a,e1,e2,e3⟩:=get j hj
  rw[e1,PX hE e2];exact kC j hjm
 ·obtain⟨j,hj,ej⟩:=List.getElem_of_mem (show y∈its by simpa using hy)
  obtain⟨a,e1,e2,e3⟩:=get j (by rw[List.size_toArray];exact hj)
  have:y=.ref a:=by rw[<-ej,<-e1];simp
  rw[this,PX hE e2]
  exact (EqD.at (x:=V.ref a) (y:=V.ref t) I n _ (by rw[in1_units];lia) rfl rfl e3).1
 ·exact⟨.int (m:Nat),H,I.tok _,⟨_,rfl⟩,q⟩
theorem TM  {K:PySem.W.Frag}(h:X.K=K)(n:Nat)(hu:X.A.units+n+2<cLine):MtR X "list.index" (Q9 K n):=by subst h;exact Wq n hu
noncomputable abbrev HA (K:PySem.W.Frag)(x:Str)(f:Addr):Prop:=PySem.W.nsIn K mainGlobals x=some (some (.ref f))
end L2
namespace Mine
open PySem L2 GW GB
local macro_rules | `(tactic| walk_at "rd") => `(tactic| (try dsimp only[↓YY,V6,↓r_ID,↓BX_,YZ,↓r_BD,BZ_,↓Cd_,Y1,Y2,Y3,Cb_,↓Y6,↓Y7,Y4,Y5,↓Y8,V8,↓Bp_,↓Yr,↓Bq_,↓Vh,↓Br_,↓r_c,↓r_op,↓r_un,↓r_I,↓r_I0,↓r_U,↓Ys,↓Yt,↓Bs_,↓Bt_,↓Yu,↓r_if,↓r_B,↓Yv,↓Bu_,↓r_or,↓Bv_,↓Yw,↓Vi,↓r_CB,↓Bw_,↓Bx_,↓By_,↓Bz_,↓r_sl,↓Yx,↓R9,↓BH_,↓r_BM,↓BA_,↓Sa,↓Yy,↓Yz,↓r_Eq,↓BB_,↓Vj,↓YA,↓Vk,↓BC_,↓r_ip,↓YB,↓YC,↓BE_,↓Sd,↓Vr,↓BI_,↓BJ_,↓Vs,↓Se,↓Vy,↓BK_,↓Po,↓YI,↓Vu,↓YJ,↓YK,↓Sf,↓YL,↓Vv,↓YM,↓Sg,↓Sh,↓r_in,↓YE,↓Pq,↓VP,BP_,↓PD,PV,Ct_,SF,↓YX,↓VE,↓VF,↓Sn,↓VM,BD_,L2.start,List.map_cons,List.map_nil,List.length_cons,List.length_nil,List.cons_append,List.nil_append,List.replicate,List.getElem?_cons_zero,List.getElem?_cons_succ,List.set_cons_zero,List.set_cons_succ,scal])<;>(try simp only[↓YY,V6,↓r_ID,↓BX_,YZ,↓r_BD,BZ_,↓Cd_,Y1,Y2,Y3,Cb_,↓Y6,↓Y7,Y4,Y5,↓Y8,V8,Ac_,Ca_,Cc_,Xf,V7,↓Bp_,↓Yr,↓Bq_,↓Vh,↓Br_,↓r_c,↓r_op,↓r_un,↓r_I,↓r_I0,↓r_U,↓Ys,↓Yt,↓Bs_,↓Bt_,↓Yu,↓r_if,↓r_B,↓Yv,↓Bu_,↓r_or,↓Bv_,↓Yw,↓Vi,↓r_CB,↓Bw_,↓Bx_,↓By_,↓Bz_,↓r_sl,↓Yx,↓R9,↓BH_,↓r_BM,↓BA_,↓Sa,↓Yy,↓Yz,↓r_Eq,↓BB_,↓Vj,↓YA,↓Vk,↓BC_,↓r_ip,↓YB,↓YC,↓BE_,↓Sd,↓Vr,↓BI_,↓BJ_,↓Vs,↓Se,↓Vy,↓BK_,↓Po,↓YI,↓Vu,↓YJ,↓YK,↓Sf,↓YL,↓Vv,↓YM,↓Sg,↓Sh,↓r_in,↓YE,↓Pq,↓VP,BP_,↓PD,PV,Ct_,SF,↓YX,↓VE,↓VF,↓Sn,↓VM,BD_,L2.start,List.map_cons,List.map_nil,List.length_cons,List.length_nil,List.cons_append,List.nil_append,List.append_nil,List.replicate,List.getElem?_cons_zero,List.getElem?_cons_succ,List.set_cons_zero,List.set_cons_succ,Option.some.injEq,V.int.injEq,V.str.injEq,V.ref.injEq,V.bl.injEq,List.cons.injEq,and_true,true_and,and_assoc,exists_and_left,exists_eq_left',exists_eq_left,exists_eq_right,exists_eq,if_true,if_false,Bool.false_eq_true,decide_eq_true_eq,scal,Nat.reduceAdd,Nat.reduceSub,reduceCtorEq,Bool.not_true,Bool.not_false]))
local macro_rules | `(tactic| walk_at "sc") => `(tactic| exact⟨rfl,rfl,rfl,by decide +kernel,rfl,by decide +kernel,by decide +kernel⟩)
noncomputable def top (i:Nat):Stmt:=PySem.Challenge.pw_guessroom_k31_suites_of_alike_houses.main.body.getD i (.Pass ⟨0,0,0,0⟩)
noncomputable abbrev Ee:Stmt:=top 4
theorem TN:FnScope ["letters","word"] ["letters","word"] (Af Ee):=by walk_at "sc"
noncomputable abbrev BX:Stmt:=top 5
theorem NV:FnScope ["letters","word"] ["letters","word"] (Af BX):=by walk_at "sc"
noncomputable abbrev CO:Stmt:=top 6
theorem Gk:FnScope ["letters","word","kept"] ["letters","word"] (Af CO):=by walk_at "sc"
noncomputable abbrev Dy:Stmt:=top 7
theorem Fo:FnScope ["letters","most","words","word"] ["letters","most"] (Af Dy):=by walk_at "sc"
noncomputable abbrev Ht:Stmt:=top 9
theorem Kx:FnScope ["house","word","ways","rooms","letter"] ["house","word"] (Af Ht):=by walk_at "sc"
noncomputable abbrev B5:Stmt:=top 10
theorem Mi:FnScope ["house","word"] ["house","word"] (Af B5):=by walk_at "sc"
noncomputable abbrev CS:Stmt:=top 12
theorem Cs:FnScope ["house","words","rooms","walked","room","letter","goal"] ["house"] (Af CS):=by walk_at "sc"
noncomputable abbrev Ef:Stmt:=top 13
theorem M5:FnScope ["house","words"] ["house"] (Af Ef):=by walk_at "sc"
noncomputable abbrev DF:Stmt:=top 14
theorem TQ:FnScope ["house"] ["house"] (Af DF):=by walk_at "sc"
noncomputable abbrev Dz:Stmt:=top 16
theorem Hu:FnScope ["row","numbers","thing"] ["row"] (Af Dz):=by walk_at "sc"
noncomputable abbrev AO:Stmt:=top 17
theorem Au:FnScope ["house","words","marks_behind","classes","walked","letter","marks","finer"] ["house"] (Af AO):=by walk_at "sc"
noncomputable abbrev DG:Stmt:=top 18
theorem TR:FnScope ["house"] ["house"] (Af DG):=by walk_at "sc"
noncomputable abbrev Ct:Stmt:=top 19
theorem NW:FnScope ["house"] ["house"] (Af Ct):=by walk_at "sc"
noncomputable abbrev Hv:Stmt:=top 21
theorem Ii:FnScope ["house","classes","numbers","told","room"] ["house"] (Af Hv):=by walk_at "sc"
noncomputable abbrev Gm:Stmt:=top 22
theorem Ij:FnScope ["house","home_of","marks","ways","room"] ["house"] (Af Gm):=by walk_at "sc"
noncomputable abbrev CT:Stmt:=top 24
theorem Hw:FnScope ["words","once","word"] ["words"] (Af CT):=by walk_at "sc"
noncomputable abbrev AJ:Stmt:=top 25
theorem Bn:FnScope ["house","word","rooms","letter"] ["house","word"] (Af AJ):=by walk_at "sc"
noncomputable abbrev B6:Stmt:=top 26
theorem BH:FnScope ["words","marks_behind","room","own","left","word","marks","still"] ["words","marks_behind","room"] (Af B6):=by walk_at "sc"
noncomputable abbrev AK:Stmt:=top 27
theorem B7:FnScope ["house","words","marks_behind"] ["house"] (Af AK):=by walk_at "sc"
noncomputable abbrev BY:Stmt:=top 28
theorem Dh:FnScope ["base","more","ends","words","way","middle","first"] ["base","more","ends"] (Af BY):=by walk_at "sc"
noncomputable abbrev Hx:Stmt:=top 29
theorem NX:FnScope ["house","more","base","words"] ["house","more"] (Af Hx):=by walk_at "sc"
noncomputable abbrev K3:Stmt:=top 30
theorem Wr:FnScope ["house","more","base"] ["house","more"] (Af K3):=by walk_at "sc"
noncomputable abbrev A2:Stmt:=top 32
theorem K4:FnScope ["script","k"] ["script","k"] (Af A2):=by walk_at "sc"
noncomputable abbrev BB:Stmt:=top 33
theorem Fp:FnScope ["number","k","many","turn"] ["number","k","many"] (Af BB):=by walk_at "sc"
noncomputable abbrev Bq:Stmt:=top 34
theorem AS:FnScope ["number","rooms","way","top","marks","room","mark"] ["number","rooms"] (Af Bq):=by walk_at "sc"
noncomputable abbrev BI:Stmt:=top 35
theorem AH:FnScope ["script","letters","rooms","shape","ways","room","row","letter","k","goal"] ["script","letters","rooms"] (Af BI):=by walk_at "sc"
noncomputable abbrev BZ:Stmt:=top 36
theorem Bo:FnScope ["house","number","rooms","small","fold","ways","room","row","letter","goal","twins"] ["house","number","rooms"] (Af BZ):=by walk_at "sc"
noncomputable abbrev Br:Stmt:=top 37
theorem A4:FnScope ["script","letters","rooms","marks","house","number"] ["script"] (Af Br):=by walk_at "sc"
noncomputable abbrev BJ:Stmt:=top 38
theorem Gn:FnScope ["script","house","number"] ["script","house"] (Af BJ):=by walk_at "sc"
noncomputable abbrev Bk:Stmt:=top 39
theorem Bp:FnScope ["house","number","rooms","order","marks","ways","room"] ["house","number"] (Af Bk):=by walk_at "sc"
noncomputable abbrev Bs:Stmt:=top 40
theorem Bx:FnScope ["house","row","at","here","goal"] ["house"] (Af Bs):=by walk_at "sc"
noncomputable abbrev BK:Stmt:=top 41
theorem Bt:FnScope ["house","row","turn","keys","known","key"] ["house"] (Af BK):=by walk_at "sc"
noncomputable abbrev CP:Stmt:=top 42
theorem Cu:FnScope ["house","row","order","first","room","number","ways"] ["house"] (Af CP):=by walk_at "sc"
noncomputable abbrev NY:Stmt:=top 43
theorem JA:FnScope ["script","house","many","number","other","one","two","kept"] ["script"] (Af NY):=by walk_at "sc"
noncomputable abbrev Ik:Pos:=⟨103,34,103,64⟩
noncomputable def K5:Caps:=[("letter",none),("letters",some 0)]
theorem Mj:(Caps.names K5).Nodup:=by decide +kernel
noncomputable def K6:Caps:=[("room",none),("words",some 1)]
theorem Ml:(Caps.names K6).Nodup:=by decide +kernel
noncomputable def JC:Caps:=[("thing",none),("numbers",some 1)]
theorem K7:(Caps.names JC).Nodup:=by decide +kernel
noncomputable def DH:Caps:=[("goals",none),("marks_behind",some 2),("walked",some 4),("letter",some 5)]
theorem EZ:(Caps.names DH).Nodup:=by decide +kernel
noncomputable def PY:Caps:=[("goal",none),("home_of",some 1)]
theorem PZ:(Caps.names PY).Nodup:=by decide +kernel
noncomputable def CU:Caps:=[("room",none),("letter",some 3),("house",some 0)]
theorem Eg:(Caps.names CU).Nodup:=by decide +kernel
noncomputable def CV:Caps:=[("room",none),("house",some 0)]
theorem Eh:(Caps.names CV).Nodup:=by decide +kernel
noncomputable def Gp:Caps:=[("other",none),("marks",some 6),("room",some 2)]
theorem Il:(Caps.names Gp).Nodup:=by decide +kernel
noncomputable def CW:Caps:=[("word",none),("house",some 0)]
theorem Ei:(Caps.names CW).Nodup:=by decide +kernel
noncomputable def CY:Caps:=[("room",none),("words",some 1),("marks_behind",some 2)]
theorem Ej:(Caps.names CY).Nodup:=by decide +kernel
noncomputable def Hg:Caps:=[("end",none),("first",some 6)]
theorem IT:(Caps.names Hg).Nodup:=by decide +kernel
noncomputable def P0:Caps:=[("mark",none),("words",some 3)]
theorem P4:(Caps.names P0).Nodup:=by decide +kernel
noncomputable def Hh:Caps:=[("twin",none),("goal",some 9),("fold",some 4)]
theorem IU:(Caps.names Hh).Nodup:=by decide +kernel
noncomputable def Hi:Caps:=[("room",none),("house",some 0)]
theorem IV:(Caps.names Hi).Nodup:=by decide +kernel
noncomputable def ED:Caps:=[("room",none),("number",some 1),("rooms",some 2)]
theorem Gq:(Caps.names ED).Nodup:=by decide +kernel
noncomputable def EE:Caps:=[("goal",none),("order",some 3)]
theorem Gr:(Caps.names EE).Nodup:=by decide +kernel
noncomputable def FY:Caps:=[("room",none),("row",some 1),("house",some 0)]
theorem Hy:(Caps.names FY).Nodup:=by decide +kernel
noncomputable def FZ:Caps:=[("goal",none),("row",some 1)]
theorem Hz:(Caps.names FZ).Nodup:=by decide +kernel
noncomputable def F0:Caps:=[("key",none),("known",some 4)]
theorem HD:(Caps.names F0).Nodup:=by decide +kernel
noncomputable def Im:Caps:=[("seen",none),("row",some 1)]
theorem JN:(Caps.names Im).Nodup:=by decide +kernel
noncomputable def Io:Caps:=[("room",none),("row",some 1)]
theorem JO:(Caps.names Io).Nodup:=by decide +kernel
noncomputable def Ip:Caps:=[("room",none),("number",some 5),("row",some 1),("house",some 0)]
theorem JQ:(Caps.names Ip).Nodup:=by decide +kernel
noncomputable def Iq:Caps:=[("goal",none),("number",some 1),("row",some 2)]
theorem JR:(Caps.names Iq).Nodup:=by decide +kernel
noncomputable def Hj:Caps:=[("room",none),("house",some 0)]
theorem IW:(Caps.names Hj).Nodup:=by decide +kernel
structure Txt (mg:Str->Option Value):Prop where
 all:mg "all"=none
 enumerate:mg "enumerate"=none
 len:mg "len"=none
 list:mg "list"=none
 max:mg "max"=none
 min:mg "min"=none
 range:mg "range"=none
 sorted:mg "sorted"=none
 tuple:mg "tuple"=none
 zip:mg "zip"=none
structure Exs (K:PySem.W.Frag)(mg:Str->Option Value)(av aq:Addr):Prop where
 m_j2:mg "AskError"=some (.ref av)
 m_j0:mg "BadWord"=some (.ref aq)
 x_j0:PySem.W.excIn K aq bmV "ValueError.__new__"=true
 c_j0:ExcCls K aq
 e_j0:PySem.W.exmOne K (.ref aq) (.ref av)=some true
 v_j0:PySem.W.kitOne K (.ref aq) (.type "ValueError")=some true
 k_j0_j2:PySem.W.kitOne K (.ref aq) (.ref av)=some true
 k_j0_j0:PySem.W.kitOne K (.ref aq) (.ref aq)=some true
section
variable {P:Program} {w:World} {K:PySem.W.Frag} {mg:Str->Option Value} {base:Heap}
variable {av aq:Addr}
noncomputable def M6 (K:PySem.W.Frag):Sp:=fun vs H Q _=>∃(L:Int) (a:Addr) (ws:List Int),vs=[.int L,.ref a]/\SqT K H a (ws.map V.int)/\ws.length<=1000/\∀H',Same H H'->Q (.bl (isW L ws)) H'
theorem TU   (F:Fun K "is_word" "is_word" Ee f fd)(T:Txt mg)
  (Z:Exs K mg av aq)
  : FnOk P w K mg base CX0 1 f fd ["letters","word"] (M6 K):=by
 refine F.ok TN (fun vs H Q E h=>?_) (fun aB A outer s H vs Q E hr h=>?_)
 ·obtain⟨L,a,ws,rfl,_⟩:=h;rfl
 ·obtain⟨L,a,ws,rfl,hw,hz,k⟩:=h
  have hl:=AA
  refine⟨_,(Ag (A0 (Av (W2 rfl) rfl T.all PyProof.Rows.boot_all (Aa (Cg rfl (Cp rfl) (cp:=K5) ⟨⟨rfl,rfl⟩,True.intro⟩ (HS (pvD 1)) (fun _ _ _ _=>(Ar (i:=0) Mj rfl (Or.inl rfl))) (fun _ _ _ _=>CD) (fun _ _ _ _=>(WO AY_ Mc Ae (pvD 0) (pvD 1)))) Ad)))),?_⟩
  walk_at "rd"
  refine⟨⟨_,hw⟩,GO (ah:=[some (.int L)]) (fun x=>match x with | .int n=>.bl (inW L n)|_=>.non) rfl hw (by rw[List.length_map];lia) (fun x hx R hR=>?_) (fun D hD=>?_)⟩
  ·obtain⟨n,_,rfl⟩:=EA hx
   walk_at "rd"
   by_cases h0:0<=n
   ·simp only[h0,if_true]
    simpa [inW,h0] using hR
   ·simp only[h0,if_false]
    simpa [inW,h0] using hR
  ·refine⟨D,rfl,ws.map (inW L),.inl (.inl ?_),?_⟩
   ·rw[Ab,List.map_map,List.map_map];rfl
   ·have:=k _ (Same.new hD (o:=.lst ((ws.map V.int).map fun x=>match x with | .int n=>.bl (inW L n)|_=>.non)))
    simpa [isW,List.all_map] using this
noncomputable def NZ (K:PySem.W.Frag)(BW:Addr):Sp:=fun vs H Q E=>∃(L:Int) (a:Addr) (ws:List Int),vs=[.int L,.ref a]/\SqT K H a (ws.map V.int)/\ws.length<=1000/\(isW L ws=true->∀H',Same H H'->Q .non H')/\(isW L ws=false->∀H',Same H H'->E (.ref BW) none H')
theorem N0   (F:Fun K "check_word" "check_word" BX f fd)(T:Txt mg)
  (Z:Exs K mg av aq)
   (K8:FnOk P w K mg base CX0 1 E1 M7 ["letters","word"] (M6 K)) (Gs:Fun K "is_word" "is_word" Ee E1 M7) (K9:Bj K M7 ["letters","word"] []) (La:mg "is_word"=some (.ref E1))
  : FnOk P w K mg base (CXe P w) 2 f fd ["letters","word"] (NZ K aq):=by
 refine F.okE NV (fun vs H Q E h=>?_) (fun aB A outer s H vs Q E hr h=>?_)
 ·obtain⟨L,a,ws,rfl,_⟩:=h;rfl
 ·obtain⟨L,a,ws,rfl,hw,hz,k,kE⟩:=h
  have hl:=AA
  refine⟨_,(Ag (DE (AM_ (ptB (AL_ (Am K8 (hr.mono (by decide)) rfl La Gs.kp K9 .nil Be (Aa (pvD 0) (Aa (pvD 1) Ad))))))
   (Ag (W4 Z.m_j0 Z.x_j0 rfl rfl (Aa AK_ Ad)))
   Bg)),?_⟩
  walk_at "rd"
  refine⟨L,a,ws,rfl,hw,hz,fun H' s'=>?_⟩
  walk_at "rd"
  cases hv:isW L ws with
  |true=>
   simp only[Bool.not_true,Bool.false_eq_true,if_false]
   exact k hv H' s'
  |false=>
   simp only[Bool.not_false,if_true]
   exact⟨by lia,kE hv H' s'⟩
noncomputable def SH (K:PySem.W.Frag)(BW:Addr):Sp:=fun vs H Q E=>∃(L:Int) (a:Addr) (ws:List Int),vs=[.int L,.ref a]/\SqT K H a (ws.map V.int)/\ws.length<=990/\(isW L ws=true->∀p H',Same H H'->H' p=some (.tup ((Gh L ws).map V.int))->Q (.ref p) H')/\(isW L ws=false->∀H',Same H H'->E (.ref BW) none H')
theorem P5   (F:Fun K "next_word" "next_word" CO f fd)(T:Txt mg)
  (Z:Exs K mg av aq)
   (CZ:FnOk P w K mg base (CXe P w) 2 BC Di ["letters","word"] (NZ K aq)) (B0:Fun K "check_word" "check_word" BX BC Di) (C0:Bj K Di ["letters","word"] []) (C1:mg "check_word"=some (.ref BC))
  : FnOk P w K mg base (CXe P w) 3 f fd ["letters","word"] (SH K aq):=by
 refine F.okE Gk (fun vs H Q E h=>?_) (fun aB A outer s H vs Q E hr h=>?_)
 ·obtain⟨L,a,ws,rfl,_⟩:=h;rfl
 ·obtain⟨L,a,ws,rfl,hw,hz,k',kE⟩:=h
  have hl:=AA
  refine⟨_,(Ac (Bv (Am CZ (hr.mono (by decide)) rfl C1 B0.kp C0 .nil (ZM fun _ _ _ h=>h) (Aa (pvD 0) (Aa (pvD 1) Ad))))
   (Ac (Aj (i:=2) Gk.nd (Av (lenD Ak) (by rfl) T.len PySem.boot_len (Aa (pvD 1) Ad)))
   (Ac (GL PassesOwn.leaving (PW.pt (Ju (ptT (AB (opD0 Zx) (pvD 2) Ae (AY _))) (F9 (ptT (AB (opE DW) (Ai (ixTD AI) (pvD 1) (As (opD0 EU) (pvD 2) Ae)) (As (opD0 EU) (pvD 0) Ae) (AY _))))))
   (Ag (UM (i:=2) Gk.nd rfl (Or.inl rfl) Ae AT_)))
   (Ac (DE (ptT (AB (opE DW) (pvD 2) Ae (AY _)))
   (Ag (A0 (As Vn (Dx (Aa Ae Ad)) (As (opD0 B8) (Av (lenD Ak) (by rfl) T.len PySem.boot_len (Aa (pvD 1) Ad)) Ae))))
   Bg)
   (Ag (A0 (As GP (As GP (WU Be_ (pvD 1) Zz (ZA (As (opD0 EU) (pvD 2) Ae))) (Dx (Aa (As (opD0 B8) (Ai (ixTD AI) (pvD 1) (As (opD0 EU) (pvD 2) Ae)) Ae) Ad))) (As Vn (Dx (Aa Ae Ad)) (As (opD0 EU) (Av (lenD Ak) (by rfl) T.len PySem.boot_len (Aa (pvD 1) Ad)) (pvD 2)))))))))),?_⟩
  walk_at "rd"
  refine⟨L,a,ws,rfl,hw,by lia,fun hv H1 s1=>?_,kE⟩
  have k:=k' hv
  walk_at "rd"
  have du:=s1.seqT hw
  refine⟨_,.inr du,?_⟩
  rw[List.length_map]
  obtain⟨Pv,au⟩:∃Pv:Nat->St->Hp->Prop,∀m aj H2,Pv m aj H2↔(H2=H1/\∃kept:Nat,m=kept/\kept<=ws.length/\(∀j,kept<=j->j<ws.length->ws[j]?=some (L-1))/\aj=[some (.int L),some (.ref a),some (.int kept)]):=⟨_,fun _ _ _=>Iff.rfl⟩
  refine MN Pv ⟨ws.length,(au _ _ _).mpr ⟨rfl,ws.length,rfl,Nat.le_refl _,fun j h1 h2=>absurd h2 s!"",rfl⟩⟩ ?_
  intro m aj H2 hp
  obtain⟨rfl,kept,em,hk,hj,rfl⟩:=(au _ _ _).mp hp
  walk_at "rd"
  by_cases h0:0<kept
  ·have ar:kept-1<ws.length:=by lia
   have hx:ws[kept-1]?=some (ws[kept-1]'ar):=by simp[ar]
   have ax:atI (ws.map V.int) ((kept:Int)-1)=some (V.int (ws[kept-1]'ar)):=Ed s!"" (by rw[List.getElem?_map,show ((kept:Int)-1).toNat=kept-1 by lia,hx];rfl)
   rw[if_pos (show (0:Int)<kept by lia)]
   refine⟨_,du,_,ax,?_⟩
   walk_at "rd"
   refine ite2 (fun he=>?_) (fun aE=>?_)
   ·refine⟨fun ah H'=>H'=H2/\ah=[some (.int L),some (.ref a),some (.int ((kept:Int)-1))],fun ah H' h=>?_,rfl,rfl⟩
    obtain⟨rfl,rfl⟩:=h
    refine⟨kept-1,by lia,(au _ _ _).mpr ⟨rfl,kept-1,rfl,by lia,fun j h1 h2=>?_,by rw[show ((kept-1:Nat):Int)=(kept:Int)-1 by lia]⟩⟩
    by_cases e:j=kept-1
    ·subst e;rw[hx,he]
    ·exact hj j s!"" h2
   ·-- return word[:kept-1]+(word[kept-1]+1,)+(0,) * ..
    rw[if_neg (show ¬ (kept:Int)=0 by lia)]
    have hcut:¬ (HT.sIx (ws.map V.int).length 0 none=0/\HT.sIx (ws.map V.int).length (ws.map V.int).length (some ((kept:Int)-1))=(ws.map V.int).length):=by
     rintro⟨_,h2⟩
     rw[show (kept:Int)-1=((kept-1:Nat):Int) by lia,HT.sIx_nat,List.length_map]at h2
     lia
    have ecut:cutV (ws.map V.int) none (some ((kept:Int)-1))=(ws.take (kept-1)).map V.int:=by
     rw[W3]
     unfold cutI
     rw[show (kept:Int)-1=((kept-1:Nat):Int) by lia,HT.sIx_nat,HT.sIx_none,List.drop_zero,Nat.sub_zero]
     congr 2
     lia
    refine⟨_,du,hcut,fun p1 a6=>?_⟩
    rw[ecut]
    have t1:Same H2 (upd H2 p1 (.tup ((ws.take (kept-1)).map V.int))):=Same.new a6
    have q1:(upd H2 p1 (.tup ((ws.take (kept-1)).map V.int))) p1=some (.tup ((ws.take (kept-1)).map V.int)):=Ab
    generalize upd H2 p1 (.tup ((ws.take (kept-1)).map V.int))=H3 at t1 q1 ⊢
    refine⟨_,t1.seqT du,_,ax,?_⟩
    walk_at "rd"
    refine⟨by lia,fun p2 aS=>?_⟩
    refine Hf.ofS ((Same.new aS) _ _ q1) Ab (by simp;lia) fun p3 H4 t4 q3=>?_
    walk_at "rd"
    have t5:Same H2 H4:=(t1.newT aS).trans t4
    refine⟨by lia,fun p4 dv=>?_⟩
    have q3':=(Same.new dv (o:=.tup [V.int 0])) _ _ q3
    have w4:=((t5.newT dv (o:=.tup [V.int 0])).seqT du)
    have t6:=t5.newT dv (o:=.tup [V.int 0])
    have z4:(upd H4 p4 (.tup [V.int 0])) p4=some (.tup [V.int 0]):=Ab
    generalize upd H4 p4 (.tup [V.int 0])=H5 at q3' w4 t6 z4 ⊢
    refine⟨_,.inr w4,?_⟩
    refine Vm.ofS z4 (by simp) s!"" (by rw[List.length_map];lia) (by simp;lia) fun p5 H6 t7 q5=>?_
    refine Hf.ofS (t7 _ _ q3') q5 (by simp[KG];lia) fun p6 H7 t8 q6=>?_
    refine k p6 H7 (s1.trans (t6.trans (t7.trans t8))) ?_
    have e:=Pm (L:=L) (w:=ws) (k:=kept-1) ar (fun j h1 h2=>hj j s!"" h2) hx (by intro z;exact aE (by rw[z]))
    rw[e]
    rw[KG]at q6
    have en:(((ws.map V.int).length:Int)-(kept:Int)).toNat=ws.length-(kept-1+1):=by rw[List.length_map];lia
    rw[en]at q6
    simpa [List.map_append,List.map_replicate] using q6
  ·have h00:kept=0:=by lia
   subst h00
   rw[if_neg s!""]
   walk_at "rd"
   refine⟨by lia,fun p1 a6=>?_⟩
   refine⟨_,.inr ((Same.new a6).seqT du),?_⟩
   refine Vm.ofS Ab (by simp) s!"" (by rw[List.length_map];lia) (by simp;lia) fun p5 H6 t7 q5=>?_
   refine k p5 H6 (s1.trans ((Same.new a6).trans t7)) ?_
   rw[QO (L:=L) (w:=ws) hj]
   rw[KG]at q5
   have en:(((ws.map V.int).length:Int)+1).toNat=ws.length+1:=by rw[List.length_map];lia
   rw[en]at q5
   simpa [List.map_replicate] using q5
noncomputable def Zb (K:PySem.W.Frag):Sp:=fun vs H Q _=>∃(L:Int) (m:Nat),vs=[.int L,.int m]/\1<=L/\L<=6/\m<=8/\many L (m+1)<=4000/\∀p xs H',Same H H'->H p=none->H' p=some (.lst xs)->AF K H' xs ((List.range (many L (m+1)).toNat).map (nth L))->Q (.ref p) H'
theorem Ra   (F:Fun K "words_to" "words_to" Dy f fd)(T:Txt mg)
  (Z:Exs K mg av aq)
   (HE:FnOk P w K mg base (CXe P w) 3 DA JD ["letters","word"] (SH K aq)) (Ek:Fun K "next_word" "next_word" CO DA JD) (HH:Bj K JD ["letters","word"] []) (HI:mg "next_word"=some (.ref DA))
  : FnOk P w K mg base CX0 4 f fd ["letters","most"] (Zb K):=by
 refine F.ok Fo (fun vs H Q E h=>?_) (fun aB A outer s H vs Q E hr h=>?_)
 ·obtain⟨L,m,rfl,_⟩:=h;rfl
 ·obtain⟨L,m,rfl,cL,cj,hm,aT,k⟩:=h
  have hl:=AA
  refine⟨_,(Ac (Aj (i:=2) Fo.nd (B9 Ad))
   (Ac (Aj (i:=3) Fo.nd (Dx Ad))
   (Ac (GL PassesOwn.never (ptT (AB (opD0 AY_) (Av (lenD Ak) (by rfl) T.len PySem.boot_len (Aa (pvD 3) Ad)) (pvD 1) (AY _)))
   (Ac (Bv (Fg PySem.F.plainAttrs_list PySem.F.slot_list_append PySem.F.type_list_append Bh (pvD 2) (Aa (pvD 3) Ad)))
   (Ag (Aj (i:=3) Fo.nd (Am HE (hr.mono (by decide)) rfl HI Ek.kp HH .nil (Vq (P:=P) (w:=w)) (Aa (pvD 0) (Aa (pvD 3) Ad)))))))
   (Ag (A0 (pvD 2)))))),?_⟩
  walk_at "rd"
  refine⟨by lia,fun p hp=>⟨by lia,fun t ht=>?_⟩⟩
  have iG:p≠t:=fun z=>by rw[<-z,Ab]at ht;cases ht
  obtain⟨Pv,au⟩:∃Pv:Nat->St->Hp->Prop,∀m' aj H2,Pv m' aj H2↔(∃(n:Nat) (t2:Addr) (xs:List V),m'=((many L (m+1)).toNat-n)/\n<=(many L (m+1)).toNat/\Same H H2/\H2 p=some (.lst xs)/\AF K H2 xs ((List.range n).map (nth L))/\H2 t2=some (.tup ((nth L n).map V.int))/\aj=[some (.int L),some (.int m),some (.ref p),some (.ref t2)]):=⟨_,fun _ _ _=>Iff.rfl⟩
  refine MN Pv ⟨_,(au _ _ _).mpr ⟨0,t,[],rfl,Nat.zero_le _,(Same.new hp).newT ht,by rw[Ah iG,Ab],AF.nil,Ab,rfl⟩⟩ ?_
  intro m' aj H2 dy
  obtain⟨n,t2,xs,rfl,hn,s2,kD,hW,hT,rfl⟩:=(au _ _ _).mp dy
  have hv:=HY (show 0<L by lia) n
  have dM:=MO (show 0<L by lia) hv m
  rw[KH]at dM
  have eE:=Ho (show 0<L by lia) (m+1)
  have bN:=hW.1
  rw[List.length_map,List.length_range]at bN
  walk_at "rd"
  refine⟨_,.inr (SqT.of hT),?_⟩
  rw[List.length_map]
  refine ite2 (fun aN=>?_) (fun jC=>?_)
  ·have iH:(nth L n).length<=m:=by lia
   have ar:=dM.mp iH
   refine⟨fun ah H'=>∃t3 lL,ah=[some (.int L),some (.int m),some (.ref p),some (.ref t3)]/\Same H H'/\H' p=some (.lst lL)/\AF K H' lL ((List.range (n+1)).map (nth L))/\H' t3=some (.tup ((nth L (n+1)).map V.int)),fun ah H' h=>?_,?_⟩
   ·obtain⟨t3,lL,rfl,s3,d3,iI,ny⟩:=h
    exact⟨_,by lia,(au _ _ _).mpr ⟨n+1,t3,lL,rfl,by lia,s3,d3,iI,ny,rfl⟩⟩
   ·have ak:=Tc (show 0<L by lia) n
    have hT':=TK.lst kD (o:=.lst (xs++[V.ref t2])) _ _ hT
    refine⟨.inl ⟨rfl,_,SqL.of kD⟩,_,kD,by lia,L,t2,nth L n,rfl,SqT.of hT',by lia,fun _ t3 H3 s3 ny=>?_,fun hf=>by rw[hv]at hf;cases hf⟩
    refine⟨t3,xs++[V.ref t2],rfl,(s2.over hp).trans s3,s3 _ _ Ab,?_,ny⟩
    rw[List.range_succ,List.map_append]
    exact ((hW.mono (TK.lst kD)).snoc hT').mono (TK.of s3)
  ·have a9:¬ (nth L n).length<=m:=by lia
   have hnl:¬ ((n:Int)<many L (m+1)):=fun z=>a9 (dM.mpr z)
   have e:n=(many L (m+1)).toNat:=by lia
   subst e
   walk_at "rd"
   exact k p xs H2 s2 hp kD hW
noncomputable def SI (K:PySem.W.Frag)(BW:Addr):Sp:=fun vs H Q E=>∃(h a:Addr) (L:Int) (aa:List Int) (ae:List (List Int)) (ws:List Int),vs=[.ref h,.ref a]/\Bz K H h L aa ae/\Wf L aa ae/\SqT K H a (ws.map V.int)/\ws.length<=600/\(isW L ws=true->∀p H',Same H H'->H p=none->H' p=some (.lst ((MQ ae ws).map V.int))->Q (.ref p) H')/\(isW L ws=false->∀H',Same H H'->E (.ref BW) none H')
theorem Xv   (F:Fun K "trail" "trail" Ht f fd)(T:Txt mg)
  (Z:Exs K mg av aq)
   (CZ:FnOk P w K mg base (CXe P w) 2 BC Di ["letters","word"] (NZ K aq)) (B0:Fun K "check_word" "check_word" BX BC Di) (C0:Bj K Di ["letters","word"] []) (C1:mg "check_word"=some (.ref BC))
  : FnOk P w K mg base (CXe P w) 3 f fd ["house","word"] (SI K aq):=by
 refine F.okE Kx (fun vs H Q E h=>?_) (fun aB A outer s H vs Q E hr h=>?_)
 ·obtain⟨h,a,L,aa,ae,ws,rfl,_⟩:=h;rfl
 ·obtain⟨h,a,L,aa,ae,ws,rfl,hh,wf,hw,hz,k,kE⟩:=h
  have hl:=AA
  refine⟨_,(Ac (Bv (Am CZ (hr.mono (by decide)) rfl C1 B0.kp C0 .nil (ZM fun _ _ _ h=>h) (Aa (Ai (ixTD AI) (pvD 0) Ae) (Aa (pvD 1) Ad))))
   (PSs.nox (Ac (Aj (i:=2) Kx.nd (Ai (ixTD AI) (pvD 0) Ae))
   (Ac (Aj (i:=3) Kx.nd (B9 (Aa Ae Ad)))
   (Ac (CH PassesOwn.never rfl (HS (pvD 1)) (Ar (i:=4) Kx.nd rfl (Or.inl rfl))
   (Ag (Bv (Fg PySem.F.plainAttrs_list PySem.F.slot_list_append PySem.F.type_list_append Bh (pvD 3) (Aa (Ai (ixTD AI) (Ai (ixTD AI) (pvD 2) (Ai (ixLD Bw) (pvD 3) (AW_ Yi Ae))) (pvD 4)) Ad)))))
   (Ag (A0 (pvD 3)))))))),?_⟩
  walk_at "rd"
  obtain⟨m,wv,h1,h2,h3⟩:=hh
  refine⟨_,h1,_,rfl,L,a,ws,rfl,hw,by lia,fun hv H1 s1=>?_,kE⟩
  walk_at "rd"
  have du:=s1.seqT hw
  have h3':=h3.mono s1
  refine⟨_,s1.seqT h1,_,rfl,by lia,fun p hp=>?_⟩
  have s2:=Same.new hp (o:=.lst [V.int 0])
  refine⟨⟨_,s2.seqT du⟩,forT (xs:=ws.map V.int) (fun i aj H2=>Same H1 H2/\H2 p=some (.lst (((List.range (i+1)).map fun j=>AL ae (ws.take j)).map V.int))/\∃o,aj=[some (.ref h),some (.ref a),some (.ref wv),some (.ref p),o]) ⟨s2,by rw[Ab];simp[AL],none,rfl⟩ (fun i aj H2 _ h=>h.1.seqT du) (fun i x aj H2 hx h=>?_) (fun aj H2 h=>?_)⟩
  ·obtain⟨s3,d3,o,rfl⟩:=h
   obtain⟨n,hn,rfl⟩:=DD hx
   have hi:=(List.getElem?_eq_some_iff.mp hn).1
   have hx:=AU.mp hv n (List.mem_of_getElem? hn)
   have jK:=wf.walk hv i
   obtain⟨row,g,r1,r2,r3,r4,r5⟩:=wf.step jK.1 jK.2 hx.1 hx.2
   obtain⟨xs,t,q1,q2,q3⟩:=(h3'.mono s3).atZ jK.1 r1
   walk_at "rd"
   refine⟨.inl ⟨rfl,_,SqL.of d3⟩,_,SqL.of d3,_,Vt (v:=V.int (AL ae (ws.take i))) (by simp),?_⟩
   walk_at "rd"
   refine⟨_,q1,_,q2,?_⟩
   walk_at "rd"
   refine⟨_,q3,_,CF hx.1 r2,_,d3,by simp;lia,s3.over hp,?_,_,rfl⟩
   rw[Ab,show List.range (i+1+1)=List.range (i+1)++[i+1] from List.range_succ,List.map_append,List.map_append,<-r3,<-MR hn]
   rfl
  ·obtain⟨s3,d3,o,rfl⟩:=h
   walk_at "rd"
   rw[List.length_map]at d3
   exact k hv p H2 (s1.trans s3) (s1.free hp) d3
noncomputable def Ws (K:PySem.W.Frag)(BW:Addr):Sp:=fun vs H Q E=>∃(h a:Addr) (L:Int) (aa:List Int) (ae:List (List Int)) (ws:List Int),vs=[.ref h,.ref a]/\Bz K H h L aa ae/\Wf L aa ae/\SqT K H a (ws.map V.int)/\ws.length<=600/\(isW L ws=true->∀H',Same H H'->Q (.int (AL ae ws)) H')/\(isW L ws=false->∀H',Same H H'->E (.ref BW) none H')
theorem Mm   (F:Fun K "room_behind" "room_behind" B5 f fd)(T:Txt mg)
  (Z:Exs K mg av aq)
   (Rb:FnOk P w K mg base (CXe P w) 3 IX SJ ["house","word"] (SI K aq)) (Lb:Fun K "trail" "trail" Ht IX SJ) (Rc:Bj K SJ ["house","word"] []) (Rf:mg "trail"=some (.ref IX))
  : FnOk P w K mg base (CXe P w) 4 f fd ["house","word"] (Ws K aq):=by
 refine F.okE Mi (fun vs H Q E h=>?_) (fun aB A outer s H vs Q E hr h=>?_)
 ·obtain⟨h,a,L,aa,ae,ws,rfl,_⟩:=h;rfl
 ·obtain⟨h,a,L,aa,ae,ws,rfl,hh,wf,hw,hz,k,kE⟩:=h
  have hl:=AA
  refine⟨_,(Ag (A0 (Ai (ixLD Bw) (Am Rb (hr.mono (by decide)) rfl Rf Lb.kp Rc .nil (ZM fun _ _ _ h=>h) (Aa (pvD 0) (Aa (pvD 1) Ad))) (AW_ Yi Ae)))),?_⟩
  walk_at "rd"
  refine⟨h,a,L,aa,ae,ws,rfl,hh,wf,hw,hz,fun hv p H1 s1 _ hp=>?_,kE⟩
  walk_at "rd"
  refine⟨_,SqL.of hp,_,Vt (v:=V.int (AL ae ws)) ?_,k hv H1 s1⟩
  rw[List.getElem?_map,List.length_map,Nu,show ws.length+1-1=ws.length by lia,QP];rfl
noncomputable def Gu (K:PySem.W.Frag)(H:Hp)(d:Addr)(ents:List (Int×List Int)):Prop:=∃kvs:List (Key×V),H d=some (.dK kvs)/\kvs.length=ents.length/\∀(i:Nat) (e:Int×List Int),ents[i]?=some e->∃t,kvs[i]?=some (Sum.inl e.1,V.ref t)/\H t=some (.tup (e.2.map V.int))
theorem Cu_     (hp:H p=some (.dK kvs))(h:H t=some (.tup xs)):upd H p (.dK cW) t=some (.tup xs):=by
 rw[Ah (fun z=>by rw[z,hp]at h;cases h)];exact h
theorem Gu.mono {K:PySem.W.Frag}   {ents:List (Int×List Int)}(h:Gu K H d ents)(s:Same H H'):Gu K H' d ents:=by
 obtain⟨kvs,h1,h2,h3⟩:=h
 refine⟨kvs,s _ _ h1,h2,fun i e he=>?_⟩
 obtain⟨t,a,b⟩:=h3 i e he
 exact⟨t,a,s _ _ b⟩
theorem Gu.off {K:PySem.W.Frag}   {ents:List (Int×List Int)}  (h:Gu K H d ents)(hp:H p=some (.lst zs)):Gu K (upd H p (.lst ys)) d ents:=by
 obtain⟨kvs,h1,h2,h3⟩:=h
 refine⟨kvs,by rw[Ah (fun z=>by rw[z,hp]at h1;cases h1)];exact h1,h2,fun i e he=>?_⟩
 obtain⟨t,a,b⟩:=h3 i e he
 exact⟨t,a,TK.lst hp _ _ b⟩
theorem Gu.no {K:PySem.W.Frag}   {ents:List (Int×List Int)}(h:Gu K H d ents)  (hg:g∉ents.map (·.1)):DGet H d (.int g) none:=by
 obtain⟨kvs,h1,h2,h3⟩:=h
 have e:valV kvs (Sum.inl g:Key)=none:=by
  unfold valV
  rw[Option.map_eq_none_iff,List.find?_eq_none]
  intro kv iy
  obtain⟨i,hi,e⟩:=List.getElem_of_mem iy
  obtain⟨t,a,_⟩:=h3 i ents[i] (by simp[show i<ents.length by lia])
  have e2:kvs[i]?=some kv:=by rw[List.getElem?_eq_getElem hi,e]
  rw[e2]at a
  cases a
  simp only[decide_eq_true_eq]
  intro z
  injection z with z
  exact hg (List.mem_map.mpr ⟨ents[i],List.getElem_mem _,z⟩)
 have:=DGet.k (k:=(Sum.inl g:Key)) h1
 rw[e]at this
 exact this
theorem Gu.yes {K:PySem.W.Frag}{H:Hp}{d:Addr}{ents:List (Int×List Int)}(h:Gu K H d ents)(nod:(ents.map (·.1)).Nodup){g:Int}{w:List Int}(hg:(g,w)∈ents):∃t,DGet H d (.int g) (some (.ref t))/\H t=some (.tup (w.map V.int)):=by
 obtain⟨kvs,h1,h2,h3⟩:=h
 obtain⟨i,hi,ei⟩:=List.getElem_of_mem hg
 have ei':ents[i]?=some (g,w):=by rw[List.getElem?_eq_getElem hi,ei]
 obtain⟨t,a,b⟩:=h3 i _ ei'
 refine⟨t,?_,b⟩
 have hf:valV kvs (Sum.inl g:Key)=some (.ref t):=by
  unfold valV
  cases hq:kvs.find? (fun kv=>decide (kv.1=(Sum.inl g:Key))) with
  |none=>
   rw[List.find?_eq_none]at hq
   have:=hq _ (List.mem_of_getElem? a)
   simp at this
  |some kv=>
   have hk:=List.find?_some hq
   simp only[decide_eq_true_eq]at hk
   obtain⟨j,hj,ej⟩:=List.getElem_of_mem (List.mem_of_find?_eq_some hq)
   have eB:j<ents.length:=by lia
   obtain⟨t',a',b'⟩:=h3 j ents[j] (by simp[eB])
   have e2:kvs[j]?=some kv:=by rw[List.getElem?_eq_getElem hj,ej]
   rw[e2]at a'
   have a2:kv=(Sum.inl ents[j].1,V.ref t'):=Option.some.inj a'
   rw[a2]at hk
   have gR:ents[j].1=g:=by injection hk
   have ij:i=j:=by
    refine (List.getElem_inj (h₀:=by simpa using hi) (h₁:=by simpa using eB) nod).mp ?_
    simp[ei,gR]
   subst ij
   rw[e2]at a
   have a3:kv=(Sum.inl g,V.ref t):=Option.some.inj a
   rw[a3];rfl
 have:=DGet.k (k:=(Sum.inl g:Key)) h1
 rw[hf]at this
 exact this
theorem Gu.put {K:PySem.W.Frag}{H:Hp}{d t:Addr}{ents:List (Int×List Int)}{g:Int}{w:List Int}(h:Gu K H d ents)(hg:g∉ents.map (·.1))(hz:ents.length<1000)(ht:H t=some (.tup (w.map V.int))):∃H',DPut H d (.int g) (.ref t) H'/\(∃kvs cW,H d=some (.dK kvs)/\H'=upd H d (.dK cW))/\Gu K H' d (ents++[(g,w)]):=by
 have ie:=h.no hg
 obtain⟨kvs,h1,h2,h3⟩:=h
 have hl:=AA
 have hv:valV kvs (Sum.inl g:Key)=none:=by
  rcases ie with ⟨cW,k,e,ey,er⟩|⟨cW,k,b,e,ey,_⟩
  ·have e1:cW=kvs:=by
    rcases e with e|⟨o,e⟩
    ·rw[h1]at e;cases e;rfl
    ·rw[h1]at e;cases e
   subst e1
   cases k with
   |inl m=>
    have:m=g:=by injection ey with ey;exact ey.symm
    subst this
    exact er.symm
   |inr m=>cases ey
  ·cases ey
 have hp:putK kvs (Sum.inl g:Key) (V.ref t)=kvs++[(Sum.inl g,V.ref t)]:=by
  unfold putK
  rw[Fh,hv]
  rfl
 refine⟨_,DPut.k (k:=(Sum.inl g:Key)) h1 s!"",⟨kvs,_,h1,rfl⟩,kvs++[(Sum.inl g,V.ref t)],by rw[Ab,hp],by simp[h2],fun i e he=>?_⟩
 by_cases hi:i<ents.length
 ·rw[List.getElem?_append_left hi]at he
  obtain⟨t',a,b⟩:=h3 i e he
  exact⟨t',by rw[List.getElem?_append_left s!""];exact a,Cu_ h1 b⟩
 ·have ar:=(List.getElem?_eq_some_iff.mp he).1
  rw[List.length_append,List.length_singleton]at ar
  have e1:i=ents.length:=by lia
  subst e1
  rw[List.getElem?_append_right (Nat.le_refl _),Nat.sub_self]at he
  simp at he
  subst he
  exact⟨t,by rw[List.getElem?_append_right s!"",h2,Nat.sub_self];rfl,Cu_ h1 ht⟩
noncomputable def IY (K:PySem.W.Frag):Sp:=fun vs H Q _=>∃(h:Addr) (L:Int) (aa:List Int) (ae:List (List Int)),vs=[.ref h]/\Bz K H h L aa ae/\Wf L aa ae/\∀d top H',Same H H'->H d=none->Gu K H' d (Ax ae)->Bfs L aa.length ae (Ax ae) (Ax ae).length top->Q (.ref d) H'
theorem Rg   (F:Fun K "words_in" "words_in" CS f fd)(T:Txt mg)
  (Z:Exs K mg av aq)
  : FnOk P w K mg base CX0 1 f fd ["house"] (IY K):=by
 refine F.ok Cs (fun vs H Q E h=>?_) (fun aB A outer s H vs Q E hr h=>?_)
 ·obtain⟨h,L,aa,ae,rfl,_⟩:=h;rfl
 ·obtain⟨h,L,aa,ae,rfl,hh,wf,k⟩:=h
  have hl:=AA
  have cL:=wf.l1
  have bR:=wf.n1
  have aP:=wf.n40
  refine⟨_,(@Ac _ _ _ _ _ (@ZQ _ 1 _ _ _ _ _ _ _ _ Cs.nd rfl (Or.inl rfl) Ae (Dx Ad) rfl (Or.inl rfl))
   (Ac (Aj (i:=2) Cs.nd (B9 (Aa Ae Ad)))
   (Ac (Aj (i:=3) Cs.nd Ae)
   (Ac (GL PassesOwn.never (ptT (AB (opD0 Mc) (pvD 3) (Av (lenD Ak) (by rfl) T.len PySem.boot_len (Aa (pvD 2) Ad)) (AY _)))
   (Ac (Aj (i:=4) Cs.nd (Ai (ixLD Bw) (pvD 2) (pvD 3)))
   (Ac (CH PassesOwn.never rfl (W5 rfl T.enumerate (Ai (ixTD AI) (Ai (ixTD AI) (pvD 0) Ae) (pvD 4))) (Yf rfl (Kl (Ar (i:=5) Cs.nd rfl (Or.inl rfl)) (Kl (Ar (i:=6) Cs.nd rfl (Or.inl rfl)) UJ)))
   (Ag (DE (Ye (Pb (O7 hr) (pvD 6) (pvD 1)))
   (Ac (QG (O7 hr) (pvD 1) (pvD 6) (As GP (U8 (O7 hr) (pvD 1) (pvD 4) (fun _ _=>rfl)) (Dx (Aa (pvD 5) Ad))) rfl)
   (Ag (Bv (Fg PySem.F.plainAttrs_list PySem.F.slot_list_append PySem.F.type_list_append Bh (pvD 2) (Aa (pvD 6) Ad)))))
   Bg)))
   (Ag (UM (i:=3) Cs.nd rfl (Or.inl rfl) Ae Yg)))))
   (Ag (A0 (pvD 1))))))),?_⟩
  walk_at "rd"
  intro p hp
  refine⟨by lia,fun p1 a6=>⟨Same.new a6 _ _ Ab,[(Sum.inl 0,V.ref p1)],rfl,by simp,by lia,fun p2 aS=>?_⟩⟩
  have gN:Jw [] [((Sum.inl 0:Key),V.ref p1)]=[((Sum.inl 0:Key),V.ref p1)]:=rfl
  rw[gN]at aS ⊢
  have hne1:p1≠p:=(AM a6).2
  have hne2:p2≠p:=(AM aS).2
  have s0:Same H (upd (upd (upd (upd H p (.dK [])) p1 (.tup [])) p (.dK [(Sum.inl 0,V.ref p1)])) p2 (.lst [V.int 0])):=(((Same.new hp).newT a6).over hp).newT aS
  have en0:Gu K (upd (upd (upd (upd H p (.dK [])) p1 (.tup [])) p (.dK [(Sum.inl 0,V.ref p1)])) p2 (.lst [V.int 0])) p [(0,[])]:=by
   refine⟨[(Sum.inl 0,V.ref p1)],Same.new aS _ _ Ab,rfl,fun i e he=>?_⟩
   cases i with
   |zero=>
    simp at he
    subst he
    refine⟨p1,rfl,?_⟩
    refine Same.new aS _ _ ?_
    rw[Ah hne1];exact Ab
   |succ i=>simp at he
  have d6:upd (upd (upd (upd H p (.dK [])) p1 (.tup [])) p (.dK [(Sum.inl 0,V.ref p1)])) p2 (.lst [V.int 0]) p2=some (.lst ((([(0,[])]:List (Int×List Int)).map (·.1)).map V.int)):=Ab
  have hp2n:H p2=none:=by
   have h1:=(AM aS).1
   have h2:=(AM h1).1
   exact (AM h2).1
  generalize upd (upd (upd (upd H p (.dK [])) p1 (.tup [])) p (.dK [(Sum.inl 0,V.ref p1)])) p2 (.lst [V.int 0])=H0 at s0 en0 d6 ⊢
  clear a6 aS gN
  obtain⟨Pv,au⟩:∃Pv:Nat->St->Hp->Prop,∀m aj H2,Pv m aj H2↔(∃(ents:List (Int×List Int)) (i:Nat) (top:Int) (o4 o5 o6:Option V),m=aa.length+1-i/\Same H H2/\Gu K H2 p ents/\H2 p2=some (.lst ((ents.map (·.1)).map V.int))/\Bfs L aa.length ae ents i top/\(∀e,ents[i]?=some e->top<=AG L e.2*L+1)/\bfs ae (aa.length+1-i) ents i=Ax ae/\aj=[some (.ref h),some (.ref p),some (.ref p2),some (.int i),o4,o5,o6]):=⟨_,fun _ _ _=>Iff.rfl⟩
  refine MN Pv ⟨_,(au _ _ _).mpr ⟨[(0,[])],0,1,none,none,none,rfl,s0,en0,d6,Bfs.start L bR ae,fun e he=>?_,by unfold Ax;rw[wf.len];rfl,rfl⟩⟩ ?_
  ·simp at he;subst he;simp[AG,Dd]
  intro m aj H2 dy
  obtain⟨ents,i,top,o4,o5,o6,rfl,s2,en2,gS,bf,iJ,b8,rfl⟩:=(au _ _ _).mp dy
  have hbl:=bf.len
  walk_at "rd"
  refine⟨_,.inl (SqL.of gS),?_⟩
  rw[List.length_map,List.length_map]
  refine ite2 (fun ar=>?_) (fun a9=>?_)
  ·have hi:i<ents.length:=by lia
   obtain⟨e,he⟩:∃e,ents[i]?=some e:=⟨ents[i],by simp[hi]⟩
   obtain⟨r,w⟩:=e
   have aZ:=List.mem_of_getElem? he
   have bt:=bf.rng _ aZ
   have htop':top<=AG L w*L+1:=iJ _ he
   obtain⟨row,hrow,fk,cB⟩:=wf.row bt.1 bt.2
   have km:ae.getD r.toNat []=row:=by rw[List.getD_eq_getElem?_getD,hrow];rfl
   obtain⟨mm,wv,q1,q2,q3⟩:=id hh
   obtain⟨xs,t,z1,z2,z3⟩:=q3.atZ bt.1 hrow
   refine⟨Pv (aa.length+1-(i+1)),fun ah H' h=>⟨_,by lia,h⟩,?_⟩
   refine⟨_,SqL.of gS,_,CF (v:=r) s!"" (by rw[Int.toNat_natCast,List.getElem?_map,he];rfl),?_⟩
   walk_at "rd"
   refine⟨_,s2.seqT q1,_,rfl,?_⟩
   walk_at "rd"
   refine⟨_,s2.seqT z1,_,z2,?_⟩
   walk_at "rd"
   refine⟨_,s2.seqT z3,?_⟩
   obtain⟨Pn,ck⟩:∃Pn:Nat->St->Hp->Prop,∀x aH H3,Pn x aH H3↔(∃(aw:List (Int×List Int)) (o5 o6:Option V),Same H H3/\Gu K H3 p aw/\H3 p2=some (.lst ((aw.map (·.1)).map V.int))/\Bfs L aa.length ae aw i (AG L w*L+(x:Int)+1)/\Seen L ae aw r w x/\aw[i]?=some (r,w)/\EB w aw x (row.drop x)=EB w ents 0 row/\aH=[some (.ref h),some (.ref p),some (.ref p2),some (.int i),some (.int r),o5,o6]):=⟨_,fun _ _ _=>Iff.rfl⟩
   refine forN Pn ((ck _ _ _).mpr ⟨ents,o5,o6,s2,en2,gS,bf.up (by push_cast;lia),(fun y h0 h1=>absurd h1 (by push_cast;lia)),he,rfl,rfl⟩) (fun x aH H3 _ h3=>?_) (fun x v aH H3 t' hx h3 dn=>?_) (fun aH H3 h3=>?_)
   ·obtain⟨aw,_,_,s3,_⟩:=(ck _ _ _).mp h3
    exact s3.seqT z3
   ·obtain⟨aw,o5,o6,s3,nA,cM,cX,gj,fS,b9,rfl⟩:=(ck _ _ _).mp h3
    obtain⟨g,hg,rfl⟩:=DD hx
    have bN:=(List.getElem?_eq_some_iff.mp hg).1
    have iK:=(wf.rows row fk).2 g (List.mem_of_getElem? hg)
    have nB:g=Bm ae r (x:Int):=(BL hrow (by rw[Int.toNat_natCast];exact hg)).symm
    have dz:=List.mem_of_getElem? fS
    have fm:row.drop x=g::row.drop (x+1):=by
     rw[List.drop_eq_getElem_cons bN]
     congr 1
     exact (List.getElem?_eq_some_iff.mp hg).2
    obtain⟨d7,gm⟩:=cX.letter s!"" gj dz s!"" nB iK
    have gn:=Hr (g:=g) (v:=w++[(x:Int)]) fS
    rw[fm,Hq]at b9
    have sT:=s3.newT dn (o:=.tup [V.int x,V.int g])
    have jL:=nA.mono (Same.new dn (o:=.tup [V.int x,V.int g]))
    have nE:=Same.new dn (o:=.tup [V.int x,V.int g]) _ _ cM
    walk_at "rd"
    refine⟨_,SqT.of Ab,rfl,?_⟩
    walk_at "rd"
    generalize upd H3 t' (.tup [V.int x,V.int g])=HT' at sT jL nE ⊢
    by_cases hm:g∈aw.map (·.1)
    ·rw[if_pos hm]at d7 gm gn b9
     obtain⟨e',eA,e1⟩:=List.mem_map.mp hm
     obtain⟨g',w'⟩:=e'
     have e1:g'=g:=e1
     subst e1
     obtain⟨tt,dg,_⟩:=jL.yes cX.nod eA
     refine⟨_,dg,?_⟩
     rw[if_neg (by simp)]
     exact (ck _ _ _).mpr ⟨aw,_,_,sT,jL,nE,d7,gm,gn,b9,rfl⟩
    ·rw[if_neg hm]at d7 gm gn b9
     refine⟨_,jL.no hm,?_⟩
     rw[if_pos (by simp)]
     obtain⟨tw,dw,nF⟩:=jL.yes cX.nod dz
     refine⟨_,dw,by lia,fun q5 lM=>?_⟩
     have dP:w.length<=100:=by
      have h1:w.length<=i:=cX.sh i _ fS
      lia
     refine Hf.ofS (Same.new lM _ _ nF) Ab (by simp;lia) fun q6 H6 s6 hq6=>?_
     have sU:=(sT.newT lM).trans s6
     have enU:=(jL.mono (Same.new lM)).mono s6
     have hrU:=s6 _ _ (Same.new lM _ _ nE)
     have hq6':H6 q6=some (.tup ((w++[(x:Int)]).map V.int)):=by simpa using hq6
     obtain⟨H7,dp,⟨kvs,cW,hd,rfl⟩,enV⟩:=enU.put hm (by have:=cX.len;lia) hq6'
     walk_at "rd"
     refine⟨_,dp,?_⟩
     have nG:upd H6 p (.dK cW) p2=some (.lst ((aw.map (·.1)).map V.int)):=by rw[Ah hne2];exact hrU
     refine⟨.inl ⟨rfl,_,SqL.of nG⟩,_,nG,by have:=cX.len;simp;lia,(ck _ _ _).mpr ⟨aw++[(g,w++[(x:Int)])],_,_,(sU.over hp).over hp2n,enV.off nG,by rw[Ab];simp,d7,gm,gn,b9,rfl⟩⟩
   ·obtain⟨aw,o5,o6,s3,nA,cM,cX,gj,fS,b9,rfl⟩:=(ck _ _ _).mp h3
    rw[List.length_map]at cX gj b9
    rw[List.drop_length,IH]at b9
    walk_at "rd"
    obtain⟨d7,fo⟩:=cX.next s!"" cB gj fS
    refine (au _ _ _).mpr ⟨aw,i+1,_,_,_,_,rfl,s3,nA,cM,d7,fo,?_,by push_cast;rfl⟩
    rw[show aa.length+1-i=(aa.length+1-(i+1))+1 by lia,Nx he]at b8
    rw[b9,<-km]
    exact b8
  ·have hi:i=ents.length:=by have:=bf.il;lia
   subst hi
   rw[Nw (by simp)]at b8
   rw[<-b8]at k
   exact k p top H2 s2 hp en2 bf
noncomputable def CS_ (H:Hp)(d:Addr)(ents:List (Int×List Int))(n:Nat):Prop:=∃xs:List V,H d=some (.lst xs)/\xs.length=n/\∀r:Nat,r<n->(∃(w:List Int) (t:Addr),((r:Int),w)∈ents/\xs[r]?=some (.ref t)/\H t=some (.tup (w.map V.int)))\/((r:Int)∉ents.map (·.1)/\xs[r]?=some .non)
noncomputable def P6 (K:PySem.W.Frag):Sp:=fun vs H Q _=>∃(h:Addr) (L:Int) (aa:List Int) (ae:List (List Int)),vs=[.ref h]/\Bz K H h L aa ae/\Wf L aa ae/\∀d top H',Same H H'->H d=none->CS_ H' d (Ax ae) aa.length->Bfs L aa.length ae (Ax ae) (Ax ae).length top->Q (.ref d) H'
theorem TV   (F:Fun K "ways_in" "ways_in" Ef f fd)(T:Txt mg)
  (Z:Exs K mg av aq)
   (DZ:FnOk P w K mg base CX0 1 CA El ["house"] (IY K)) (C2:Fun K "words_in" "words_in" CS CA El) (D0:Bj K El ["house"] []) (D7:mg "words_in"=some (.ref CA))
  : FnOk P w K mg base CX0 2 f fd ["house"] (P6 K):=by
 refine F.ok M5 (fun vs H Q E h=>?_) (fun aB A outer s H vs Q E hr h=>?_)
 ·obtain⟨h,L,aa,ae,rfl,_⟩:=h;rfl
 ·obtain⟨h,L,aa,ae,rfl,hh,wf,k⟩:=h
  have hl:=AA
  have aP:=wf.n40
  refine⟨_,(Ac (CG (i:=1) M5.nd rfl (Or.inr rfl) (Am DZ (hr.mono (by decide)) rfl D7 C2.kp D0 .nil Be (Aa (pvD 0) Ad)))
   (Ag (A0 (Cg rfl (Cp rfl) (cp:=K6) (te:=Vb (Tu 1) (Tu 0)) ⟨⟨rfl,rfl⟩,True.intro⟩ (BN rfl T.range (Aa (Av (lenD Ak) (by rfl) T.len PySem.boot_len (Aa (Ai (ixTD AI) (pvD 0) Ae) Ad)) Ad)) (fun _ _ _ _=>(Ar (i:=0) Ml rfl (Or.inl rfl))) (fun _ _ _ _=>CD) (fun _ _ _ _=>(by exact (WZ (O7 hr) (pvD 1) (pvD 0) ⟨rfl,rfl,rfl,rfl⟩))))))),?_⟩
  walk_at "rd"
  refine⟨h,L,aa,ae,rfl,hh,wf,fun d top H1 s1 hd en bf=>?_⟩
  obtain⟨mm,wv,q1,q2,q3⟩:=hh.mono s1
  walk_at "rd"
  refine⟨_,q1,_,rfl,?_⟩
  walk_at "rd"
  refine⟨_,.inr q2,?_⟩
  rw[List.length_map]
  refine⟨by lia,by lia,?_⟩
  rw[Int.toNat_natCast]
  obtain⟨Pc,eF⟩:∃Pc:Nat->List V->St->Hp->Prop,∀j ys bJ H4,Pc j ys bJ H4↔(H4=H1/\ys.length=j/\(∀r:Nat,r<j->(∃(w:List Int) (t:Addr),((r:Int),w)∈Ax ae/\ys[r]?=some (.ref t)/\H1 t=some (.tup (w.map V.int)))\/((r:Int)∉(Ax ae).map (·.1)/\ys[r]?=some .non))/\∃o,bJ=[o,some (.ref d)]):=⟨_,fun _ _ _ _=>Iff.rfl⟩
  refine Vl Pc ((eF _ _ _ _).mpr ⟨rfl,rfl,(fun r hr=>absurd hr (Nat.not_lt_zero _)),none,rfl⟩) s!"" (fun j ys bJ H4 _ h4=>?_) (fun j ys bJ H4 hj h4=>?_) (fun ys bJ H4 h4 D hD=>?_)
  ·obtain⟨_,ak,_⟩:=(eF _ _ _ _).mp h4
   lia
  ·obtain⟨rfl,ak,aL,o,rfl⟩:=(eF _ _ _ _).mp h4
   obtain⟨kvs,jF,_⟩:=id en
   have ext:∀v:V,((∃(w:List Int) (t:Addr),((j:Int),w)∈Ax ae/\v=.ref t/\H4 t=some (.tup (w.map V.int)))\/((j:Int)∉(Ax ae).map (·.1)/\v=.non))->∀o,Pc (j+1) (ys++[v]) [o,some (.ref d)] H4:=fun v hv o=>by
    refine (eF _ _ _ _).mpr ⟨rfl,by simp[ak],fun r hr=>?_,o,rfl⟩
    by_cases kF:r<j
    ·rw[List.getElem?_append_left s!""]
     exact aL r kF
    ·have e:r=j:=by lia
     subst e
     rw[List.getElem?_append_right s!"",ak,Nat.sub_self]
     rcases hv with ⟨w,t,a,b,c⟩|⟨a,b⟩
     ·exact .inl ⟨w,t,a,by rw[b];rfl,c⟩
     ·exact .inr ⟨a,by rw[b];rfl⟩
   walk_at "rd"
   refine⟨.inl ⟨kvs,.inl jF⟩,?_⟩
   have ej:(0:Int)+(j:Nat)=(j:Int):=by lia
   rw[ej]
   by_cases hm:(j:Int)∈(Ax ae).map (·.1)
   ·obtain⟨e',eA,e1⟩:=List.mem_map.mp hm
    obtain⟨g',w'⟩:=e'
    have e1:g'=(j:Int):=e1
    subst e1
    obtain⟨tt,dg,hw⟩:=en.yes bf.nod eA
    exact⟨_,dg,ext _ (.inl ⟨w',tt,eA,rfl,hw⟩) _⟩
   ·exact⟨_,en.no hm,ext _ (.inr ⟨hm,rfl⟩) _⟩
  ·obtain⟨rfl,ak,aL,o,rfl⟩:=(eF _ _ _ _).mp h4
   refine k D top _ (s1.newT hD) (s1.free hD) ⟨ys,Ab,ak,fun r hr=>?_⟩ bf
   rcases aL r hr with ⟨w,t,a,b,c⟩|h
   ·exact .inl ⟨w,t,a,b,Same.new hD _ _ c⟩
   ·exact .inr h
structure RF (L n:Nat)(ae:List (List Int))(R:List Int):Prop where
 hd:R[0]?=some 0
 nod:R.Nodup
 rng:∀r∈R,0<=r/\r<(n:Int)
 len:R.length<=n
 cls:∀r∈R,∀x:Nat,x<L->Bm ae r (x:Int)∈R
theorem RF.of {L n:Nat}{ae:List (List Int)}{top:Int}(bf:Bfs L n ae (Ax ae) (Ax ae).length top):RF L n ae ((Ax ae).map (·.1)):=by
 refine⟨by rw[List.getElem?_map,bf.hd];rfl,bf.nod,fun r hr=>?_,by rw[List.length_map];exact bf.len,fun r hr x hx=>?_⟩
 ·obtain⟨e,he,rfl⟩:=List.mem_map.mp hr
  exact bf.rng e he
 ·obtain⟨e,he,rfl⟩:=List.mem_map.mp hr
  obtain⟨j,hj⟩:=List.mem_iff_getElem?.mp he
  obtain⟨e',h1,h2,_⟩:=bf.don j (List.getElem?_eq_some_iff.mp hj).1 e hj (x:Int) s!"" s!""
  rw[<-h2]
  exact List.mem_map_of_mem h1
noncomputable def IZ (K:PySem.W.Frag):Sp:=fun vs H Q _=>∃(h:Addr) (L:Nat) (aa:List Int) (ae:List (List Int)),vs=[.ref h]/\Bz K H h L aa ae/\Wf L aa ae/\∀p H',Same H H'->H p=none->H' p=some (.lst (((Ax ae).map (·.1)).map V.int))->RF L aa.length ae ((Ax ae).map (·.1))->Q (.ref p) H'
theorem TX   (F:Fun K "reached" "reached" DF f fd)(T:Txt mg)
  (Z:Exs K mg av aq)
   (DZ:FnOk P w K mg base CX0 1 CA El ["house"] (IY K)) (C2:Fun K "words_in" "words_in" CS CA El) (D0:Bj K El ["house"] []) (D7:mg "words_in"=some (.ref CA))
  : FnOk P w K mg base CX0 2 f fd ["house"] (IZ K):=by
 refine F.ok TQ (fun vs H Q E h=>?_) (fun aB A outer s H vs Q E hr h=>?_)
 ·obtain⟨h,L,aa,ae,rfl,_⟩:=h;rfl
 ·obtain⟨h,L,aa,ae,rfl,hh,wf,k⟩:=h
  refine⟨_,(Ag (A0 (AZ (Mf rfl) rfl T.list PyProof.Rows.boot_list (Aa (Am DZ (hr.mono (by decide)) rfl D7 C2.kp D0 .nil Be (Aa (pvD 0) Ad)) Ad)))),?_⟩
  walk_at "rd"
  refine⟨h,L,aa,ae,rfl,hh,wf,fun d top H1 s1 hd en bf=>?_⟩
  obtain⟨kvs,h1,h2,h3⟩:=en
  refine⟨d,rfl,kvs,h1,fun l hl=>k l _ (s1.newT hl) (s1.free hl) ?_ (RF.of bf)⟩
  rw[Ab]
  congr 2
  refine List.ext_getElem? fun i=>?_
  rw[List.getElem?_map,List.getElem?_map,List.getElem?_map]
  cases he:(Ax ae)[i]? with
  |none=>
   have:kvs[i]?=none:=by rw[List.getElem?_eq_none_iff]at he ⊢;lia
   rw[this];rfl
  |some e=>
   obtain⟨t,a,_⟩:=h3 i e he
   rw[a];rfl
noncomputable def numD {α κ:Type}[DecidableEq α](k:α->κ)(ks:List α):List (κ×V):=ks.map fun x=>(k x,V.int ((ks.idxOf x:Nat):Int))
theorem Fq {α κ:Type}[DecidableEq α]{k:α->κ}{ks:List α}:(numD k ks).length=ks.length:=by unfold numD;rw[List.length_map]
theorem E2 {α κ:Type}[DecidableEq α][DecidableEq κ]{k:α->κ}(hk:∀x y,k x=k y->x=y){ks:List α}(nd:ks.Nodup){x:α}(hx:x∈ks):valV (numD k ks) (k x)=some (V.int ((ks.idxOf x:Nat):Int)):=by
 have hi:=List.idxOf_lt_length_of_mem hx
 refine ZU (i:=ks.idxOf x) ?_ ?_
 ·unfold numD
  rw[List.map_map]
  exact List.Pairwise.map _ (fun a b cc z=>cc (hk a b z)) nd
 ·unfold numD
  rw[List.getElem?_map,List.getElem?_eq_getElem hi,List.getElem_idxOf];rfl
theorem Ir {α κ:Type}[DecidableEq α][DecidableEq κ]{k:α->κ}(hk:∀x y,k x=k y->x=y){ks:List α}{x:α}(hx:x∉ks):valV (numD k ks) (k x)=none:=by
 have h1:=Fh (k x) (numD k ks)
 have h2:((numD k ks).any fun kv=>decide (kv.1=k x))=false:=by
  rw[List.any_eq_false]
  intro p hp
  unfold numD at hp
  obtain⟨y,hy,rfl⟩:=List.mem_map.mp hp
  simp only[decide_eq_true_eq]
  intro z
  exact hx (hk _ _ z ▸ hy)
 rw[h2]at h1
 cases q:valV (numD k ks) (k x) with
 |none=>rfl
 |some v=>rw[q]at h1;cases h1
theorem N1 {α κ:Type}[DecidableEq α][DecidableEq κ]{k:α->κ}(hk:∀x y,k x=k y->x=y){ks:List α}{x:α}(hx:x∉ks):putK (numD k ks) (k x) (V.int ((ks.length:Nat):Int))=numD k (ks++[x]):=by
 rw[WV _ (Ir hk hx)]
 unfold numD
 rw[List.map_append,List.map_singleton,QW hx]
 congr 1
 exact List.map_congr_left fun y hy=>by rw[Xc hy]
theorem Fs {α:Type}[DecidableEq α]{row:List α}{i:Nat}{x:α}(h:row[i]?=some x):Ay (row.take (i+1))=ins1 (Ay (row.take i)) x:=by
 rw[List.take_add_one,h];exact QU _ _
theorem N2  [DecidableEq α](row:List α)(i:Nat):(Ay (row.take i)).length<=row.length:=by
 have h1:=MT (row.take i)
 unfold ncl at h1
 rw[List.length_take]at h1
 lia
noncomputable def Zc (K:PySem.W.Frag):Sp:=fun vs H Q _=>∃(a:Addr),vs=[.ref a]/\((∃ns:List Int,SqT K H a (ns.map V.int)/\ns.length<=100/\∀l H',Same H H'->H l=none->H' l=some (.lst ((num ns).map V.int))->Q (.ref l) H')\/(∃(xs:List V) (ws:List (List Int)),SqL K H a xs/\AF K H xs ws/\ws.length<=100/\∀l H',Same H H'->H l=none->H' l=some (.lst ((num ws).map V.int))->Q (.ref l) H'))
theorem Rh   (F:Fun K "numbered" "numbered" Dz f fd)(T:Txt mg)
  (Z:Exs K mg av aq)
  : FnOk P w K mg base CX0 1 f fd ["row"] (Zc K):=by
 refine F.ok Hu (fun vs H Q E h=>?_) (fun aB A outer s H vs Q E hr h=>?_)
 ·obtain⟨a,rfl,_⟩:=h;rfl
 ·obtain⟨a,rfl,cc⟩:=h
  have hl:=AA
  refine⟨_,(Ac (CG (i:=1) Hu.nd rfl (Or.inr rfl) Xb)
   (Ac (CH PassesOwn.never rfl (YF (pvD 0)) (Ar (i:=2) Hu.nd rfl (Or.inl rfl))
   (Ag (DE (Ye (Pb (O7 hr) (pvD 2) (pvD 1)))
   (Ag (QG (O7 hr) (pvD 1) (pvD 2) (Av Pu (by rfl) T.len PySem.boot_len (Aa (pvD 1) Ad)) rfl))
   Bg)))
   (Ag (A0 (Cg rfl (Cp rfl) (cp:=JC) ⟨⟨rfl,rfl⟩,True.intro⟩ (YF (pvD 0)) (fun _ _ _ _=>(Ar (i:=0) K7 rfl (Or.inl rfl))) (fun _ _ _ _=>CD) (fun _ _ _ _=>(U8 (O7 hr) (pvD 1) (pvD 0) (fun _ _=>rfl)))))))),?_⟩
  rcases cc with ⟨ns,ha,hz,k⟩|⟨xs,ws,ha,hW,hz,k⟩
  ·walk_at "rd"
   refine .inl fun d hd=>?_
   have sd:=Same.new hd (o:=.dK [])
   have bM:∀x y:Int,(Sum.inl x:Key)=Sum.inl y->x=y:=fun x y z=>Sum.inl.inj z
   obtain⟨Pv,au⟩:∃Pv:Nat->St->Hp->Prop,∀i ah H',Pv i ah H'↔(∃o:Option V,Same H H'/\H' d=some (.dK (numD (fun x:Int=>(Sum.inl x:Key)) (Ay (ns.take i))))/\ah=[some (.ref a),some (.ref d),o]):=⟨_,fun _ _ _=>Iff.rfl⟩
   refine .inr ⟨⟨_,sd.seqT ha⟩,forT (xs:=ns.map V.int) Pv ((au _ _ _).mpr ⟨none,sd,Ab,rfl⟩) (fun i ah H' _ h'=>by obtain⟨_,s',_⟩:=(au _ _ _).mp h';exact s'.seqT ha) (fun i x ah H' hx h'=>?_) (fun ah H' h'=>?_)⟩
   ·obtain⟨o,s',cq,rfl⟩:=(au _ _ _).mp h'
    obtain⟨n,hn,rfl⟩:=DD hx
    have jM:=N2 ns i
    have nd:=BA (ns.take i)
    have et:=Fs hn
    walk_at "rd"
    refine⟨_,DGet.k (k:=Sum.inl n) cq,?_⟩
    by_cases hm:n∈Ay (ns.take i)
    ·rw[E2 bM nd hm]
     simp only[Option.isSome_some,Bool.not_true,Bool.false_eq_true,if_false]
     exact (au _ _ _).mpr ⟨_,s',by rw[et,ins1,if_pos hm];exact cq,rfl⟩
    ·rw[Ir bM hm]
     simp only[Option.isSome_none,Bool.not_false,if_true]
     have iL:=N1 (k:=fun x:Int=>(Sum.inl x:Key)) bM hm
     refine .inl ⟨_,cq,_,DPut.k (k:=Sum.inl n) cq (by rw[Fq];lia),(au _ _ _).mpr ⟨_,s'.over hd,?_,rfl⟩⟩
     rw[Ab,et,ins1,if_neg hm,Fq]
     exact congrArg (fun z=>some (HO.dK z)) iL
   ·obtain⟨o,s',cq,rfl⟩:=(au _ _ _).mp h'
    rw[List.length_map,List.take_length]at cq
    walk_at "rd"
    obtain⟨f,hf⟩:∃f:V->V,∀n:Int,f (V.int n)=.int (((Ay ns).idxOf n:Nat):Int):=⟨fun x=>match x with | .int n=>.int (((Ay ns).idxOf n:Nat):Int)|_=>.non,fun _=>rfl⟩
    refine .inr ⟨⟨_,s'.seqT ha⟩,GO (ah:=[some (.ref d)]) f rfl (s'.seqT ha) (by rw[List.length_map];lia) (fun x hx R hR=>?_) (fun D hD=>?_)⟩
    ·obtain⟨n,hn,rfl⟩:=EA hx
     rw[hf]at hR
     have e:=E2 (k:=fun x:Int=>(Sum.inl x:Key)) bM (BA ns) (A3.mpr hn)
     have hg:=DGet.k (k:=Sum.inl n) cq
     rw[e]at hg
     walk_at "rd"
     exact⟨_,hg,hR⟩
    ·have em:(ns.map V.int).map f=(num ns).map V.int:=by
      unfold num
      rw[List.map_map,List.map_map]
      exact List.map_congr_left fun n _=>hf n
     exact k D _ (s'.newT hD) (s'.none hD) (by rw[Ab,em])
  ·walk_at "rd"
   refine .inr fun d hd=>?_
   have sd:=Same.new hd (o:=.dT [])
   obtain⟨Pv,au⟩:∃Pv:Nat->St->Hp->Prop,∀i ah H',Pv i ah H'↔(∃o:Option V,Same H H'/\H' d=some (.dT (numD wkey (Ay (ws.take i))))/\ah=[some (.ref a),some (.ref d),o]):=⟨_,fun _ _ _=>Iff.rfl⟩
   refine .inl ⟨⟨_,sd.seq ha⟩,forL (xs:=xs) Pv ((au _ _ _).mpr ⟨none,sd,Ab,rfl⟩) (fun i ah H' _ h'=>by obtain⟨_,s',_⟩:=(au _ _ _).mp h';exact s'.seq ha) (fun i x ah H' hx h'=>?_) (fun ah H' h'=>?_)⟩
   ·obtain⟨o,s',cq,rfl⟩:=(au _ _ _).mp h'
    obtain⟨t,v,cG,rfl,ht⟩:=hW.at hx
    have jM:=N2 ws i
    have nd:=BA (ws.take i)
    have et:=Fs cG
    have dn:H' t=some (.tup ((wkey v).map kV)):=by rw[NC];exact s' _ _ ht
    walk_at "rd"
    refine⟨_,DGet.t cq dn,?_⟩
    by_cases hm:v∈Ay (ws.take i)
    ·rw[E2 (fun x y z=>HZ z) nd hm]
     simp only[Option.isSome_some,Bool.not_true,Bool.false_eq_true,if_false]
     exact (au _ _ _).mpr ⟨_,s',by rw[et,ins1,if_pos hm];exact cq,rfl⟩
    ·rw[Ir (fun x y z=>HZ z) hm]
     simp only[Option.isSome_none,Bool.not_false,if_true]
     refine .inr ⟨_,cq,_,DPut.t (k:=wkey v) cq dn (by rw[Fq];lia),(au _ _ _).mpr ⟨_,s'.over hd,?_,rfl⟩⟩
     rw[Ab,et,ins1,if_neg hm,Fq,N1 (fun x y z=>HZ z) hm]
   ·obtain⟨o,s',cq,rfl⟩:=(au _ _ _).mp h'
    rw[hW.1,List.take_length]at cq
    walk_at "rd"
    refine .inl ⟨⟨_,s'.seq ha⟩,QK (xs:=xs) (fun i zs aj H2=>H2=H'/\zs=((num ws).take i).map V.int/\∃o,aj=[o,some (.ref d)]) ⟨rfl,rfl,none,rfl⟩ (by rw[hW.1];lia) (fun i zs aj H2 hi h2=>⟨by rw[h2.1];exact s'.seq ha,by rw[h2.2.1,List.length_map,List.length_take];lia⟩) (fun i x zs aj H2 hx h2=>?_) (fun zs aj H2 h2 D hD=>?_)⟩
    ·obtain⟨rfl,rfl,o2,rfl⟩:=h2
     obtain⟨t,v,cG,rfl,ht⟩:=hW.at hx
     have dn:H2 t=some (.tup ((wkey v).map kV)):=by rw[NC];exact s' _ _ ht
     have e:=E2 (fun x y z=>HZ z) (BA ws) (A3.mpr (List.mem_of_getElem? cG))
     have hg:=DGet.t cq dn
     rw[e]at hg
     walk_at "rd"
     refine⟨_,hg,?_⟩
     first
      | (refine⟨rfl,?_,_,rfl⟩;rw[List.take_add_one,Sr cG,List.map_append];rfl)
      | (refine⟨?_,_,rfl⟩;rw[List.take_add_one,Sr cG,List.map_append];rfl)
    ·obtain⟨rfl,rfl,o2,rfl⟩:=h2
     rw[hW.1,List.take_of_length_le (by rw[IK];exact Nat.le_refl _)]
     exact k D _ (s'.newT hD) (s'.none hD) Ab
noncomputable def BehL (H:Hp)(mm pw pb:Addr)(aa:List Int)(n:Nat)(b:List Int->Nat->Int)(bs:List V)(words:List (List Int)):Prop:=bs.length=words.length/\∀(i:Nat) (w:List Int),words[i]?=some w->∃t,bs[i]?=some (.ref t)/\((H t=some (.lst ((rowB n b w).map V.int))/\t≠pw/\t≠pb)\/(t=mm/\rowB n b w=aa))
theorem BehL.keep        (h:BehL H mm pw pb aa n b bs words)(s:∀t o,t≠pw->t≠pb->H t=some o->H' t=some o):BehL H' mm pw pb aa n b bs words:=⟨h.1,fun i w hi=>by
 obtain⟨t,e1,e2⟩:=h.2 i w hi
 exact⟨t,e1,e2.imp (fun e=>⟨s _ _ e.2.1 e.2.2 e.1,e.2⟩) id⟩⟩
theorem BehL.snoc {H:Hp}{mm pw pb:Addr}{aa:List Int}{n:Nat}{b:List Int->Nat->Int}{bs:List V}{words:List (List Int)}{t:Addr}{w:List Int}(h:BehL H mm pw pb aa n b bs words)(ht:H t=some (.lst ((rowB n b w).map V.int)))(h1:t≠pw)(h2:t≠pb):BehL H mm pw pb aa n b (bs++[.ref t]) (words++[w]):=by
 refine⟨by simp[h.1],fun i r hi=>?_⟩
 by_cases hl:i<words.length
 ·rw[List.getElem?_append_left hl]at hi
  rw[List.getElem?_append_left (by rw[h.1];exact hl)]
  exact h.2 i r hi
 ·have:=(List.getElem?_eq_some_iff.mp hi).1
  rw[List.length_append,List.length_singleton]at this
  have e:i=words.length:=by lia
  subst e
  rw[List.getElem?_append_right (Nat.le_refl _),Nat.sub_self]at hi
  simp at hi
  subst hi
  exact⟨t,by rw[<-h.1];simp,.inl ⟨ht,h1,h2⟩⟩
theorem WC.short      (h:WC L n b words c):∀(k:Nat) (w:List Int),words[k]?=some w->w.length<=k:=by
 intro k
 induction k using Nat.strongRecOn with
 |_ k ih=>
  intro w hw
  cases k with
  |zero=>
   rw[h.w0]at hw
   cases hw
   exact Nat.zero_le _
  |succ k=>
   obtain⟨j,hj⟩:=List.mem_iff_getElem?.mp (h.tl (k+1) w hw (Nat.succ_pos _))
   rw[List.getElem?_take]at hj
   split at hj
   ·rename_i ar
    have:=ih j ar _ hj
    rw[List.length_tail]at this
    lia
   ·cases hj
noncomputable def zipW (c m:List Int):List (List Int):=(c.zip m).map fun p=>[p.1,p.2]
theorem Xw (c m:List Int):num (zipW c m)=num (c.zip m):=Z7 _ fun p _ q _ e=>by
 have h1:=List.cons.inj e
 exact Prod.ext h1.1 (List.cons.inj h1.2).1
noncomputable def An_ (K:PySem.W.Frag):Sp:=fun vs H Q _=>∃(h:Addr) (L:Nat) (aa:List Int) (ae:List (List Int)),vs=[.ref h]/\Bz K H h L aa ae/\Wf L aa ae/\∀t pw pc xs H',Same H H'->H' t=some (.tup [.ref pw,.ref pc])->H pw=none->H' pw=some (.lst xs)->AF K H' xs (wcOf aa.length L (bW aa ae)).1->H' pc=some (.lst ((wcOf aa.length L (bW aa ae)).2.map V.int))->Fin17 aa.length L (bW aa ae) (wcOf aa.length L (bW aa ae))->Q (.ref t) H'
theorem G0   (F:Fun K "words_and_classes" "words_and_classes" AO f fd)(T:Txt mg)
  (Z:Exs K mg av aq)
   (GS:FnOk P w K mg base CX0 1 D8 Lc ["row"] (Zc K)) (D9:Fun K "numbered" "numbered" Dz D8 Lc) (GU:Bj K Lc ["row"] []) (GV:mg "numbered"=some (.ref D8))
  : FnOk P w K mg base CX0 2 f fd ["house"] (An_ K):=by
 refine F.ok Au (fun vs H Q E h=>?_) (fun aB A outer s H vs Q E hr h=>?_)
 ·obtain⟨h,L,aa,ae,rfl,_⟩:=h;rfl
 ·obtain⟨h,L,aa,ae,rfl,hh,wf,k⟩:=h
  have hl:=AA
  have cL:=wf.l1
  have cj:=wf.l6
  have bR:=wf.n1
  have aP:=wf.n40
  refine⟨_,(Ac (Aj (i:=1) Au.nd (B9 (Aa (Dx Ad) Ad)))
   (Ac (CG (i:=2) Au.nd rfl (Or.inr rfl) (B9 (Aa (Ai (ixTD AI) (pvD 0) Ae) Ad)))
   (Ac (Aj (i:=3) Au.nd (Am GS (hr.mono (by decide)) rfl GV D9.kp GU .nil Be (Aa (Ai (ixTD AI) (pvD 0) Ae) Ad)))
   (Ac (CG (i:=4) Au.nd rfl (Or.inr rfl) Ae)
   (Ac (GL PassesOwn.never (ptT (AB (opD0 Mc) (pvD 4) (Av (lenD Ak) (by rfl) T.len PySem.boot_len (Aa (pvD 1) Ad)) (AY _)))
   (Ac (CH PassesOwn.never rfl (BN rfl T.range (Aa (Ai (ixTD AI) (pvD 0) Ae) Ad)) (Ar (i:=5) Au.nd rfl (Or.inr rfl))
   (Ac (IE (i:=6) Au.nd rfl rfl rfl (Cp rfl) (cp:=DH) ⟨⟨rfl,rfl⟩,⟨⟨rfl,rfl⟩,⟨⟨rfl,rfl⟩,True.intro⟩⟩⟩ (HS (Ai (ixTD AI) (pvD 0) Ae)) (fun _ _ _ _=>(Ar (i:=0) EZ rfl (Or.inl rfl))) (fun _ _ _ _=>CD) (fun _ _ _ _=>(Bf_ (Z0 (K:=K) rfl) (Ai (ixLD (CM (K:=K) rfl)) (pvD 1) (pvD 2)) (Ai (ixTD (CN (K:=K) rfl)) (pvD 0) (pvD 3)) (fun _ _=>rfl))))
   (Ac (Aj (i:=7) Au.nd (Am GS (hr.mono (by decide)) rfl GV D9.kp GU .nil Be (Aa (Tn rfl rfl T.list rfl T.zip (Aa (pvD 3) (Aa (pvD 6) Ad))) Ad)))
   (Ag (DE (ptT (AB (opD0 Zx) (Av (Pt rfl) rfl T.max PyProof.Rows.boot_max (Aa (pvD 7) Ad)) (Av (Pt rfl) rfl T.max PyProof.Rows.boot_max (Aa (pvD 3) Ad)) (AY _)))
   (Ac (Bv (Fg PySem.F.plainAttrs_list PySem.F.slot_list_append PySem.F.type_list_append Bh (pvD 1) (Aa (As GP (Dx (Aa (pvD 5) Ad)) (Ai (ixLD Bw) (pvD 1) (pvD 4))) Ad)))
   (Ac (Bv (Fg PySem.F.plainAttrs_list PySem.F.slot_list_append PySem.F.type_list_append Bh (pvD 2) (Aa (pvD 6) Ad)))
   (Ag (Aj (i:=3) Au.nd (pvD 7)))))
   Bg)))))
   (Ag (UM (i:=4) Au.nd rfl (Or.inr rfl) Ae Yg))))
   (Ag (A0 (Dx (Aa (pvD 1) (Aa (pvD 3) Ad)))))))))),?_⟩
  obtain⟨mm,wv,q1,q2,ts,q3,q4,q5⟩:=id hh
  walk_at "rd"
  refine⟨Nat.zero_le _,fun t0 kG=>⟨by lia,fun pw br=>?_⟩⟩
  have s1:=(Same.new kG (o:=.tup [])).newT br (o:=.lst [V.ref t0])
  have hpwH:H pw=none:=(Same.new kG (o:=.tup [])).none br
  have du:upd (upd H t0 (.tup [])) pw (.lst [V.ref t0]) pw=some (.lst [V.ref t0]):=Ab
  have hW1:AF K (upd (upd H t0 (.tup [])) pw (.lst [V.ref t0])) [V.ref t0] [[]]:=⟨rfl,fun i w hi=>by
   match i,hi with
   |0,hi=>cases hi;exact⟨t0,rfl,Same.new br _ _ Ab⟩⟩
  generalize upd (upd H t0 (.tup [])) pw (.lst [V.ref t0])=H1 at s1 du hW1 ⊢
  refine⟨_,s1.seqT q1,_,rfl,by lia,fun pb jN=>?_⟩
  have hpbH:H pb=none:=s1.none jN
  have hpbw:pb≠pw:=fun z=>by rw[z,du]at jN;cases jN
  have s2:=s1.newT jN (o:=.lst [V.ref mm])
  have dZ:upd H1 pb (.lst [V.ref mm]) pb=some (.lst [V.ref mm]):=Ab
  have gT:=Same.new jN (o:=.lst [V.ref mm]) _ _ du
  have iM:=hW1.mono (TK.new jN (o:=.lst [V.ref mm]))
  generalize upd H1 pb (.lst [V.ref mm])=H2 at s2 dZ gT iM ⊢
  refine⟨_,s2.seqT q1,_,rfl,mm,rfl,.inl ⟨aa,s2.seqT q2,by lia,fun pc H3 s3 gp hpc3=>?_⟩⟩
  have nH:=s2.trans s3
  obtain⟨Pv,au⟩:∃Pv:Nat->St->Hp->Prop,∀m ah H',Pv m ah H'↔(∃(st:StC) (k:Nat) (xs bs:List V) (pc:Addr) (o5 o6 o7:Option V),m=41-k/\Same H H'/\H' pw=some (.lst xs)/\AF K H' xs st.1/\H' pb=some (.lst bs)/\BehL H' mm pw pb aa aa.length (bW aa ae) bs st.1/\H' pc=some (.lst (st.2.map V.int))/\pc≠pw/\pc≠pb/\WS aa.length L (bW aa ae) k 0 st/\Ic aa.length (bW aa ae) L (41-k) k st=wcOf aa.length L (bW aa ae)/\ah=[some (.ref h),some (.ref pw),some (.ref pb),some (.ref pc),some (.int k),o5,o6,o7]):=⟨_,fun _ _ _=>Iff.rfl⟩
  have hpcw:pc≠pw:=fun z=>by rw[z,gT]at gp;cases gp
  have hpcb:pc≠pb:=fun z=>by rw[z,dZ]at gp;cases gp
  refine MN Pv ⟨_,(au _ _ _).mpr ⟨([[]],num (rowB aa.length (bW aa ae) [])),0,[V.ref t0],[V.ref mm],pc,none,none,none,rfl,nH,s3 _ _ gT,iM.mono (TK.of s3),s3 _ _ dZ,⟨rfl,fun i w hi=>?_⟩,by rw[YS];exact hpc3,hpcw,hpcb,WS.start bR,rfl,rfl⟩⟩ ?_
  ·match i,hi with
   |0,hi=>cases hi;exact⟨mm,rfl,.inr ⟨rfl,YS⟩⟩
  intro m bJ H4 h4
  obtain⟨st,k0,xs,bs,pc4,o5,o6,o7,rfl,s4,fT,dA,hb4,hB4,nI,hcw4,hcb4,nJ,ho4,rfl⟩:=(au _ _ _).mp h4
  have fW:=nJ.few
  walk_at "rd"
  refine⟨_,.inl (SqL.of fT),?_⟩
  rw[dA.1]
  refine ite2 (fun ar=>?_) (fun a9=>?_)
  ·have hk:k0<st.1.length:=by lia
   obtain⟨w,jK⟩:∃w,st.1[k0]?=some w:=⟨st.1[k0],by simp[hk]⟩
   refine⟨Pv (41-(k0+1)),fun ah H' h=>⟨_,by lia,h⟩,?_⟩
   walk_at "rd"
   refine⟨_,s4.seqT q1,_,rfl,L,rfl,by lia,by lia,?_⟩
   rw[Int.toNat_natCast]
   obtain⟨Pz,kH⟩:∃Pv:Nat->St->Hp->Prop,∀i ah H',Pv i ah H'↔(∃(ag:StC) (xs bs:List V) (pc:Addr) (o5 o6 o7:Option V),ag=Ib aa.length (bW aa ae) w i st/\Same H H'/\H' pw=some (.lst xs)/\AF K H' xs ag.1/\H' pb=some (.lst bs)/\BehL H' mm pw pb aa aa.length (bW aa ae) bs ag.1/\H' pc=some (.lst (ag.2.map V.int))/\pc≠pw/\pc≠pb/\WS aa.length L (bW aa ae) k0 i ag/\ag.1[k0]?=some w/\ah=[some (.ref h),some (.ref pw),some (.ref pb),some (.ref pc),some (.int k0),o5,o6,o7]):=⟨_,fun _ _ _=>Iff.rfl⟩
   refine forR Pz ((kH _ _ _).mpr ⟨st,xs,bs,pc4,o5,o6,o7,rfl,s4,fT,dA,hb4,hB4,nI,hcw4,hcb4,nJ,jK,rfl⟩) (fun i gq H5 hi h5=>?_) (fun gq H5 h5=>?_)
   ·obtain⟨a8,kI,kJ,nK,p5,p6,p7,iN,s5,iO,fq,jO,jP,lN,iP,iQ,eG,d8,rfl⟩:=(kH _ _ _).mp h5
    rw[Int.zero_add]
    have hfew5:=eG.few
    have hisw:=eG.wc.ok w (List.mem_of_getElem? d8)
    obtain⟨tb,jG,htbv⟩:=jP.2 k0 w d8
    walk_at "rd"
    refine⟨_,s5.seqT q1,_,rfl,wv,rfl,⟨_,s5.seqT q3⟩,ZL (xs:=ts.map V.ref) (fun j zs ah H'=>H'=H5/\zs=((rowB aa.length (bW aa ae) ((i:Int)::w)).take j).map V.int/\∃o,ah=[o,some (.ref pb),some (.int k0),some (.int i)]) ⟨rfl,rfl,none,rfl⟩ (by rw[List.length_map,q4,wf.len];lia) (fun j zs ah H' hj h'=>⟨by rw[h'.1];exact s5.seqT q3,by rw[h'.2.1,List.length_map,List.length_take];lia⟩) (fun j x zs ah H' hx h'=>?_) (fun zs ah H' h' D hD=>?_)⟩
    ·obtain⟨rfl,rfl,o,rfl⟩:=h'
     rw[List.getElem?_map]at hx
     cases lP:ts[j]? with
     |none=>rw[lP]at hx;cases hx
     |some tj=>
      rw[lP]at hx
      cases hx
      have hj:j<aa.length:=by rw[<-wf.len,<-q4];exact (List.getElem?_eq_some_iff.mp lP).1
      obtain⟨row,g,r1,r2,r3,r4,r5⟩:=wf.step (show (0:Int)<=(j:Nat) by lia) s!"" (show (0:Int)<=(i:Nat) by lia) s!""
      rw[Int.toNat_natCast]at r1 r2
      have hrow:=q5 j tj row lP r1
      have hval:(rowB aa.length (bW aa ae) w)[g.toNat]?=some (bW aa ae ((i:Int)::w) j):=by
       rw[De s!"",QX w (i:Int) j (by rw[r3];exact r4),r3]
      have kF:(rowB aa.length (bW aa ae) ((i:Int)::w))[j]?=some (bW aa ae ((i:Int)::w) j):=De hj
      walk_at "rd"
      refine⟨_,SqL.of jO,_,Gb jG,_,s5.seqT hrow,_,CF s!"" (by rw[Int.toNat_natCast];exact r2),?_⟩
      have aR:((rowB aa.length (bW aa ae) ((i:Int)::w)).take j).map V.int++[V.int (bW aa ae ((i:Int)::w) j)]=((rowB aa.length (bW aa ae) ((i:Int)::w)).take (j+1)).map V.int:=by rw[List.take_add_one,kF,List.map_append];rfl
      rcases htbv with ⟨bj,_,_⟩|⟨jQ,kK⟩
      ·exact .inl ⟨tb,rfl,_,g,rfl,SqL.of bj,_,CF r4 hval,aR,_,rfl⟩
      ·exact .inr ⟨tb,rfl,_,g,rfl,by rw[jQ];exact s5.seqT q2,_,CF r4 (by have hv:=hval;rw[kK]at hv;exact hv),aR,_,rfl⟩
    ·obtain⟨rfl,rfl,o,rfl⟩:=h'
     rw[List.length_map,q4,wf.len,List.take_of_length_le (by rw[Fl];exact Nat.le_refl _)]
     have aE:a8.2.zip (rowB aa.length (bW aa ae) ((i:Int)::w)) ≠ []:=fun z=>by
      have:=congrArg List.length z
      rw[List.length_zip,eG.wc.len,Fl,Nat.min_self,List.length_nil]at this
      lia
     have dW:(zipW a8.2 (rowB aa.length (bW aa ae) ((i:Int)::w))).length=aa.length:=by
      unfold zipW
      rw[List.length_map,List.length_zip,eG.wc.len,Fl];lia
     refine⟨D,rfl,_,SqL.of (Same.new hD _ _ lN),_,SqL.of Ab,by rw[List.length_map,List.length_map,eG.wc.len,Fl],fun l rs H6 s6 nL cB nM=>⟨l,rfl,.inr ⟨rs,zipW a8.2 (rowB aa.length (bW aa ae) ((i:Int)::w)),SqL.of Ab,⟨?_,fun j v hj=>?_⟩,by lia,fun pf H7 s7 iR ft=>?_⟩⟩⟩
     ·rw[cB,dW,List.length_map,eG.wc.len]
     ·unfold zipW at hj
      rw[List.getElem?_map]at hj
      cases hq:(a8.2.zip (rowB aa.length (bW aa ae) ((i:Int)::w)))[j]? with
      |none=>rw[hq]at hj;cases hj
      |some p=>
       rw[hq]at hj
       cases hj
       obtain⟨u1,u2⟩:=List.getElem?_zip_eq_some.mp (show (a8.2.zip (rowB aa.length (bW aa ae) ((i:Int)::w)))[j]?=some (p.1,p.2) from hq)
       obtain⟨t,t1,t2⟩:=nM j (V.int p.1) (V.int p.2) (by rw[List.getElem?_map,u1];rfl) (by rw[List.getElem?_map,u2];rfl)
       exact⟨t,t1,Same.new nL _ _ t2⟩
     have sD:Same H' (upd H' D (.lst ((rowB aa.length (bW aa ae) ((i:Int)::w)).map V.int))):=Same.new hD
     have eI:upd H' D (.lst ((rowB aa.length (bW aa ae) ((i:Int)::w)).map V.int)) D=some (.lst ((rowB aa.length (bW aa ae) ((i:Int)::w)).map V.int)):=Ab
     have s67:=(Same.new nL (o:=.lst rs)).trans s7
     have gU:=sD.trans (s6.trans s67)
     have lQ:=(s6.trans s67) _ _ eI
     have lR:=gU _ _ iO
     have hb7:=gU _ _ jO
     have hc7:=gU _ _ lN
     have hDw:D≠pw:=fun z=>by rw[z,iO]at hD;cases hD
     have hDb:D≠pb:=fun z=>by rw[z,jO]at hD;cases hD
     have gr:H' pf=none:=sD.none (s6.none ((Same.new nL (o:=.lst rs)).none iR))
     have hpfw:pf≠pw:=fun z=>by rw[z,iO]at gr;cases gr
     have hpfb:pf≠pb:=fun z=>by rw[z,jO]at gr;cases gr
     have bS:=eG.step bR d8 hi
     have dB:Ib aa.length (bW aa ae) w (i+1) st=Mh aa.length (bW aa ae) w a8 i:=by rw[KU,<-iN]
     rw[Xw]at ft
     refine⟨pf,rfl,_,SqL.of ft,(ncl (a8.2.zip (rowB aa.length (bW aa ae) ((i:Int)::w))):Int)-1,NF aE,(fun x hx=>by have:=Ss hx;lia),_,SqL.of hc7,(ncl a8.2:Int)-1,eG.wc.top,(fun x hx=>by have:=eG.wc.rng x hx;lia),?_⟩
     refine ite2 (fun jC=>?_) (fun aN=>?_)
     ·have hgt':ncl a8.2<ncl (a8.2.zip (rowB aa.length (bW aa ae) ((i:Int)::w))):=by lia
      have nN:Mh aa.length (bW aa ae) w a8 i=(a8.1++[(i:Int)::w],num (a8.2.zip (rowB aa.length (bW aa ae) ((i:Int)::w)))):=by unfold Mh;rw[if_pos hgt']
      obtain⟨tw,htw1,htw2⟩:=fq.2 k0 w d8
      have hwlen:=WC.short eG.wc k0 w d8
      refine⟨.inl ⟨rfl,_,SqL.of lR⟩,by lia,fun p1 a6=>⟨_,SqL.of (Same.new a6 _ _ lR),_,Gb htw1,Hf.ofS Ab (Same.new a6 _ _ (gU _ _ htw2)) (by simp;lia) fun q H8 s8 hq=>?_⟩⟩
      have kL:=(Same.new a6 (o:=.tup [V.int i])).trans s8
      have hw8:=kL _ _ lR
      have hb8:=kL _ _ hb7
      have bN:=fq.1
      have hbl:=jP.1
      refine⟨_,hw8,by lia,?_⟩
      have nO:upd H8 pw (.lst (kI++[V.ref q])) pb=some (.lst kJ):=by rw[Ah hpbw];exact hb8
      have nQ:=gU.trans kL
      rw[nN]at bS dB
      refine⟨.inl ⟨rfl,_,SqL.of nO⟩,_,nO,by lia,(kH _ _ _).mpr ⟨_,kI++[V.ref q],kJ++[V.ref D],pf,_,_,_,dB.symm,((s5.trans nQ).over hpwH).over hpbH,by rw[Ah (Ne.symm hpbw),Ab],(((fq.mono (TK.of nQ)).snoc (w:=(i:Int)::w) hq).mono (TK.lst hw8)).mono (TK.lst nO),Ab,?_,by rw[Ah hpfb,Ah hpfw];exact kL _ _ ft,hpfw,hpfb,bS.1,bS.2,rfl⟩⟩
      exact BehL.snoc (jP.keep (fun t o t1 t2 e=>by rw[Ah t2,Ah t1];exact nQ _ _ e)) (by rw[Ah hDb,Ah hDw];exact kL _ _ lQ) hDw hDb
     ·have iH:¬ ncl a8.2<ncl (a8.2.zip (rowB aa.length (bW aa ae) ((i:Int)::w))):=by lia
      have nN:Mh aa.length (bW aa ae) w a8 i=a8:=by unfold Mh;rw[if_neg iH]
      rw[nN]at bS dB
      exact (kH _ _ _).mpr ⟨a8,kI,kJ,nK,_,_,_,dB.symm,s5.trans gU,lR,fq.mono (TK.of gU),hb7,jP.keep (fun t o _ _ e=>gU _ _ e),hc7,iP,iQ,bS.1,bS.2,rfl⟩
   ·obtain⟨a8,kI,kJ,nK,p5,p6,p7,iN,s5,iO,fq,jO,jP,lN,iP,iQ,eG,d8,rfl⟩:=(kH _ _ _).mp h5
    walk_at "rd"
    have e41:41-k0=(41-(k0+1))+1:=by lia
    refine (au _ _ _).mpr ⟨a8,k0+1,kI,kJ,nK,_,_,_,rfl,s5,iO,fq,jO,jP,lN,iP,iQ,eG.next,?_,rfl⟩
    rw[iN,<-ho4,e41,Px jK]
  ·have e:st=wcOf aa.length L (bW aa ae):=by rw[<-ho4,MV s!""]
   have aR:=nJ.fin s!""
   rw[e]at dA nI aR
   exact⟨by lia,fun p hp=>k p pw pc4 xs _ (s4.newT hp) Ab hpwH (Same.new hp _ _ fT) (dA.mono (TK.new hp)) (Same.new hp _ _ nI) aR⟩
noncomputable def Wt (K:PySem.W.Frag):Sp:=fun vs H Q _=>∃(h:Addr) (L:Nat) (aa:List Int) (ae:List (List Int)),vs=[.ref h]/\Bz K H h L aa ae/\Wf L aa ae/\∀pw xs H',Same H H'->H pw=none->H' pw=some (.lst xs)->AF K H' xs (wcOf aa.length L (bW aa ae)).1->Fin17 aa.length L (bW aa ae) (wcOf aa.length L (bW aa ae))->Q (.ref pw) H'
theorem TY   (F:Fun K "tellers" "tellers" DG f fd)(T:Txt mg)
  (Z:Exs K mg av aq)
   (Bb:FnOk P w K mg base CX0 2 AE Bl ["house"] (An_ K)) (AQ:Fun K "words_and_classes" "words_and_classes" AO AE Bl) (Bc:Bj K Bl ["house"] []) (Bd:mg "words_and_classes"=some (.ref AE))
  : FnOk P w K mg base CX0 3 f fd ["house"] (Wt K):=by
 refine F.ok TR (fun vs H Q E h=>?_) (fun aB A outer s H vs Q E hr h=>?_)
 ·obtain⟨h,L,aa,ae,rfl,_⟩:=h;rfl
 ·obtain⟨h,L,aa,ae,rfl,hh,wf,k⟩:=h
  refine⟨_,(Ag (A0 (Ai (ixTD AI) (Am Bb (hr.mono (by decide)) rfl Bd AQ.kp Bc .nil Be (Aa (pvD 0) Ad)) Ae))),?_⟩
  walk_at "rd"
  exact⟨h,L,aa,ae,rfl,hh,wf,fun t pw pc xs H' s' ht iS br hW kM aR=>⟨t,rfl,_,SqT.of ht,_,rfl,k pw xs H' s' iS br hW aR⟩⟩
noncomputable def Zd (K:PySem.W.Frag):Sp:=fun vs H Q _=>∃(h:Addr) (L:Nat) (aa:List Int) (ae:List (List Int)),vs=[.ref h]/\Bz K H h L aa ae/\Wf L aa ae/\∀pc H',Same H H'->H' pc=some (.lst ((wcOf aa.length L (bW aa ae)).2.map V.int))->Fin17 aa.length L (bW aa ae) (wcOf aa.length L (bW aa ae))->Q (.ref pc) H'
theorem N3   (F:Fun K "classes_of" "classes_of" Ct f fd)(T:Txt mg)
  (Z:Exs K mg av aq)
   (Bb:FnOk P w K mg base CX0 2 AE Bl ["house"] (An_ K)) (AQ:Fun K "words_and_classes" "words_and_classes" AO AE Bl) (Bc:Bj K Bl ["house"] []) (Bd:mg "words_and_classes"=some (.ref AE))
  : FnOk P w K mg base CX0 3 f fd ["house"] (Zd K):=by
 refine F.ok NW (fun vs H Q E h=>?_) (fun aB A outer s H vs Q E hr h=>?_)
 ·obtain⟨h,L,aa,ae,rfl,_⟩:=h;rfl
 ·obtain⟨h,L,aa,ae,rfl,hh,wf,k⟩:=h
  refine⟨_,(Ag (A0 (Ai (ixTD AI) (Am Bb (hr.mono (by decide)) rfl Bd AQ.kp Bc .nil Be (Aa (pvD 0) Ad)) Ae))),?_⟩
  walk_at "rd"
  exact⟨h,L,aa,ae,rfl,hh,wf,fun t pw pc xs H' s' ht iS br hW kM aR=>⟨t,rfl,_,SqT.of ht,_,rfl,k pc H' s' kM aR⟩⟩
theorem Ld {α:Type}[DecidableEq α]:∀(row ai:List α),∃t,Cr ai row=ai++t
 |[],ai=>⟨[],by simp[Cr]⟩
 |x::row,ai=>by
  obtain⟨t,ht⟩:=Ld row (ins1 ai x)
  show ∃t,Cr (ins1 ai x) row=ai++t
  rw[ht]
  unfold ins1
  split
  ·exact⟨t,rfl⟩
  ·exact⟨x::t,by simp⟩
theorem TZ  [DecidableEq α](a b:List α):∃t,Ay (a++b)=Ay a++t:=by
 unfold Ay Cr
 rw[List.foldl_append]
 exact Ld b _
theorem N4 {α:Type}[DecidableEq α]{row:List α}{i:Nat}{x:α}(h:x∈Ay (row.take i)):(Ay row).idxOf x=(Ay (row.take i)).idxOf x:=by
 obtain⟨t,ht⟩:=TZ (row.take i) (row.drop i)
 rw[List.take_append_drop]at ht
 rw[ht,List.idxOf_append,if_pos h]
noncomputable def F8 (c R:List Int)(n i:Nat):List V:=(List.range n).map fun r:Nat=>if (r:Int)∈R.take i then V.int (hm c R r) else V.non
theorem Iu   : (F8 c R n i).length=n:=by unfold F8;simp
theorem Wu {c R:List Int}{n i:Nat}{r:Int}(hr:R[i]?=some r)(h0:0<=r)(h1:r<(n:Int)):(F8 c R n i).set r.toNat (V.int (hm c R r))=F8 c R n (i+1):=by
 have et:R.take (i+1)=R.take i++[r]:=by rw[List.take_add_one,hr];rfl
 refine List.ext_getElem? fun j=>?_
 by_cases hj:j<n
 ·have e2:(F8 c R n (i+1))[j]?=some (if (j:Int)∈R.take (i+1) then V.int (hm c R j) else V.non):=by
   unfold F8
   rw[List.getElem?_map,List.getElem?_range hj];rfl
  have e1:(F8 c R n i)[j]?=some (if (j:Int)∈R.take i then V.int (hm c R j) else V.non):=by
   unfold F8
   rw[List.getElem?_map,List.getElem?_range hj];rfl
  rw[e2]
  by_cases e:r.toNat=j
  ·have kF:r=(j:Int):=by lia
   rw[<-e,List.getElem?_set_self (by rw[Iu];lia),e,<-kF,if_pos (by rw[et];simp)]
  ·rw[List.getElem?_set_ne e,e1]
   have aE:¬ (j:Int)=r:=fun z=>e s!""
   by_cases bu:(j:Int)∈R.take i
   ·rw[if_pos bu,if_pos (by rw[et];exact List.mem_append_left _ bu)]
   ·rw[if_neg bu,if_neg (by rw[et];intro z;rcases List.mem_append.mp z with z|z;exact bu z;exact aE (List.mem_singleton.mp z))]
 ·rw[List.getElem?_eq_none (by rw[List.length_set,Iu];lia),List.getElem?_eq_none (by rw[Iu];lia)]
noncomputable def SK (K:PySem.W.Frag):Sp:=fun vs H Q _=>∃(h:Addr) (L:Nat) (aa:List Int) (ae:List (List Int)),vs=[.ref h]/\Bz K H h L aa ae/\Wf L aa ae/\∀p H',Same H H'->H p=none->H' p=some (.lst (F8 (wcOf aa.length L (bW aa ae)).2 ((Ax ae).map (·.1)) aa.length ((Ax ae).map (·.1)).length))->Fin17 aa.length L (bW aa ae) (wcOf aa.length L (bW aa ae))->RF L aa.length ae ((Ax ae).map (·.1))->Q (.ref p) H'
theorem Xx   (F:Fun K "homes" "homes" Hv f fd)(T:Txt mg)
  (Z:Exs K mg av aq)
   (E3:FnOk P w K mg base CX0 2 Dj E4 ["house"] (IZ K)) (DI:Fun K "reached" "reached" DF Dj E4) (E5:Bj K E4 ["house"] []) (E6:mg "reached"=some (.ref Dj))
   (Gv:FnOk P w K mg base CX0 3 C3 Iv ["house"] (Zd K)) (DJ:Fun K "classes_of" "classes_of" Ct C3 Iv) (Gw:Bj K Iv ["house"] []) (Gx:mg "classes_of"=some (.ref C3))
  : FnOk P w K mg base CX0 4 f fd ["house"] (SK K):=by
 refine F.ok Ii (fun vs H Q E h=>?_) (fun aB A outer s H vs Q E hr h=>?_)
 ·obtain⟨h,L,aa,ae,rfl,_⟩:=h;rfl
 ·obtain⟨h,L,aa,ae,rfl,hh,wf,k⟩:=h
  have hl:=AA
  have aP:=wf.n40
  obtain⟨mm,wv,q1,q2,q3⟩:=id hh
  refine⟨_,(Ac (Aj (i:=1) Ii.nd (Am Gv (hr.mono (by decide)) rfl Gx DJ.kp Gw .nil Be (Aa (pvD 0) Ad)))
   (Ac (Aj (i:=2) Ii.nd R6)
   (Ac (Aj (i:=3) Ii.nd (As U1 (B9 (Aa AJ_ Ad)) (Av (lenD Ak) (by rfl) T.len PySem.boot_len (Aa (Ai (ixTD AI) (pvD 0) Ae) Ad))))
   (Ac (CH PassesOwn.never rfl (Cf (Am E3 (hr.mono (by decide)) rfl E6 DI.kp E5 .nil Be (Aa (pvD 0) Ad))) (Ar (i:=4) Ii.nd rfl (Or.inl rfl))
   (Ag (UL (Tr (pvD 2) (Ai (ixLD Bw) (pvD 1) (pvD 4)) (Av Pu (by rfl) T.len PySem.boot_len (Aa (pvD 2) Ad)) ⟨by rfl,by rfl,by rfl,by rfl⟩) (UK (pvD 3) (pvD 4) set_list))))
   (Ag (A0 (pvD 3))))))),?_⟩
  walk_at "rd"
  refine⟨h,L,aa,ae,rfl,hh,wf,fun pc H1 s1 kM aR=>?_⟩
  intro pd jR
  have sd:=s1.newT jR (o:=.dK [])
  refine⟨by lia,fun p1 a6=>⟨_,(sd.newT a6).seqT q1,_,rfl,mm,rfl,_,.inr ((sd.newT a6).seqT q2),_,Ab,by lia,by rw[List.length_map];lia,by rw[List.length_map,List.length_singleton,Int.toNat_natCast];lia,fun pt iG=>?_⟩⟩
  rw[List.length_map,Int.toNat_natCast]
  have sT:=(sd.newT a6 (o:=.lst [V.non])).newT iG (o:=.lst (List.replicate aa.length [V.non]).flatten)
  have iT:H pt=none:=(sd.newT a6 (o:=.lst [V.non])).none iG
  have hpdN:H pd=none:=s1.none jR
  have iU:upd (upd (upd H1 pd (.dK [])) p1 (.lst [V.non])) pt (.lst (List.replicate aa.length [V.non]).flatten) pd=some (.dK []):=(Same.new iG) _ _ ((Same.new a6) _ _ Ab)
  have iV:upd (upd (upd H1 pd (.dK [])) p1 (.lst [V.non])) pt (.lst (List.replicate aa.length [V.non]).flatten) pt=some (.lst (List.replicate aa.length [V.non]).flatten):=Ab
  have iW:upd (upd (upd H1 pd (.dK [])) p1 (.lst [V.non])) pt (.lst (List.replicate aa.length [V.non]).flatten) pc=some (.lst ((wcOf aa.length L (bW aa ae)).2.map V.int)):=(Same.new iG) _ _ ((Same.new a6) _ _ ((Same.new jR) _ _ kM))
  generalize upd (upd (upd H1 pd (.dK [])) p1 (.lst [V.non])) pt (.lst (List.replicate aa.length [V.non]).flatten)=HT at sT iU iV iW ⊢
  clear sd a6 iG jR s1 kM
  refine⟨h,L,aa,ae,rfl,hh.mono sT,wf,fun pR H2 s2 cb iX rf=>⟨pR,rfl,⟨_,SqL.of iX⟩,?_⟩⟩
  generalize hR:(Ax ae).map (·.1)=R at iX rf k
  generalize ju:wcOf aa.length L (bW aa ae)=st at iW aR k
  have s02:=sT.trans s2
  have gu:=s2 _ _ iU
  have iY:=s2 _ _ iV
  have fu:=s2 _ _ iW
  have nR:pd≠pt:=fun z=>by rw[z,iY]at gu;cases gu
  have hRt:pR≠pt:=fun z=>by rw[z,iV]at cb;cases cb
  have hRd:pR≠pd:=fun z=>by rw[z,iU]at cb;cases cb
  have bo:pc≠pd:=fun z=>by rw[z,gu]at fu;cases fu
  have hct:pc≠pt:=fun z=>by
   rw[z,iY]at fu
   have cI:=aR.wc.len
   have e:=Option.some.inj fu
   injection e with e
   have bR:=wf.n1
   have e0:=congrArg (fun l:List V=>l[0]?) e
   obtain⟨n,hn⟩:∃n,aa.length=n+1:=⟨aa.length-1,by lia⟩
   cases hc:st.2 with
   |nil=>rw[hc]at cI;simp at cI;lia
   |cons a r=>rw[hc,hn]at e0;simp[List.replicate_succ]at e0
  have bM:∀x y:Int,(Sum.inl x:Key)=Sum.inl y->x=y:=fun x y z=>Sum.inl.inj z
  obtain⟨Pv,au⟩:∃Pv:Nat->St->Hp->Prop,∀i ah H',Pv i ah H'↔(∃o:Option V,Same H H'/\H' pR=some (.lst (R.map V.int))/\H' pc=some (.lst (st.2.map V.int))/\H' pd=some (.dK (numD (fun x:Int=>(Sum.inl x:Key)) (Ay ((R.map (cf st.2)).take i))))/\H' pt=some (.lst (F8 st.2 R aa.length i))/\ah=[some (.ref h),some (.ref pc),some (.ref pd),some (.ref pt),o]):=⟨_,fun _ _ _=>Iff.rfl⟩
  refine forL (xs:=R.map V.int) Pv ((au _ _ _).mpr ⟨none,s02,iX,fu,gu,?_,rfl⟩) (fun i ah H' _ h'=>by obtain⟨_,_,h2,_⟩:=(au _ _ _).mp h';exact SqL.of h2) (fun i x ah H' hx h'=>?_) (fun ah H' h'=>?_)
  ·rw[iY]
   congr 2
   unfold F8
   refine List.ext_getElem? fun j=>?_
   by_cases hj:j<aa.length
   ·rw[List.getElem?_map,List.getElem?_range hj];simp[hj]
   ·rw[List.getElem?_eq_none (by simp;lia),List.getElem?_eq_none (by simp;lia)]
  ·obtain⟨o,s',cY,gv,fz,fA,rfl⟩:=(au _ _ _).mp h'
   obtain⟨r,hr,rfl⟩:=DD hx
   have fk:=List.mem_of_getElem? hr
   have bI:=rf.rng r fk
   have kB:(R.map (cf st.2))[i]?=some (cf st.2 r):=by rw[List.getElem?_map,hr];rfl
   have cI:=aR.wc.len
   have jM:=N2 (R.map (cf st.2)) i
   rw[List.length_map]at jM
   have nS:=rf.len
   have nd:=BA ((R.map (cf st.2)).take i)
   have et:=Fs kB
   have hcat:(st.2)[r.toNat]?=some (cf st.2 r):=by unfold cf;rw[List.getD_eq_getElem?_getD];simp[show r.toNat<st.2.length by lia]
   walk_at "rd"
   have gP:ixN (F8 st.2 R aa.length i).length r=some r.toNat:=by rw[Iu];exact BF_ bI.1 s!""
   have gw:=Wu (c:=st.2) (n:=aa.length) hr bI.1 bI.2
   refine⟨.inl ⟨_,.inl fz⟩,_,SqL.of gv,_,CF bI.1 hcat,.inl ⟨_,fz,_,rfl,_,fz,by rw[Fq];lia,fun v hv=>?_,fun hn=>?_⟩⟩
   ·by_cases bu:cf st.2 r∈Ay ((R.map (cf st.2)).take i)
    ·have e:=E2 (k:=fun x:Int=>(Sum.inl x:Key)) bM nd bu
     have e2:=hv.symm.trans e
     cases e2
     have eh:hm st.2 R r=(((Ay ((R.map (cf st.2)).take i)).idxOf (cf st.2 r):Nat):Int):=by unfold hm;rw[N4 bu]
     refine⟨_,fA,_,gP,(au _ _ _).mpr ⟨_,s'.over iT,by rw[Ah hRt];exact cY,by rw[Ah hct];exact gv,by rw[Ah nR,et,ins1,if_pos bu];exact fz,by rw[Ab,<-gw,eh],rfl⟩⟩
    ·have e:=Ir (k:=fun x:Int=>(Sum.inl x:Key)) bM bu
     have e2:=hv.symm.trans e
     cases e2
   ·have bu:cf st.2 r∉Ay ((R.map (cf st.2)).take i):=fun z=>by
     have e:=E2 (k:=fun x:Int=>(Sum.inl x:Key)) bM nd z
     have e2:=hn.symm.trans e
     cases e2
    have iL:=N1 (k:=fun x:Int=>(Sum.inl x:Key)) bM bu
    have eh:hm st.2 R r=((numD (fun x:Int=>(Sum.inl x:Key)) (Ay ((R.map (cf st.2)).take i))).length:Int):=by
     unfold hm
     rw[Fq,N4 (i:=i+1) (by rw[et,ins1,if_neg bu];simp),et,ins1,if_neg bu,QW bu]
    have hpt2':upd H' pd (.dK (putK (numD (fun x:Int=>(Sum.inl x:Key)) (Ay ((R.map (cf st.2)).take i))) (Sum.inl (cf st.2 r)) (V.int ((numD (fun x:Int=>(Sum.inl x:Key)) (Ay ((R.map (cf st.2)).take i))).length:Int)))) pt=some (.lst (F8 st.2 R aa.length i)):=by rw[Ah (Ne.symm nR)];exact fA
    refine⟨_,hpt2',_,gP,(au _ _ _).mpr ⟨_,(s'.over hpdN).over iT,by rw[Ah hRt,Ah hRd];exact cY,by rw[Ah hct,Ah bo];exact gv,?_,by rw[Ab,<-gw,eh],rfl⟩⟩
    rw[Ah nR,Ab,et,ins1,if_neg bu,Fq]
    exact congrArg (fun z=>some (HO.dK z)) iL
  ·obtain⟨o,s',cY,gv,fz,fA,rfl⟩:=(au _ _ _).mp h'
   rw[List.length_map]at fA
   walk_at "rd"
   exact k pt _ s' iT fA aR rf
theorem Cv_    (h:R[i]?=some r):(hm c R r=((FR c (R.take i)).length:Int))↔cf c r∉(FR c (R.take i)).map (cf c):=by
 have kB:(R.map (cf c))[i]?=some (cf c r):=by rw[List.getElem?_map,h];rfl
 have ak:(FR c (R.take i)).length=(Ay ((R.map (cf c)).take i)).length:=by
  have:=congrArg List.length (KW c (R.take i))
  rw[List.length_map,List.map_take]at this
  exact this
 rw[KW,List.map_take,ak]
 have et:=Fs kB
 unfold hm
 constructor
 ·intro e bu
  rw[N4 bu]at e
  have:=List.idxOf_lt_length_of_mem bu
  lia
 ·intro bu
  rw[N4 (i:=i+1) (by rw[et,ins1,if_neg bu];simp),et,ins1,if_neg bu,QW bu]
theorem SM {c R:List Int}{n:Nat}{r:Int}(hr:r∈R)(h0:0<=r)(h1:r<(n:Int)):(F8 c R n R.length)[r.toNat]?=some (V.int (hm c R r)):=by
 unfold F8
 rw[List.getElem?_map,List.getElem?_range s!"",List.take_length]
 have e:((r.toNat:Nat):Int)=r:=by lia
 show some (if ((r.toNat:Nat):Int)∈R then V.int (hm c R ((r.toNat:Nat):Int)) else V.non)=_
 rw[e,if_pos hr]
theorem AF.toRows {K:PySem.W.Frag}{H:Hp}{w:Addr}{zs:List V}{ws:List (List Int)}(h:AF K H zs ws)(hw:SqT K H w zs):Rows K H w ws:=by
 refine⟨zs.map (fun v=>match v with | .ref t=>t|_=>0),?_,by rw[List.length_map];exact h.1,fun i t r hi hr=>?_⟩
 ·have e:(zs.map (fun v=>match v with | .ref t=>t|_=>0)).map V.ref=zs:=by
   rw[List.map_map]
   refine List.ext_getElem? fun i=>?_
   rw[List.getElem?_map]
   by_cases hi:i<ws.length
   ·obtain⟨t,a,_⟩:=h.2 i ws[i] (by simp[hi])
    rw[a];rfl
   ·rw[List.getElem?_eq_none (by rw[h.1];lia)];rfl
  rw[e];exact hw
 ·obtain⟨t',a,b⟩:=h.2 i r hr
  rw[List.getElem?_map,a]at hi
  cases hi
  exact SqT.of b
noncomputable def N5 (K:PySem.W.Frag):Sp:=fun vs H Q _=>∃(h:Addr) (L:Nat) (aa:List Int) (ae:List (List Int)),vs=[.ref h]/\Bz K H h L aa ae/\Wf L aa ae/\∀t H',Same H H'->Bz K H' t L (sM L aa ae) (sW L aa ae)->Q (.ref t) H'
theorem Xy   (F:Fun K "least" "least" Gm f fd)(T:Txt mg)
  (Z:Exs K mg av aq)
   (E3:FnOk P w K mg base CX0 2 Dj E4 ["house"] (IZ K)) (DI:Fun K "reached" "reached" DF Dj E4) (E5:Bj K E4 ["house"] []) (E6:mg "reached"=some (.ref Dj))
   (Ri:FnOk P w K mg base CX0 4 I0 SN ["house"] (SK K)) (Le:Fun K "homes" "homes" Hv I0 SN) (Rj:Bj K SN ["house"] []) (Rk:mg "homes"=some (.ref I0))
  : FnOk P w K mg base CX0 5 f fd ["house"] (N5 K):=by
 refine F.ok Ij (fun vs H Q E h=>?_) (fun aB A outer s H vs Q E hr h=>?_)
 ·obtain⟨h,L,aa,ae,rfl,_⟩:=h;rfl
 ·obtain⟨h,L,aa,ae,rfl,hh,wf,k⟩:=h
  have hl:=AA
  have aP:=wf.n40
  have cj:=wf.l6
  obtain⟨mm,wv,q1,q2,q3⟩:=id hh
  refine⟨_,(Ac (CG (i:=1) Ij.nd rfl (Or.inr rfl) (Am Ri (hr.mono (by decide)) rfl Rk Le.kp Rj .nil Be (Aa (pvD 0) Ad)))
   (Ac (Aj (i:=2) Ij.nd (B9 Ad))
   (Ac (Aj (i:=3) Ij.nd (B9 Ad))
   (Ac (CH PassesOwn.never rfl (Cf (Am E3 (hr.mono (by decide)) rfl E6 DI.kp E5 .nil Be (Aa (pvD 0) Ad))) (Ar (i:=4) Ij.nd rfl (Or.inl rfl))
   (Ag (DE (ptT (AB (opE DW) (Ai (ixLD Bw) (pvD 1) (pvD 4)) (Av (lenD Ak) (by rfl) T.len PySem.boot_len (Aa (pvD 2) Ad)) (AY _)))
   (Ac (Bv (Fg PySem.F.plainAttrs_list PySem.F.slot_list_append PySem.F.type_list_append Bh (pvD 2) (Aa (Ai (ixTD AI) (Ai (ixTD AI) (pvD 0) Ae) (pvD 4)) Ad)))
   (Ag (Bv (Fg PySem.F.plainAttrs_list PySem.F.slot_list_append PySem.F.type_list_append Bh (pvD 3) (Aa (AZ AN rfl T.tuple PyProof.Rows.boot_tuple (Aa (Cg rfl (Cp rfl) (cp:=PY) ⟨⟨rfl,rfl⟩,True.intro⟩ (HS (Ai (ixTD AI) (Ai (ixTD AI) (pvD 0) Ae) (pvD 4))) (fun _ _ _ _=>(Ar (i:=0) PZ rfl (Or.inl rfl))) (fun _ _ _ _=>CD) (fun _ _ _ _=>(Ai (ixLD (CM (K:=K) rfl)) (pvD 1) (pvD 0)))) Ad)) Ad)))))
   Bg)))
   (Ag (A0 (Dx (Aa (Ai (ixTD AI) (pvD 0) Ae) (Aa (AZ AN rfl T.tuple PyProof.Rows.boot_tuple (Aa (pvD 2) Ad)) (Aa (AZ AN rfl T.tuple PyProof.Rows.boot_tuple (Aa (pvD 3) Ad)) Ad)))))))))),?_⟩
  walk_at "rd"
  refine⟨h,L,aa,ae,rfl,hh,wf,fun ph H1 s1 hphN jS aR rf=>?_⟩
  generalize hR:(Ax ae).map (·.1)=R at jS rf
  generalize ju:wcOf aa.length L (bW aa ae)=st at jS aR
  refine⟨Nat.zero_le _,fun pm cm=>⟨Nat.zero_le _,fun pv dy=>?_⟩⟩
  have hpmN:H pm=none:=s1.none cm
  have s2:=(s1.newT cm (o:=.lst [])).newT dy (o:=.lst [])
  have hpvN:H pv=none:=(s1.newT cm (o:=.lst [])).none dy
  have d9:upd (upd H1 pm (.lst [])) pv (.lst []) pm=some (.lst []):=(Same.new dy) _ _ Ab
  have iZ:upd (upd H1 pm (.lst [])) pv (.lst []) pv=some (.lst []):=Ab
  have hph2:upd (upd H1 pm (.lst [])) pv (.lst []) ph=some (.lst (F8 st.2 R aa.length R.length)):=(Same.new dy) _ _ ((Same.new cm) _ _ jS)
  have hphm:ph≠pm:=fun z=>by rw[z,cm]at jS;cases jS
  have lS:pm≠pv:=fun z=>by rw[<-z,Ab]at dy;cases dy
  have hphv:ph≠pv:=fun z=>by rw[<-z,(Same.new cm) _ _ jS]at dy;cases dy
  generalize upd (upd H1 pm (.lst [])) pv (.lst [])=H2 at s2 d9 iZ hph2 ⊢
  refine⟨h,L,aa,ae,rfl,hh.mono s2,wf,fun pR H3 s3 cb iX rf2=>?_⟩
  rw[hR]at iX
  have nH:=s2.trans s3
  have hRm:pR≠pm:=fun z=>by rw[z,d9]at cb;cases cb
  have hRv:pR≠pv:=fun z=>by rw[z,iZ]at cb;cases cb
  have gx:=s3 _ _ d9
  have hpv3:=s3 _ _ iZ
  have hph3:=s3 _ _ hph2
  refine⟨pR,rfl,⟨_,SqL.of iX⟩,?_⟩
  obtain⟨Pv,au⟩:∃Pv:Nat->St->Hp->Prop,∀i ah H',Pv i ah H'↔(∃(zs:List V) (o:Option V),Same H H'/\H' pR=some (.lst (R.map V.int))/\H' ph=some (.lst (F8 st.2 R aa.length R.length))/\H' pm=some (.lst (((FR st.2 (R.take i)).map (mkR aa)).map V.int))/\H' pv=some (.lst zs)/\AF K H' zs ((FR st.2 (R.take i)).map (hrow st.2 R ae))/\ah=[some (.ref h),some (.ref ph),some (.ref pm),some (.ref pv),o]):=⟨_,fun _ _ _=>Iff.rfl⟩
  refine forL (xs:=R.map V.int) Pv ((au _ _ _).mpr ⟨[],none,nH,iX,hph3,gx,hpv3,AF.nil,rfl⟩) (fun i ah H' _ h'=>by obtain⟨_,_,_,h2,_⟩:=(au _ _ _).mp h';exact SqL.of h2) (fun i x ah H' hx h'=>?_) (fun ah H' h'=>?_)
  ·obtain⟨zs,o,s',cY,gy,cC,gz,jT,rfl⟩:=(au _ _ _).mp h'
   obtain⟨r,hr,rfl⟩:=DD hx
   have fk:=List.mem_of_getElem? hr
   have bI:=rf.rng r fk
   have jM:=Sw st.2 (R.take i)
   have nS:=rf.len
   rw[List.length_take]at jM
   have kh:=SM (c:=st.2) (n:=aa.length) fk bI.1 bI.2
   have cy:=Cv_ (c:=st.2) hr
   have eFR:=VZ (c:=st.2) hr
   obtain⟨row,fB,hrow2,hrow3⟩:=wf.row bI.1 bI.2
   have bG:=wf.rows row hrow2
   have hV:∀g∈row,g∈R:=fun g hg=>by
    obtain⟨x,hx⟩:=List.mem_iff_getElem?.mp hg
    have bN:=(List.getElem?_eq_some_iff.mp hx).1
    have:=rf.cls r fk x s!""
    rwa [BL fB (by rw[Int.toNat_natCast];exact hx)]at this
   have kK:aa[r.toNat]?=some (mkR aa r):=by unfold mkR;rw[List.getD_eq_getElem?_getD];simp[show r.toNat<aa.length by lia]
   have hhr:hrow st.2 R ae r=row.map (hm st.2 R):=by unfold hrow;rw[List.getD_eq_getElem?_getD,fB];rfl
   obtain⟨xs1,t1,z1,z2,z3⟩:=q3.atZ bI.1 fB
   walk_at "rd"
   refine⟨_,SqL.of gy,_,Ed bI.1 kh,_,.inl (SqL.of cC),?_⟩
   rw[List.length_map,List.length_map]
   refine⟨rfl,ite2 (fun he=>?_) (fun he=>?_)⟩
   ·have hnot:=cy.mp (V.int.inj he)
    have fC:FR st.2 (R.take (i+1))=FR st.2 (R.take i)++[r]:=by rw[eFR,Cq,if_neg hnot]
    refine⟨.inl ⟨rfl,_,SqL.of cC⟩,_,s'.seqT q1,_,rfl,mm,rfl,_,s'.seqT q2,_,CF bI.1 kK,_,cC,by rw[List.length_map,List.length_map];lia,?_⟩
    have sM:=s'.over hpmN (o:=.lst (((FR st.2 (R.take i)).map (mkR aa)).map V.int++[V.int (mkR aa r)]))
    have i0:upd H' pm (.lst (((FR st.2 (R.take i)).map (mkR aa)).map V.int++[V.int (mkR aa r)])) pv=some (.lst zs):=by rw[Ah (Ne.symm lS)];exact gz
    have i3:upd H' pm (.lst (((FR st.2 (R.take i)).map (mkR aa)).map V.int++[V.int (mkR aa r)])) ph=some (.lst (F8 st.2 R aa.length R.length)):=by rw[Ah hphm];exact gy
    have hpRM:upd H' pm (.lst (((FR st.2 (R.take i)).map (mkR aa)).map V.int++[V.int (mkR aa r)])) pR=some (.lst (R.map V.int)):=by rw[Ah hRm];exact cY
    have hpmM:upd H' pm (.lst (((FR st.2 (R.take i)).map (mkR aa)).map V.int++[V.int (mkR aa r)])) pm=some (.lst (((FR st.2 (R.take i)).map (mkR aa)).map V.int++[V.int (mkR aa r)])):=Ab
    have hZM:=jT.mono (TK.lst cC (o:=.lst (((FR st.2 (R.take i)).map (mkR aa)).map V.int++[V.int (mkR aa r)])))
    generalize upd H' pm (.lst (((FR st.2 (R.take i)).map (mkR aa)).map V.int++[V.int (mkR aa r)]))=HM at sM i0 i3 hpRM hpmM hZM ⊢
    obtain⟨f,hf⟩:∃f:V->V,∀n:Int,f (V.int n)=.int (hm st.2 R n):=⟨fun x=>match x with | .int n=>.int (hm st.2 R n)|_=>.non,fun _=>rfl⟩
    refine⟨.inl ⟨rfl,_,SqL.of i0⟩,_,sM.seqT q1,_,rfl,wv,rfl,_,sM.seqT z1,_,z2,t1,rfl,⟨_,sM.seqT z3⟩,GO (ah:=[some (.ref ph)]) f rfl (sM.seqT z3) (by rw[List.length_map];lia) (fun x hx R' gV=>?_) (fun D hD=>?_)⟩
    ·obtain⟨g,hg,rfl⟩:=EA hx
     rw[hf]at gV
     have nT:=bG.2 g hg
     walk_at "rd"
     exact⟨_,SqL.of i3,_,Ed nT.1 (SM (hV g hg) nT.1 nT.2),gV⟩
    ·have em:(row.map V.int).map f=(hrow st.2 R ae r).map V.int:=by
      rw[hhr,List.map_map,List.map_map]
      exact List.map_congr_left fun n _=>hf n
     rw[em]
     refine⟨D,rfl,_,.inl ⟨SqL.of Ab,fun tl htl=>?_⟩⟩
     have sX:=(Same.new hD (o:=.lst ((hrow st.2 R ae r).map V.int))).newT htl (o:=.tup ((hrow st.2 R ae r).map V.int))
     have hpvX:=sX _ _ i0
     have dW:zs.length<=1000:=by rw[jT.1,List.length_map];lia
     refine⟨_,hpvX,by lia,(au _ _ _).mpr ⟨zs++[V.ref tl],_,(sM.trans sX).over hpvN,by rw[Ah hRv];exact sX _ _ hpRM,by rw[Ah hphv];exact sX _ _ i3,?_,Ab,?_,rfl⟩⟩
     ·rw[Ah lS,sX _ _ hpmM,fC,List.map_append,List.map_append];rfl
     ·rw[fC,List.map_append]
      exact ((hZM.mono (TK.of sX)).snoc (w:=hrow st.2 R ae r) Ab).mono (TK.lst hpvX)
   ·have bC:cf st.2 r∈(FR st.2 (R.take i)).map (cf st.2):=Decidable.byContradiction fun z=>he (by rw[cy.mpr z])
    have fC:FR st.2 (R.take (i+1))=FR st.2 (R.take i):=by rw[eFR,Cq,if_pos bC]
    exact (au _ _ _).mpr ⟨zs,_,s',cY,gy,by rw[fC];exact cC,gz,by rw[fC];exact jT,rfl⟩
  ·obtain⟨zs,o,s',cY,gy,cC,gz,jT,rfl⟩:=(au _ _ _).mp h'
   rw[List.length_map,List.take_length]at cC jT
   walk_at "rd"
   refine⟨_,s'.seqT q1,_,rfl,_,.inl ⟨SqL.of cC,fun tm jQ=>⟨_,.inl ⟨SqL.of ((Same.new jQ) _ _ gz),fun tw kN=>⟨by lia,fun t ht=>?_⟩⟩⟩⟩⟩
   have sE:=((Same.new jQ (o:=.tup (((FR st.2 R).map (mkR aa)).map V.int))).newT kN (o:=.tup zs)).newT ht (o:=.tup [V.int L,V.ref tm,V.ref tw])
   subst hR ju
   exact k t _ (s'.trans sE) ⟨tm,tw,SqT.of Ab,SqT.of ((Same.new ht) _ _ ((Same.new kN) _ _ Ab)),AF.toRows (jT.mono (TK.of sE)) (SqT.of ((Same.new ht) _ _ Ab))⟩
noncomputable abbrev LamH (K:PySem.W.Frag)(H:Hp):Prop:=LamT (tabP K "in_order") Ik (Str.ofString "in_order" ++ ".<locals>.") H
theorem Lf {K:PySem.W.Frag}{H:Hp}:∀{us:List (List Int)} {xs:List V},AF K H xs us->∃os:List aA.Wd,xs=aA.wv os/\os.map (·.2)=us/\∀w∈os,H w.1=some (.tup (w.2.map V.int))
 |[],xs,h=>⟨[],List.length_eq_zero_iff.mp h.1,rfl,fun w hw=>by cases hw⟩
 |u::us,xs,h=>by
  obtain⟨t,h1,h2⟩:=h.2 0 u rfl
  match xs,h with
  |[],h=>exact absurd h.1 (by simp)
  |x::xs,h=>
   have e:x=V.ref t:=by simpa using h1
   obtain⟨os,e1,e2,e3⟩:=Lf (K:=K) (H:=H) (us:=us) (xs:=xs) ⟨by simpa using h.1,fun i w hw=>h.2 (i+1) w (by simpa using hw)⟩
   refine⟨(t,u)::os,by rw[e,e1];rfl,by simp[e2],fun w hw=>?_⟩
   rcases List.mem_cons.mp hw with rfl|hw
   ·exact h2
   ·exact e3 w hw
noncomputable def WsT (H:Hp)(os:List aA.Wd):Prop:=∀w∈os,H w.1=some (.tup (w.2.map V.int))
noncomputable def Ze (K:PySem.W.Frag):Sp:=fun vs H Q _=>∃(a:Addr) (xs:List V) (ws:List (List Int)),vs=[.ref a]/\SqL K H a xs/\AF K H xs ws/\ws.length<sizeLine/\LamH K H /\
 ∀D H' os,BV (tabP K "in_order") H H'->LamH K H'->H D=none->H' D=some (.lst (aA.wv os))->WsT H' os->(os.map (·.2)).Perm (ws.foldl ins [])->aA.Srt os->Q (.ref D) H'
theorem Rl   (F:FunL K mg base "in_order" "in_order" CT f fd)(T:Txt mg)
  (Z:Exs K mg av aq)
  : FnOk P w K mg base CX0 4 f fd ["words"] (Ze K):=by
 refine F.ok Hw (fun vs H Q E h=>?_) (fun aB bo A outer s H vs Q E hr h=>?_)
 ·obtain⟨a,xs,ws,rfl,_⟩:=h;rfl
 ·obtain⟨a,xs,ws,rfl,hs,hW,hz,hT,k⟩:=h
  have hl:=AA
  refine⟨_,(Ac (CG (i:=1) Hw.nd rfl (Or.inl rfl) R7)
   (Ac (CH PassesOwn.never rfl (Cf (pvD 0)) (Ar (i:=2) Hw.nd rfl (Or.inl rfl))
   (Ag (QG (O7 hr) (pvD 1) (pvD 2) AI_ rfl)))
   (Ag (A0 (TL (k:=0) (c:=tabC K "in_order") (P:=tabP K "in_order") (lp:=Ik) (qual:=Str.ofString "in_order" ++ ".<locals>.") hr rfl T.sorted T.len bo F.C F.B (Aa (AZ (KQ rfl) rfl T.list PyProof.Rows.boot_list (Aa (pvD 1) Ad)) Ad)))))),?_⟩
  walk_at "rd"
  intro p hp
  have sp:=Same.new (o:=.dT []) hp
  refine⟨⟨_,sp.seq hs⟩,?_⟩
  obtain⟨Py,kO⟩:∃Pv:Nat->St->Hp->Prop,∀j ah H',Pv j ah H'↔(∃(kvs:List (List Key×V)) (o':Option V),Same H H'/\H' p=some (.dT kvs)/\GZ ((ws.take j).foldl ins []) kvs/\ah=[some (.ref a),some (.ref p),o']):=⟨_,fun _ _ _=>Iff.rfl⟩
  refine forL (xs:=xs) Py ((kO _ _ _).mpr ⟨[],_,sp,Ab,by rw[List.take_zero];exact GZ.nil,rfl⟩) (fun j ah H' _ h'=>by obtain⟨_,_,s',_⟩:=(kO _ _ _).mp h';exact s'.seq hs) (fun j y aH H3 hy h3=>?_) (fun aH H3 h3=>?_)
  ·obtain⟨kvs,o',s3,hd,hk,rfl⟩:=(kO _ _ _).mp h3
   obtain⟨u,v,cG,rfl,hu⟩:=hW.at hy
   have hj:j<ws.length:=(List.getElem?_eq_some_iff.mp cG).1
   have ak:kvs.length<sizeLine:=by
    have h1:=EX (ws.take j) []
    rw[hk.len]
    rw[List.length_take,List.length_nil]at h1
    lia
   walk_at "rd"
   have fP:H3 u=some (.tup ((wkey v).map kV)):=by rw[NC];exact s3 _ _ hu
   refine⟨_,DPut.t (k:=wkey v) hd fP s!"",(kO _ _ _).mpr ⟨_,_,s3.over hp,Ab,?_,rfl⟩⟩
   rw[List.take_add_one,cG,Option.toList_some,List.foldl_append]
   exact hk.put _ _
  ·obtain⟨kvs,o',s3,hd,hk,rfl⟩:=(kO _ _ _).mp h3
   rw[hW.1,List.take_length]at hk
   walk_at "rd"
   refine⟨kvs,.inl hd,fun l rs ku cB nM=>?_⟩
   have hWr:AF K (upd H3 l (.lst rs)) rs (ws.foldl ins []):=(hk.words (K:=K) cB nM).mono (TK.new ku)
   obtain⟨nU,e1,e2,e3⟩:=Lf hWr
   have s4:Same H (upd H3 l (.lst rs)):=s3.newT ku
   have nV:=hT.mono s4
   have ak:nU.length<sizeLine:=by
    have h1:=congrArg List.length e2
    have h2:=EX ws []
    rw[List.length_map]at h1
    rw[List.length_nil]at h2
    lia
   have hl4:SqL K (upd H3 l (.lst rs)) l (aA.wv nU):=by rw[<-e1];exact SqL.of Ab
   generalize upd H3 l (.lst rs)=H4 at hWr e3 s4 nV hl4 ⊢
   refine⟨nU,hl4,fun w hw=>SqT.of (e3 w hw),ak,nV,fun H5 D os s5 hL5 i4 hD cD hsrt=>?_⟩
   refine k D H5 os (fun b o hb e=>s5 b o hb (s4 b o e)) hL5 (Same.none s4 i4) hD (fun w hw=>?_) ?_ hsrt
   ·have h1:=e3 w (cD.mem_iff.mp hw)
    obtain⟨_,kP⟩:=nV.is
    exact s5.ne h1 (fun _ z=>by cases z) kP
   ·have:=cD.map (·.2)
    rw[e2]at this
    exact this
noncomputable def Zf (K:PySem.W.Frag)(H:Hp)(e:Addr)(n:Nat)(E:Nat->List (List Int)):Prop:=∃es:List V,H e=some (.lst es)/\∀r,r<n->∃q ys,es[r]?=some (.ref q)/\H q=some (.lst ys)/\AF K H ys (E r)
noncomputable def wayW (ae:List (List Int))(r:Nat):List Int:=(((Ax ae).find? fun e=>e.1==(r:Int)).getD (0,[])).2
theorem Ao_ {ae:List (List Int)}(nod:((Ax ae).map (·.1)).Nodup){r:Nat}{w:List Int}(h:((r:Int),w)∈Ax ae):wayW ae r=w:=by
 unfold wayW
 cases hf:(Ax ae).find? fun e=>e.1==(r:Int) with
 |none=>exact absurd (List.find?_eq_none.mp hf _ h) (by simp)
 |some e=>
  have h1:=List.find?_some hf
  have h2:=List.mem_of_find?_eq_some hf
  have e1:e.1=(r:Int):=by simpa using h1
  obtain⟨i,hi,ei⟩:=List.getElem_of_mem h2
  obtain⟨j,hj,ej⟩:=List.getElem_of_mem h
  have ij:i=j:=(List.getElem_inj (h₀:=by simpa using hi) (h₁:=by simpa using hj) nod).mp (by simp[ei,ej,e1])
  subst ij
  rw[ei]at ej
  rw[Option.getD_some,ej]
noncomputable def oneW (ae:List (List Int))(E:Nat->List (List Int))(r:Nat)(m:List Int):List (List Int):=(E (AL ae (wayW ae r++m)).toNat).map ((wayW ae r++m) ++ ·)
noncomputable def allW (ae:List (List Int))(n:Nat)(mids:List (List Int))(E:Nat->List (List Int)):List (List Int):=(List.range n).flatMap fun r=>mids.flatMap (oneW ae E r)
noncomputable abbrev Gy (L:Int)(m:Nat):List (List Int):=(List.range (many L (m+2)).toNat).map (nth L)
theorem N6 {α β:Type}{f:α->List β}{c:Nat}:∀(l:List α),(∀x∈l,(f x).length<=c)->(l.flatMap f).length<=l.length*c
 |[],_=>by simp
 |x::l,h=>by
  have h1:=h x List.mem_cons_self
  have h2:=N6 l (fun y hy=>h y (List.mem_cons_of_mem _ hy))
  rw[List.flatMap_cons,List.length_append,List.length_cons,Nat.succ_mul]
  lia
theorem T1 {K:PySem.W.Frag}    (h:AF K H xs us)(g:AF K H ys vs):AF K H (xs++ys) (us++vs):=by
 refine⟨by rw[List.length_append,List.length_append,h.1,g.1],fun i w hw=>?_⟩
 by_cases hi:i<us.length
 ·rw[List.getElem?_append_left hi]at hw
  obtain⟨t,a,b⟩:=h.2 i w hw
  exact⟨t,by rw[List.getElem?_append_left (by rw[h.1];exact hi)];exact a,b⟩
 ·rw[List.getElem?_append_right s!""]at hw
  obtain⟨t,a,b⟩:=g.2 _ w hw
  exact⟨t,by rw[List.getElem?_append_right (by rw[h.1];lia),h.1];exact a,b⟩
noncomputable def Rm (K:PySem.W.Frag):Sp:=fun vs H Q _=>∃(h e:Addr) (L:Int) (m:Nat) (aa:List Int) (ae:List (List Int)) (E:Nat->List (List Int)),vs=[.ref h,.int m,.ref e]/\Bz K H h L aa ae/\Wf L aa ae/\m<=3/\many L (m+2)<=341/\Zf K H e aa.length E/\(∀r,r<aa.length->(E r).length<=40/\∀w∈E r,w.length<=40)/\(∀r:Nat,r<aa.length->(r:Int)∈(Ax ae).map (·.1))/\LamH K H /\
 ∀D H' os,BV (tabP K "in_order") H H'->LamH K H'->H D=none->H' D=some (.lst (aA.wv os))->WsT H' os->(os.map (·.2)).Perm ((allW ae aa.length (Gy L m) E).foldl ins [])->aA.Srt os->Q (.ref D) H'
theorem N7   (F:Fun K "words_with" "words_with" BY f fd)(T:Txt mg)
  (Z:Exs K mg av aq)
   (Ja:FnOk P w K mg base CX0 4 Ea Lg ["letters","most"] (Zb K)) (E7:Fun K "words_to" "words_to" Dy Ea Lg) (Jb:Bj K Lg ["letters","most"] []) (Jc:mg "words_to"=some (.ref Ea))
   (Ft:FnOk P w K mg base (CXe P w) 4 CB Hk ["house","word"] (Ws K aq)) (Dk:Fun K "room_behind" "room_behind" B5 CB Hk) (Fu:Bj K Hk ["house","word"] []) (Fv:mg "room_behind"=some (.ref CB))
   (Lh:FnOk P w K mg base CX0 2 E8 M8 ["house"] (P6 K)) (Gz:Fun K "ways_in" "ways_in" Ef E8 M8) (Li:Bj K M8 ["house"] []) (Lj:mg "ways_in"=some (.ref E8))
   (Jd:FnOk P w K mg base CX0 4 Eb Lk ["words"] (Ze K)) (GX:Fun K "in_order" "in_order" CT Eb Lk) (Je:Bj K Lk ["words"] []) (Jf:mg "in_order"=some (.ref Eb))
  : FnOk P w K mg base CX0 5 f fd ["base","more","ends"] (Rm K):=by
 refine F.ok Dh (fun vs H Q E h=>?_) (fun aB A outer s H vs Q E hr h=>?_)
 ·obtain⟨h,e,L,m,aa,ae,E,rfl,_⟩:=h;rfl
 ·obtain⟨h,e,L,m,aa,ae,E,rfl,hh,wf,hm,aT,hE,hEl,aL,hT,k⟩:=h
  have hl:=AA
  have cL:=wf.l1
  have cj:=wf.l6
  have aP:=wf.n40
  refine⟨_,(Ac (Aj (i:=3) Dh.nd (B9 Ad))
   (Ac (CH PassesOwn.never rfl (Cf (Am Lh (hr.mono (by decide)) rfl Lj Gz.kp Li .nil Be (Aa (pvD 0) Ad))) (Ar (i:=4) Dh.nd rfl (Or.inl rfl))
   (Ag (CH PassesOwn.never rfl (Cf (Am Ja (hr.mono (by decide)) rfl Jc E7.kp Jb .nil Be (Aa (Ai (ixTD AI) (pvD 0) Ae) (Aa (As (opD0 B8) (pvD 1) Ae) Ad)))) (Ar (i:=5) Dh.nd rfl (Or.inl rfl))
   (Ac (CG (i:=6) Dh.nd rfl (Or.inr rfl) (As GP (pvD 4) (pvD 5)))
   (Ag (Bv (Fg PySem.F.plainAttrs_list PySem.F.slot_list_extend PySem.F.type_list_extend U0 (pvD 3) (Aa (Cg rfl (Cp rfl) (cp:=Hg) ⟨⟨rfl,rfl⟩,True.intro⟩ (Cf (Ai (ixLD Bw) (pvD 2) (Am Ft (hr.mono (by decide)) rfl Fv Dk.kp Fu .nil (Vq (P:=P) (w:=w)) (Aa (pvD 0) (Aa (pvD 6) Ad))))) (fun _ _ _ _=>(Ar (i:=0) IT rfl (Or.inl rfl))) (fun _ _ _ _=>CD) (fun _ _ _ _=>(As (VO (K:=K) rfl) (pvD 1) (pvD 0)))) Ad))))))))
   (Ag (A0 (Am Jd (hr.mono (by decide)) rfl Jf GX.kp Je .nil Be (Aa (pvD 3) Ad)))))),?_⟩
  walk_at "rd"
  refine⟨by lia,fun p hp=>?_⟩
  have s0:=Same.new (o:=.lst []) hp
  refine⟨h,L,aa,ae,rfl,hh.mono s0,wf,fun d top H1 s1 hdn hWS bf=>?_⟩
  obtain⟨xs,hd,bN,hxs⟩:=hWS
  have s01:=s0.trans s1
  have a6:=s1 _ _ (Ab (H:=H) (a:=p) (o:=.lst []))
  have jR:d≠p:=(AM hdn).2
  refine⟨d,rfl,⟨_,SqL.of hd⟩,?_⟩
  have hmL:(Gy L m).length<=341:=by
   rw[List.length_map,List.length_range];lia
  have hone:∀(r:Nat) (v:List Int),r<aa.length->isW L (wayW ae r++v)=true->(oneW ae E r v).length<=40:=fun r v hr hv=>by
   have h1:=wf.walk hv (wayW ae r++v).length
   rw[List.take_length]at h1
   unfold oneW
   rw[List.length_map]
   exact (hEl _ s!"").1
  have hway:∀r,r<aa.length->∃t,xs[r]?=some (.ref t)/\H1 t=some (.tup ((wayW ae r).map V.int))/\isW L (wayW ae r)=true/\(wayW ae r).length<=40:=fun r hr=>by
   rcases hxs r hr with ⟨w,t,a,b,c⟩|⟨a,_⟩
   ·rw[Ao_ bf.nod a]
    obtain⟨j,hj⟩:=List.mem_iff_getElem?.mp a
    have h1:=bf.sh j _ hj
    have h2:=(List.getElem?_eq_some_iff.mp hj).1
    have h3:=bf.len
    exact⟨t,b,c,(bf.wd _ a).1,by dsimp only at h1;lia⟩
   ·exact absurd (aL r hr) a
  have lS:∀v∈Gy L m,isW L v=true:=fun v hv=>by
   obtain⟨k',_,rfl⟩:=List.mem_map.mp hv
   exact HY (show 0<L by lia) k'
  have happ:∀r,r<aa.length->∀v,isW L v=true->isW L (wayW ae r++v)=true:=fun r hr v hv=>by
   obtain⟨_,_,_,kQ,_⟩:=hway r hr
   rw[AU]at kQ hv ⊢
   intro x hx
   rcases List.mem_append.mp hx with hx|hx
   ·exact kQ x hx
   ·exact hv x hx
  have hb1:∀r,r<aa.length->∀j,(((Gy L m).take j).flatMap (oneW ae E r)).length<=13640:=fun r hr j=>by
   have h1:=N6 (f:=oneW ae E r) (c:=40) ((Gy L m).take j) (fun v hv=>hone r v hr (happ r hr v (lS v (List.mem_of_mem_take hv))))
   have h2:((Gy L m).take j).length<=341:=Nat.le_trans (by rw[List.length_take];lia) hmL
   lia
  have dZ:∀i,i<=aa.length->((List.range i).flatMap fun r=>(Gy L m).flatMap (oneW ae E r)).length<=545600:=fun i hi=>by
   have h1:=N6 (f:=fun r=>(Gy L m).flatMap (oneW ae E r)) (c:=13640) (List.range i) (fun r hr=>by
    have:=hb1 r (by have:=List.mem_range.mp hr;lia) (Gy L m).length
    rw[List.take_length]at this
    exact this)
   rw[List.length_range]at h1
   have h2:i*13640<=40*13640:=Nat.mul_le_mul_right _ s!""
   lia
  obtain⟨Pv,au⟩:∃Pv:Nat->St->Hp->Prop,∀i ah H',Pv i ah H'↔(∃(ys:List V) (o4 o5 o6:Option V),Same H H'/\TK H1 H'/\H' d=some (.lst xs)/\H' p=some (.lst ys)/\AF K H' ys ((List.range i).flatMap fun r=>(Gy L m).flatMap (oneW ae E r))/\ah=[some (.ref h),some (.int m),some (.ref e),some (.ref p),o4,o5,o6]):=⟨_,fun _ _ _=>Iff.rfl⟩
  refine forL (xs:=xs) Pv ((au _ _ _).mpr ⟨[],none,none,none,s01,TK.refl _,hd,a6,AF.nil,rfl⟩) (fun i ah H' _ h'=>by obtain⟨_,_,_,_,_,_,q,_⟩:=(au _ _ _).mp h';exact SqL.of q) (fun i x aj H2 hx h2=>?_) (fun aj H2 h2=>?_)
  ·obtain⟨ys,o4,o5,o6,s2,nW,eN,aS,iM,rfl⟩:=(au _ _ _).mp h2
   have hi:i<aa.length:=by rw[<-bN];exact (List.getElem?_eq_some_iff.mp hx).1
   obtain⟨t,i5,ht,kQ,dP⟩:=hway i hi
   rw[hx]at i5
   cases i5
   walk_at "rd"
   obtain⟨mm,wv,q1,q2,q3⟩:=id hh
   refine⟨_,s2.seqT q1,_,rfl,L,m+1,by rw[Int.natCast_add];rfl,cL,cj,by lia,by show many L (m+2)<=4000;lia,fun pm zs H3 s3 hpmn cm hWm=>⟨pm,rfl,⟨_,SqL.of cm⟩,?_⟩⟩
   have hWm':AF K H3 zs (Gy L m):=hWm
   have hppm:pm≠p:=fun z=>by rw[z,aS]at hpmn;cases hpmn
   have hpH:H p=none:=hp
   obtain⟨Pw,cE⟩:∃Pv:Nat->St->Hp->Prop,∀j ah H',Pv j ah H'↔(∃(ed:List V) (o5 o6:Option V),Same H H'/\TK H3 H'/\H' d=some (.lst xs)/\H' pm=some (.lst zs)/\H' p=some (.lst ed)/\AF K H' ed (((List.range i).flatMap fun r=>(Gy L m).flatMap (oneW ae E r))++((Gy L m).take j).flatMap (oneW ae E i))/\ah=[some (.ref h),some (.int m),some (.ref e),some (.ref p),some (.ref t),o5,o6]):=⟨_,fun _ _ _=>Iff.rfl⟩
   refine forL (xs:=zs) Pw ((cE _ _ _).mpr ⟨ys,o5,o6,s2.trans s3,TK.refl _,s3 _ _ eN,cm,s3 _ _ aS,by rw[List.take_zero,List.flatMap_nil,List.append_nil];exact iM.mono (TK.of s3),rfl⟩) (fun j ah H' _ h'=>by obtain⟨_,_,_,_,_,_,q,_⟩:=(cE _ _ _).mp h';exact SqL.of q) (fun j y bJ H4 hy h4=>?_) (fun bJ H4 h4=>?_)
   ·obtain⟨ed,o5,o6,s4,kR,nX,fD,dv,dA,rfl⟩:=(cE _ _ _).mp h4
    obtain⟨u,v,hvj,rfl,hu⟩:=hWm'.at hy
    have hvm:isW L v=true/\v.length<=4:=by
     obtain⟨k',gR,rfl⟩:=List.mem_map.mp (List.mem_of_getElem? hvj)
     have hv:=HY (show 0<L by lia) k'
     refine⟨hv,?_⟩
     have h1:=(MO (show 0<L by lia) hv (m+1)).mpr (by
      rw[KH]
      have:=List.mem_range.mp gR
      show (k':Int)<many L (m+2)
      lia)
     lia
    have ht4:=kR _ _ (TK.of s3 _ _ (nW _ _ ht))
    have hu4:=kR _ _ hu
    walk_at "rd"
    refine Hf.ofS ht4 hu4 (by simp;lia) fun q H5 s5 hq=>?_
    have i6:isW L (wayW ae i++v)=true:=by
     rw[AU]at kQ ⊢
     intro x hx
     rcases List.mem_append.mp hx with hx|hx
     ·exact kQ x hx
     ·exact AU.mp hvm.1 x hx
    have fP:H5 q=some (.tup ((wayW ae i++v).map V.int)):=by rw[hq,List.map_append]
    walk_at "rd"
    have cD:=s5 _ _ dv
    refine⟨.inl ⟨rfl,_,SqL.of cD⟩,h,q,L,aa,ae,wayW ae i++v,rfl,hh.mono (s4.trans s5),wf,SqT.of fP,by rw[List.length_append];lia,fun _ H6 s6=>?_,fun hf=>by rw[i6]at hf;cases hf⟩
    have gW:=wf.walk i6 (wayW ae i++v).length
    rw[List.take_length]at gW
    obtain⟨es,jJ,mV⟩:=id hE
    obtain⟨pe,ye,nY,hye,hWe⟩:=mV (AL ae (wayW ae i++v)).toNat s!""
    have hEr:=hEl (AL ae (wayW ae i++v)).toNat s!""
    have nZ:=(s4.trans s5).trans s6
    have hye6:=nZ _ _ hye
    have hWe6:=hWe.mono (TK.of nZ)
    have fe:=hWe.1
    refine⟨es,_,rfl,SqL.of (nZ _ _ jJ),_,Ed s!"" nY,pe,rfl,⟨_,SqL.of hye6⟩,?_⟩
    refine QK (xs:=ye) (fun j' bw ah H'=>Same H6 H'/\AF K H' bw (((E (AL ae (wayW ae i++v)).toNat).take j').map ((wayW ae i++v) ++ ·))/\∃o,ah=[o,some (.ref q)]) ⟨Same.refl _,AF.nil,none,rfl⟩ s!"" (fun j' bw ah H' eB h'=>⟨SqL.of (h'.1 _ _ hye6),by have:=h'.2.1.1;rw[List.length_map,List.length_take]at this;lia⟩) (fun j' x' bw ah H' fZ h'=>?_) (fun bw ah H' h' D hD=>?_)
    ·obtain⟨s7,i7,o,rfl⟩:=h'
     obtain⟨u',v',hv',rfl,gI⟩:=hWe6.at fZ
     have hvl:=hEr.2 v' (List.mem_of_getElem? hv')
     walk_at "rd"
     refine Hf.ofS (s7 _ _ (s6 _ _ fP)) (s7 _ _ gI) (by simp;lia) fun q2 H8 s8 bZ=>⟨s7.trans s8,?_,_,rfl⟩
     rw[List.take_add_one,hv',Option.toList_some,List.map_append]
     exact (i7.mono (TK.of s8)).snoc (by rw[bZ];simp)
    ·obtain⟨s7,i7,o,_⟩:=h'
     rw[fe,List.take_length]at i7
     have n0:upd H' D (.lst bw) p=some (.lst ed):=by
      have:=s7 _ _ (s6 _ _ cD)
      rw[Ah (Al this hD)];exact this
     have s7D:Same H6 (upd H' D (.lst bw)):=s7.newT hD
     have lQ:upd H' D (.lst bw) D=some (.lst bw):=Ab
     have n5:AF K (upd H' D (.lst bw)) bw _:=i7.mono (TK.new hD)
     generalize upd H' D (.lst bw)=H9 at n0 s7D lQ n5 ⊢
     have kU:=(s5.trans s6).trans s7D
     have s49:=s4.trans kU
     have bj:=dA.1
     have cx:=n5.1
     rw[List.length_append]at bj
     rw[List.length_map]at cx
     have hb3:=hb1 i hi j
     have hb4:=dZ i s!""
     have kT:TK H9 (upd H9 p (.lst (ed++bw))):=TK.lst n0
     refine⟨D,rfl,ed,n0,bw,lQ,by lia,(cE _ _ _).mpr ⟨ed++bw,_,_,s49.over hpH,(kR.trans (TK.of kU)).trans kT,by rw[Ah jR];exact kU _ _ nX,by rw[Ah hppm];exact kU _ _ fD,Ab,?_,rfl⟩⟩
     rw[List.take_add_one,hvj,Option.toList_some,List.flatMap_append,<-List.append_assoc]
     refine T1 ((dA.mono (TK.of kU)).mono kT) ?_
     have e1:[v].flatMap (oneW ae E i)=(E (AL ae (wayW ae i++v)).toNat).map ((wayW ae i++v) ++ ·):=by simp[oneW]
     rw[e1]
     exact n5.mono kT
   ·obtain⟨ed,o5,o6,s4,kR,nX,fD,dv,dA,rfl⟩:=(cE _ _ _).mp h4
    refine (au _ _ _).mpr ⟨ed,_,_,_,s4,(nW.trans (TK.of s3)).trans kR,nX,dv,?_,rfl⟩
    have:(Gy L m).take zs.length=Gy L m:=List.take_of_length_le (by rw[hWm'.1];exact Nat.le_refl _)
    rw[this]at dA
    rw[List.range_succ,List.flatMap_append]
    simpa using dA
  ·obtain⟨ys,o4,o5,o6,s2,nW,eN,aS,iM,rfl⟩:=(au _ _ _).mp h2
   rw[bN]at iM
   walk_at "rd"
   refine⟨p,ys,_,rfl,SqL.of aS,iM,?_,hT.mono s2,fun D H3 os s3 hL3 i4 hD dN cm hs=>?_⟩
   ·have:=dZ aa.length (Nat.le_refl _)
    lia
   ·exact k D H3 os (fun b o hb e=>s3 b o hb (s2 b o e)) hL3 (Same.none s2 i4) hD dN cm hs
theorem Zg      (h:WC L n b words c):∀(k:Nat) (w:List Int),words[k]?=some w->w.length<=k:=by
 intro k
 induction k using Nat.strongRecOn with
 |ind k ih=>
  intro w hw
  by_cases hk:k=0
  ·subst hk
   rw[h.w0]at hw
   cases hw
   simp
  ·have ht:=h.tl k w hw s!""
   obtain⟨j,hj⟩:=List.mem_iff_getElem?.mp ht
   have gJ:j<k:=by
    have:=(List.getElem?_eq_some_iff.mp hj).1
    rw[List.length_take]at this
    lia
   rw[List.getElem?_take_of_lt gJ]at hj
   have:=ih j gJ _ hj
   rw[List.length_tail]at this
   lia
noncomputable def P7 (L:Nat)(aa:List Int)(ae:List (List Int))(m:Nat):List (List Int):=allW (sW L aa ae) (sM L aa ae).length (Gy (L:Int) m) fun _=>(wcOf (sM L aa ae).length L (bW (sM L aa ae) (sW L aa ae))).1
noncomputable def SR (K:PySem.W.Frag):Sp:=fun vs H Q _=>∃(h:Addr) (L m:Nat) (aa:List Int) (ae:List (List Int)),vs=[.ref h,.int m]/\Bz K H h L aa ae/\Wf L aa ae/\m<=3/\many L (m+2)<=341/\LamH K H /\
 ∀D H' os,BV (tabP K "in_order") H H'->LamH K H'->H D=none->H' D=some (.lst (aA.wv os))->WsT H' os->(os.map (·.2)).Perm ((P7 L aa ae m).foldl ins [])->aA.Srt os->Q (.ref D) H'
theorem Xz   (F:Fun K "suite" "suite" Hx f fd)(T:Txt mg)
  (Z:Exs K mg av aq)
   (E9:FnOk P w K mg base CX0 3 Dn Fb ["house"] (Wt K)) (DK:Fun K "tellers" "tellers" DG Dn Fb) (Fc:Bj K Fb ["house"] []) (Fd:mg "tellers"=some (.ref Dn))
   (Jg:FnOk P w K mg base CX0 5 Fw Iw ["house"] (N5 K)) (GA:Fun K "least" "least" Gm Fw Iw) (Jh:Bj K Iw ["house"] []) (Ji:mg "least"=some (.ref Fw))
   (C4:FnOk P w K mg base CX0 5 BD Dp ["base","more","ends"] (Rm K)) (B2:Fun K "words_with" "words_with" BY BD Dp) (C5:Bj K Dp ["base","more","ends"] []) (C6:mg "words_with"=some (.ref BD))
  : FnOk P w K mg base CX0 6 f fd ["house","more"] (SR K):=by
 refine F.ok NX (fun vs H Q E h=>?_) (fun aB A outer s H vs Q E hr h=>?_)
 ·obtain⟨h,L,m,aa,ae,rfl,_⟩:=h;rfl
 ·obtain⟨h,L,m,aa,ae,rfl,hh,wf,hm,aT,hT,k⟩:=h
  have hl:=AA
  refine⟨_,(Ac (Aj (i:=2) NX.nd (Am Jg (hr.mono (by decide)) rfl Ji GA.kp Jh .nil Be (Aa (pvD 0) Ad)))
   (Ac (CG (i:=3) NX.nd rfl (Or.inr rfl) (Am E9 (hr.mono (by decide)) rfl Fd DK.kp Fc .nil Be (Aa (pvD 2) Ad)))
   (Ag (A0 (Am C4 (hr.mono (by decide)) rfl C6 B2.kp C5 .nil Be (Aa (pvD 2) (Aa (pvD 1) (Aa (Cg rfl (Cp rfl) (cp:=P0) ⟨⟨rfl,rfl⟩,True.intro⟩ (HS (Ai (ixTD AI) (pvD 2) Ae)) (fun _ _ _ _=>(Ar (i:=0) P4 rfl (Or.inl rfl))) (fun _ _ _ _=>CD) (fun _ _ _ _=>(pvD 1))) Ad)))))))),?_⟩
  walk_at "rd"
  have cZ:=sWf wf
  have i8:=sCan wf
  have gi:=cZ.n40
  refine⟨h,L,aa,ae,rfl,hh,wf,fun ps H3 s3 c9=>?_⟩
  unfold P7 at k
  generalize sM L aa ae=ms at cZ i8 c9 gi k
  generalize sW L aa ae=vs at cZ i8 c9 k
  obtain⟨sm,sv,r1,r2,r3⟩:=id c9
  refine⟨ps,L,ms,vs,rfl,c9,cZ,fun pe xs H7 s7 hpeN nY hW fin=>?_⟩
  have s37:=s3.trans s7
  generalize ju:wcOf ms.length L (bW ms vs)=st at hW fin k
  have i6:st.1.length<=40:=by
   have h1:=fin.wc.le
   have h2:=MT st.2
   rw[fin.wc.len]at h2
   lia
  have dP:=Zg fin.wc
  walk_at "rd"
  refine⟨_,s7.seqT r1,_,rfl,sm,rfl,⟨_,s7.seqT r2⟩,?_⟩
  refine ZL (xs:=ms.map V.int) (fun i ys ah H'=>H'=H7/\ys=List.replicate i (V.ref pe)/\∃o,ah=[o,some (.ref pe)]) ⟨rfl,rfl,none,rfl⟩ (by rw[List.length_map];lia) (fun i ys ah H' hi h'=>?_) (fun i x ys ah H' hx h'=>?_) (fun ys ah H' h' D hD=>?_)
  ·obtain⟨rfl,rfl,_⟩:=h'
   exact⟨s7.seqT r2,by rw[List.length_replicate];exact Nat.le_refl _⟩
  ·obtain⟨rfl,rfl,o,rfl⟩:=h'
   walk_at "rd"
   refine⟨?_,_,rfl⟩
   exact (List.replicate_succ' ..).symm
  ·obtain⟨rfl,rfl,o,rfl⟩:=h'
   rw[List.length_map]
   have sD:=s37.newT hD (o:=.lst (List.replicate ms.length (V.ref pe)))
   have gX:=Same.new hD (o:=.lst (List.replicate ms.length (V.ref pe)))
   have eI:upd H' D (.lst (List.replicate ms.length (V.ref pe))) D=some (.lst (List.replicate ms.length (V.ref pe))):=Ab
   generalize upd H' D (.lst (List.replicate ms.length (V.ref pe)))=H8 at sD gX eI ⊢
   refine⟨ps,D,L,m,ms,vs,fun _=>st.1,rfl,c9.mono (s7.trans gX),cZ,hm,aT,⟨_,eI,fun r hr=>⟨pe,xs,by rw[List.getElem?_replicate,if_pos hr],gX _ _ nY,hW.mono (TK.of gX)⟩⟩,fun r hr=>⟨i6,fun w hw=>?_⟩,fun r hr=>?_,hT.mono sD,fun D' H9 os sT kW i4 gY dN cm hs=>?_⟩
   ·obtain⟨j,hj⟩:=List.mem_iff_getElem?.mp hw
    have h1:=dP j w hj
    have h2:j<st.1.length:=(List.getElem?_eq_some_iff.mp hj).1
    lia
   ·have h1:=i8.order
    unfold rOf at h1
    rw[h1]
    exact List.mem_map.mpr ⟨r,List.mem_range.mpr hr,rfl⟩
   ·exact k D' H9 os (fun b o hb e=>sT b o hb (sD b o e)) kW (Same.none sD i4) gY dN cm hs
noncomputable def ownF (b:List Int->Nat->Int)(r:Nat):List (List Int)->List Nat->List (List Int)
 |[],_=>[]
 |v::ws,left=>(if (left.filter fun o=>decide (b v o=b v r)).length<left.length then [v] else [])++ownF b r ws (left.filter fun o=>decide (b v o=b v r))
noncomputable def Iy (b:List Int->Nat->Int)(r n:Nat)(ws:List (List Int)):List Nat:=ws.foldl (fun left v=>left.filter fun o=>decide (b v o=b v r)) (List.range n)
noncomputable def ownW (n:Nat)(b:List Int->Nat->Int)(ws:List (List Int))(r:Nat):List (List Int):=[]::ownF b r ws (List.range n)
theorem Wv {b:List Int->Nat->Int}{r:Nat}{v:List Int}(left:List Nat):(left.filter fun o=>decide (b v o=b v r)).length<left.length ↔ ∃o∈left,b v o≠b v r:=by
 constructor
 ·intro h
  refine Classical.byContradiction fun z=>?_
  have:=(List.length_filter_eq_length_iff (p:=fun o=>decide (b v o=b v r)) (l:=left)).mpr fun o ho=>decide_eq_true (Classical.byContradiction fun y=>z ⟨o,ho,y⟩)
  lia
 ·rintro⟨o,ho,aE⟩
  refine Nat.lt_of_not_le fun h=>?_
  have:=List.length_filter_eq_length_iff.mp (Nat.le_antisymm (List.length_filter_le _ _) h) o ho
  exact aE (of_decide_eq_true this)
theorem SS {b:List Int->Nat->Int}{r:Nat}{w:List Int}:∀(ws:List (List Int)) (left:List Nat),w∈ownF b r ws left ↔ ∃o∈left,ws.find? (fun v=>decide (b v o≠b v r))=some w
 |[],left=>by simp[ownF]
 |v::ws,left=>by
  unfold ownF
  rw[List.mem_append,SS ws]
  constructor
  ·rintro (h|⟨o,ho,h⟩)
   ·split at h
    ·rename_i ar
     obtain⟨o,ho,aE⟩:=(Wv left).mp ar
     rw[List.mem_singleton.mp h]
     exact⟨o,ho,by simp[List.find?_cons,aE]⟩
    ·cases h
   ·obtain⟨ho,he⟩:=List.mem_filter.mp ho
    have he:=of_decide_eq_true he
    exact⟨o,ho,by rw[List.find?_cons_of_neg (by simp[he])];exact h⟩
  ·rintro⟨o,ho,h⟩
   by_cases aE:b v o=b v r
   ·rw[List.find?_cons_of_neg (by simp[aE])]at h
    exact .inr ⟨o,List.mem_filter.mpr ⟨ho,decide_eq_true aE⟩,h⟩
   ·have h:v=w:=by simpa [List.find?_cons,aE] using h
    subst h
    left
    rw[if_pos ((Wv left).mpr ⟨o,ho,aE⟩)]
    exact List.mem_cons_self
theorem N8 {b:List Int->Nat->Int}{r:Nat}:∀(ws:List (List Int)) (left:List Nat),r∈left->(ownF b r ws left).length+1<=left.length
 |[],left,h=>by
  have:=List.length_pos_of_mem h
  simp only[ownF,List.length_nil];lia
 |v::ws,left,h=>by
  have h2:=N8 (b:=b) (r:=r) ws (left.filter fun o=>decide (b v o=b v r)) (List.mem_filter.mpr ⟨h,by simp⟩)
  unfold ownF
  rw[List.length_append]
  split
  ·simp only[List.length_singleton];lia
  ·rename_i hh
   have:=List.length_filter_le (fun o=>decide (b v o=b v r)) left
   simp only[List.length_nil];lia
theorem XA {b:List Int->Nat->Int}{r:Nat}{w:List Int}{ws:List (List Int)}{left:List Nat}(h:w∈ownF b r ws left):w∈ws:=by
 obtain⟨o,_,h⟩:=(SS ws left).mp h
 exact List.mem_of_find?_eq_some h
theorem P8 {b:List Int->Nat->Int}{r:Nat}{v:List Int}:∀(ws:List (List Int)) (left:List Nat) (i:Nat),ws[i]?=some v->ownF b r (ws.take (i+1)) left=ownF b r (ws.take i) left++(if (((ws.take i).foldl (fun left v=>left.filter fun o=>decide (b v o=b v r)) left).filter fun o=>decide (b v o=b v r)).length<((ws.take i).foldl (fun left v=>left.filter fun o=>decide (b v o=b v r)) left).length then [v] else [])
 |[],left,i,h=>by simp at h
 |u::ws,left,0,h=>by
  have h:u=v:=by simpa using h
  subst h
  simp[ownF]
 |u::ws,left,i+1,h=>by
  rw[List.take_succ_cons,List.take_succ_cons,ownF,ownF,List.foldl_cons,P8 ws _ i (by simpa using h),List.append_assoc]
theorem P9 {b:List Int->Nat->Int}{r:Nat}:∀(ws:List (List Int)) (left:List Nat) (o:Nat),o∈ws.foldl (fun left v=>left.filter fun o=>decide (b v o=b v r)) left->o∈left
 |[],left,o,h=>h
 |v::ws,left,o,h=>(List.mem_filter.mp (P9 ws _ o h)).1
theorem Qa {b:List Int->Nat->Int}{r:Nat}:∀(ws:List (List Int)) (left:List Nat),(ws.foldl (fun left v=>left.filter fun o=>decide (b v o=b v r)) left).length<=left.length
 |[],left=>Nat.le_refl _
 |v::ws,left=>Nat.le_trans (Qa ws _) (List.length_filter_le _ _)
theorem XB   (ws:List (List Int)):∀o∈Iy b r n ws,o<n:=fun o h=>List.mem_range.mp (P9 ws _ o h)
theorem Ww   (ws:List (List Int)):(Iy b r n ws).length<=n:=by
 have:=Qa (b:=b) (r:=r) ws (List.range n)
 rw[List.length_range]at this
 exact this
noncomputable def Qb (H:Hp)(n:Nat)(b:List Int->Nat->Int)(ws:List (List Int))(ys:List V):Prop:=ys.length=ws.length/\∀(i:Nat) (v:List Int),ws[i]?=some v->∃q,ys[i]?=some (.ref q)/\H q=some (.lst ((rowB n b v).map V.int))
theorem Qb.mono      (h:Qb H n b ws ys)(s:Same H H'):Qb H' n b ws ys:=
 ⟨h.1,fun i v hv=>let ⟨q,a,c⟩:=h.2 i v hv;⟨q,a,s _ _ c⟩⟩
noncomputable def Zh (K:PySem.W.Frag):Sp:=fun vs H Q _=>∃(h a:Addr) (L:Nat) (aa:List Int) (ae:List (List Int)) (ws:List Int),vs=[.ref h,.ref a]/\Bz K H h L aa ae/\Wf L aa ae/\SqT K H a (ws.map V.int)/\isW L ws=true /\
 ∀p H',Same H H'->H p=none->H' p=some (.lst ((rowB aa.length (bW aa ae) ws).map V.int))->Q (.ref p) H'
theorem Fx   (F:Fun K "marks_from_each_room" "marks_from_each_room" AJ f fd)(T:Txt mg)
  (Z:Exs K mg av aq)
  : FnOk P w K mg base CX0 1 f fd ["house","word"] (Zh K):=by
 refine F.ok Bn (fun vs H Q E h=>?_) (fun aB A outer s H vs Q E hr h=>?_)
 ·obtain⟨h,a,L,aa,ae,ws,rfl,_⟩:=h;rfl
 ·obtain⟨h,a,L,aa,ae,ws,rfl,hh,wf,ha,hv,k⟩:=h
  have hl:=AA
  have hn:=wf.n40
  obtain⟨m,wv,q1,q2,q3⟩:=id hh
  refine⟨_,(Ac (Aj (i:=2) Bn.nd (II rfl rfl T.list rfl T.range (Av (lenD Ak) (by rfl) T.len PySem.boot_len (Aa (Ai (ixTD AI) (pvD 0) Ae) Ad))))
   (Ac (CH PassesOwn.never rfl (HS (pvD 1)) (Ar (i:=3) Bn.nd rfl (Or.inr rfl))
   (Ag (IE (i:=2) Bn.nd rfl rfl rfl (Cp rfl) (cp:=CU) ⟨⟨rfl,rfl⟩,⟨⟨rfl,rfl⟩,True.intro⟩⟩ (Cf (pvD 2)) (fun _ _ _ _=>(Ar (i:=0) Eg rfl (Or.inl rfl))) (fun _ _ _ _=>CD) (fun _ _ _ _=>(Ai (ixTD (CN (K:=K) rfl)) (Ai (ixTD (CN (K:=K) rfl)) (Ai (ixTD (CN (K:=K) rfl)) (pvD 2) Ae) (pvD 0)) (pvD 1))))))
   (Ag (A0 (Cg rfl (Cp rfl) (cp:=CV) ⟨⟨rfl,rfl⟩,True.intro⟩ (Cf (pvD 2)) (fun _ _ _ _=>(Ar (i:=0) Eh rfl (Or.inl rfl))) (fun _ _ _ _=>CD) (fun _ _ _ _=>(Ai (ixTD (CN (K:=K) rfl)) (Ai (ixTD (CN (K:=K) rfl)) (pvD 1) Ae) (pvD 0)))))))),?_⟩
  walk_at "rd"
  refine⟨_,q1,_,rfl,m,rfl,_,.inr q2,?_⟩
  rw[List.length_map]
  refine⟨by lia,by lia,fun p hp=>?_⟩
  rw[Int.toNat_natCast]
  have s0:=Same.new hp (o:=.lst ((ups aa.length).map V.int))
  refine⟨⟨_,s0.seqT ha⟩,?_⟩
  have dC:∀(i r:Nat),r<aa.length->0<=B4 ae r (ws.take i)/\B4 ae r (ws.take i)<aa.length:=fun i r hr=>Nz wf (ws.take i) (W9 hv i) s!"" s!""
  obtain⟨Pv,au⟩:∃Pv:Nat->St->Hp->Prop,∀i ah H',Pv i ah H'↔(∃(q:Addr) (o:Option V),Same H H'/\H' q=some (.lst (((List.range aa.length).map fun r:Nat=>B4 ae r (ws.take i)).map V.int))/\ah=[some (.ref h),some (.ref a),some (.ref q),o]):=⟨_,fun _ _ _=>Iff.rfl⟩
  refine forT (xs:=ws.map V.int) Pv ((au _ _ _).mpr ⟨p,none,s0,Ab,rfl⟩) (fun i ah H' _ h'=>by obtain⟨_,_,s',_⟩:=(au _ _ _).mp h';exact s'.seqT ha) (fun i x ah H' hx h'=>?_) (fun ah H' h'=>?_)
  ·obtain⟨q,o,s1,hq,rfl⟩:=(au _ _ _).mp h'
   obtain⟨l,i9,rfl⟩:=DD hx
   have bC:=AU.mp hv l (List.mem_of_getElem? i9)
   walk_at "rd"
   refine⟨⟨_,SqL.of hq⟩,?_⟩
   obtain⟨m',wv',g1,g2,g3⟩:=hh.mono s1
   refine HW (ah:=[some (.int l),some (.ref h)]) (fun x=>match x with | .int r=>.int (Bm ae r l)|_=>.non) rfl (SqL.of hq) (by simp;lia) (fun x hx R hR=>?_) (fun D hD=>?_)
   ·obtain⟨y,hy,rfl⟩:=List.mem_map.mp hx
    obtain⟨r,hr,rfl⟩:=List.mem_map.mp hy
    have hr:=List.mem_range.mp hr
    have hw:=dC i r hr
    generalize B4 ae r (ws.take i)=y at hw hR
    obtain⟨row,g,r1,r2,r3,r4,r5⟩:=wf.step hw.1 hw.2 bC.1 bC.2
    obtain⟨xs,t,z1,z2,z3⟩:=g3.atZ hw.1 r1
    walk_at "rd"
    refine⟨_,g1,_,rfl,wv',rfl,_,z1,_,z2,_,rfl,_,z3,_,CF bC.1 r2,?_⟩
    rw[<-r3]
    exact hR
   ·refine (au _ _ _).mpr ⟨D,_,s1.newT hD,?_,rfl⟩
    rw[Ab,List.map_map,List.map_map,List.map_map]
    congr 2
    refine List.map_congr_left fun r hr=>?_
    show V.int (Bm ae (B4 ae r (ws.take i)) l)=V.int (B4 ae r (ws.take (i+1)))
    rw[Tg i9]
  ·obtain⟨q,o,s1,hq,rfl⟩:=(au _ _ _).mp h'
   rw[List.length_map,List.take_length]at hq
   walk_at "rd"
   refine⟨⟨_,SqL.of hq⟩,?_⟩
   obtain⟨m',wv',g1,g2,g3⟩:=hh.mono s1
   refine HW (ah:=[some (.ref h)]) (fun x=>match x with | .int r=>.int (aa.getD r.toNat 0)|_=>.non) rfl (SqL.of hq) (by simp;lia) (fun x hx R hR=>?_) (fun D hD=>?_)
   ·obtain⟨y,hy,rfl⟩:=List.mem_map.mp hx
    obtain⟨r,hr,rfl⟩:=List.mem_map.mp hy
    have hr:=List.mem_range.mp hr
    have hw:=Nz wf ws hv (show (0:Int)<=r by lia) s!""
    generalize B4 ae r ws=y at hw hR
    walk_at "rd"
    refine⟨_,g1,_,rfl,m',rfl,_,g2,_,?_,hR⟩
    rw[Ed hw.1 (v:=V.int (aa.getD y.toNat 0)) (by rw[List.getElem?_map,List.getD_eq_getElem?_getD];simp[show y.toNat<aa.length by lia])]
   ·refine k D _ (s1.newT hD) (Same.none s1 hD) ?_
    rw[Ab,List.map_map,List.map_map]
    unfold rowB
    rw[List.map_map]
    rfl
noncomputable def Zi (K:PySem.W.Frag):Sp:=fun vs H Q _=>∃(a c:Addr) (n r:Nat) (b:List Int->Nat->Int) (ws:List (List Int)) (xs ys:List V),vs=[.ref a,.ref c,.int r]/\SqL K H a xs/\AF K H xs ws/\SqL K H c ys/\Qb H n b ws ys/\1<=ws.length/\ws.length<=40/\n<=40/\r<n /\
 ∀p zs H',Same H H'->H p=none->H' p=some (.lst zs)->AF K H' zs (ownW n b ws r)->Q (.ref p) H'
theorem Mn   (F:Fun K "own_tellers" "own_tellers" B6 f fd)(T:Txt mg)
  (Z:Exs K mg av aq)
  : FnOk P w K mg base CX0 1 f fd ["words","marks_behind","room"] (Zi K):=by
 refine F.ok BH (fun vs H Q E h=>?_) (fun aB A outer s H vs Q E hr h=>?_)
 ·obtain⟨a,c,n,r,b,ws,xs,ys,rfl,_⟩:=h;rfl
 ·obtain⟨a,c,n,r,b,ws,xs,ys,rfl,ha,hW,hc,hM,du,hw40,hn,bt,k⟩:=h
  have hl:=AA
  refine⟨_,(Ac (Aj (i:=3) BH.nd (B9 (Aa (Dx Ad) Ad)))
   (Ac (Aj (i:=4) BH.nd (II rfl rfl T.list rfl T.range (Av (lenD Ak) (by rfl) T.len PySem.boot_len (Aa (Ai (ixLD Bw) (pvD 1) Ae) Ad))))
   (Ac (CH PassesOwn.never rfl (ZZ rfl T.zip (Aa (pvD 0) (Aa (pvD 1) Ad))) (Yf rfl (Kl (Ar (i:=5) BH.nd rfl (Or.inl rfl)) (Kl (Ar (i:=6) BH.nd rfl (Or.inr rfl)) UJ)))
   (Ac (IE (i:=7) BH.nd rfl rfl rfl (Cp rfl) (cp:=Gp) ⟨⟨rfl,rfl⟩,⟨⟨rfl,rfl⟩,True.intro⟩⟩ (Cf (pvD 4)) (fun _ _ _ _=>(Ar (i:=0) Il rfl (Or.inl rfl))) (fun _ _ _ _=>(Yp (ptT (AB (opE DW) (Ai (ixLD (CM (K:=K) rfl)) (pvD 1) (pvD 0)) (Ai (ixLD (CM (K:=K) rfl)) (pvD 1) (pvD 2)) (AY _))))) (fun _ _ _ _=>(pvD 0)))
   (DQ (DE (ptT (AB (opD0 Mc) (Av (lenD Ak) (by rfl) T.len PySem.boot_len (Aa (pvD 7) Ad)) (Av (lenD Ak) (by rfl) T.len PySem.boot_len (Aa (pvD 4) Ad)) (AY _)))
   (Ag (Bv (Fg PySem.F.plainAttrs_list PySem.F.slot_list_append PySem.F.type_list_append Bh (pvD 3) (Aa (pvD 5) Ad))))
   Bg)
   (Ag (Aj (i:=4) BH.nd (pvD 7))))))
   (Ag (A0 (pvD 3)))))),?_⟩
  walk_at "rd"
  refine⟨by lia,fun p hp=>⟨by lia,fun p1 a6=>?_⟩⟩
  have s1:Same H (upd (upd H p (.tup [])) p1 (.lst [V.ref p])):=(Same.new hp).newT a6
  have hp1N:H p1=none:=(Same.new hp).none a6
  have hpp:p1≠p:=(AM a6).2
  have e1:upd (upd H p (.tup [])) p1 (.lst [V.ref p]) p1=some (.lst [V.ref p]):=Ab
  have e0:upd (upd H p (.tup [])) p1 (.lst [V.ref p]) p=some (.tup []):=by rw[Ah (Ne.symm hpp)];exact Ab
  generalize upd (upd H p (.tup [])) p1 (.lst [V.ref p])=H1 at s1 e1 e0 ⊢
  obtain⟨v0,hv0⟩:∃v,ws[0]?=some v:=⟨_,List.getElem?_eq_getElem s!""⟩
  obtain⟨q0,hq0,dY⟩:=hM.2 0 v0 hv0
  have cB:∀v,(rowB n b v).length=n:=fun v=>by unfold rowB;rw[List.length_map,List.length_range]
  refine⟨_,s1.seq hc,_,Ed (by decide) hq0,q0,rfl,_,.inl (SqL.of (s1 _ _ dY)),?_⟩
  rw[List.length_map,cB]
  refine⟨by lia,by lia,fun p2 aS=>?_⟩
  rw[Int.toNat_natCast]
  have hp2N:H p2=none:=s1.none aS
  have hp12:p1≠p2:=Al e1 aS
  have s2:=s1.newT aS (o:=.lst ((ups n).map V.int))
  have kX:upd H1 p2 (.lst ((ups n).map V.int)) p1=some (.lst [V.ref p]):=by rw[Ah hp12];exact e1
  have e02:upd H1 p2 (.lst ((ups n).map V.int)) p=some (.tup []):=by rw[Ah (Al e0 aS)];exact e0
  have e22:upd H1 p2 (.lst ((ups n).map V.int)) p2=some (.lst ((ups n).map V.int)):=Ab
  generalize upd H1 p2 (.lst ((ups n).map V.int))=H2 at s2 kX e02 e22 ⊢
  refine⟨xs,ys,false,s2.seq ha,false,s2.seq hc,?_⟩
  obtain⟨Pv,au⟩:∃Pv:Nat->St->Hp->Prop,∀i ah H',Pv i ah H'↔(∃(zs:List V) (q:Addr) (o5 o6 o7:Option V),Same H H'/\H' p1=some (.lst zs)/\AF K H' zs ([]::ownF b r (ws.take i) (List.range n))/\H q=none/\q≠p1/\H' q=some (.lst (((Iy b r n (ws.take i)).map fun o:Nat=>(o:Int)).map V.int))/\ah=[some (.ref a),some (.ref c),some (.int r),some (.ref p1),some (.ref q),o5,o6,o7]):=⟨_,fun _ _ _=>Iff.rfl⟩
  have bN:=hW.1
  have fe:=hM.1
  refine CH_ ws.length s!"" s!"" (.inl s!"") Pv ((au _ _ _).mpr ⟨_,p2,none,none,none,s2,kX,AF.nil.snoc (w:=[]) e02,hp2N,Ne.symm hp12,e22,rfl⟩) (fun i ah H' _ h'=>?_) (fun i u v ah H' t hi hu hv h' ht=>?_) (fun ah H' h'=>?_)
  ·obtain⟨_,_,_,_,_,s',_⟩:=(au _ _ _).mp h'
   exact⟨s'.seq ha,s'.seq hc⟩
  ·obtain⟨zs,q,o5,o6,o7,s',hz,lT,hqN,hqp,hq,rfl⟩:=(au _ _ _).mp h'
   obtain⟨tw,w0,fL,rfl,kN⟩:=hW.at hu
   obtain⟨qm,hqm,lF⟩:=hM.2 i w0 fL
   rw[hv]at hqm
   cases hqm
   have sT:=s'.newT ht (o:=.tup [V.ref tw,V.ref qm])
   have lU:=Same.new ht (o:=.tup [V.ref tw,V.ref qm])
   have hT:upd H' t (.tup [V.ref tw,V.ref qm]) t=some (.tup [V.ref tw,V.ref qm]):=Ab
   generalize upd H' t (.tup [V.ref tw,V.ref qm])=H3 at sT lU hT ⊢
   have hz3:=lU _ _ hz
   have gO:=lU _ _ hq
   have hWz3:=lT.mono (TK.of lU)
   have hmm3:=sT _ _ lF
   walk_at "rd"
   refine⟨_,SqT.of hT,rfl,?_⟩
   walk_at "rd"
   refine⟨⟨_,SqL.of gO⟩,?_⟩
   have ar:=XB (b:=b) (r:=r) (n:=n) (ws.take i)
   have n6:Iy b r n (ws.take (i+1))=(Iy b r n (ws.take i)).filter fun o=>decide (b w0 o=b w0 r):=by
    unfold Iy
    rw[List.take_add_one,fL,Option.toList_some,List.foldl_append]
    rfl
   have oe:=P8 (b:=b) (r:=r) ws (List.range n) i fL
   rw[show (ws.take i).foldl (fun left v=>left.filter fun o=>decide (b v o=b v r)) (List.range n)=Iy b r n (ws.take i) from rfl,<-n6]at oe
   have hll:=Ww (b:=b) (r:=r) (n:=n) (ws.take i)
   generalize Iy b r n (ws.take i)=left at gO ar n6 oe hll
   have hrow:∀o:Nat,o<n->((rowB n b w0).map V.int)[o]?=some (V.int (b w0 o)):=fun o ho=>by rw[List.getElem?_map,De ho];rfl
   refine QK (xs:=(left.map fun o:Nat=>(o:Int)).map V.int) (fun i' bw aj jU=>jU=H3/\bw=(((left.take i').filter fun o=>decide (b w0 o=b w0 r)).map fun o:Nat=>(o:Int)).map V.int/\∃o,aj=[o,some (.ref qm),some (.int r)]) ⟨rfl,rfl,none,rfl⟩ (by simp only[List.length_map];lia) (fun i' bw aj jU hi' h2=>?_) (fun i' x bw aj jU hx h2=>?_) (fun bw aj jU h2 D hD=>?_)
   ·obtain⟨rfl,rfl,_⟩:=h2
    refine⟨SqL.of gO,?_⟩
    rw[List.length_map,List.length_map]
    exact Nat.le_trans (List.length_filter_le _ _) (by rw[List.length_take];lia)
   ·obtain⟨rfl,rfl,o,rfl⟩:=h2
    rw[List.getElem?_map,List.getElem?_map]at hx
    cases i9:left[i']? with
    |none=>rw[i9]at hx;cases hx
    |some o1=>
     rw[i9]at hx
     cases hx
     have ho1:=ar o1 (List.mem_of_getElem? i9)
     walk_at "rd"
     refine⟨_,SqL.of hmm3,_,Ed s!"" (by rw[Int.toNat_natCast];exact hrow o1 ho1),_,SqL.of hmm3,_,Ed s!"" (by rw[Int.toNat_natCast];exact hrow r bt),?_⟩
     refine⟨rfl,?_⟩
     rw[List.take_add_one,i9,Option.toList_some,List.filter_append]
     by_cases he:b w0 o1=b w0 r
     ·rw[if_pos (by rw[he]),List.filter_cons_of_pos (by simp[he])]
      exact⟨by simp,_,rfl⟩
     ·rw[if_neg (fun z=>he (V.int.inj z)),List.filter_cons_of_neg (by simp[he])]
      exact⟨by simp,_,rfl⟩
   ·obtain⟨rfl,rfl,o,rfl⟩:=h2
    rw[List.length_map,List.length_map,List.take_length,<-n6]
    have sD:=sT.newT hD (o:=.lst (((Iy b r n (ws.take (i+1))).map fun o:Nat=>(o:Int)).map V.int))
    have gZ:=Same.new hD (o:=.lst (((Iy b r n (ws.take (i+1))).map fun o:Nat=>(o:Int)).map V.int))
    have eI:upd jU D (.lst (((Iy b r n (ws.take (i+1))).map fun o:Nat=>(o:Int)).map V.int)) D=some (.lst (((Iy b r n (ws.take (i+1))).map fun o:Nat=>(o:Int)).map V.int)):=Ab
    have hDN:H D=none:=sT.none hD
    have hDp:D≠p1:=Ne.symm (Al hz3 hD)
    generalize upd jU D (.lst (((Iy b r n (ws.take (i+1))).map fun o:Nat=>(o:Int)).map V.int))=H4 at sD gZ eI ⊢
    have kY:=gZ _ _ hz3
    have hq4:=gZ _ _ gO
    have ja:=hWz3.mono (TK.of gZ)
    have dW:=ja.1
    have lE:=N8 (b:=b) (r:=r) (ws.take i) (List.range n) (List.mem_range.mpr bt)
    rw[List.length_range]at lE
    rw[List.length_cons]at dW
    refine⟨fun ah H'=>∃bw,Same H H'/\H' p1=some (.lst bw)/\AF K H' bw ([]::ownF b r (ws.take (i+1)) (List.range n))/\H' D=some (.lst (((Iy b r n (ws.take (i+1))).map fun o:Nat=>(o:Int)).map V.int))/\ah=[some (.ref a),some (.ref c),some (.int r),some (.ref p1),some (.ref q),some (.ref tw),some (.ref qm),some (.ref D)],?_,fun ah H' hR=>?_⟩
    ·walk_at "rd"
     refine⟨_,.inl (SqL.of eI),_,.inl (SqL.of hq4),?_⟩
     rw[oe]
     simp only[List.length_map]
     refine ite2 (fun hlt2=>?_) (fun a9=>?_)
     ·rw[if_pos s!""]
      refine⟨.inl ⟨rfl,_,SqL.of kY⟩,zs,kY,by lia,sD.over hp1N,_,Ab,?_,?_⟩
      ·rw[<-List.cons_append]
       exact (ja.mono (TK.lst kY)).snoc (by rw[Ah (AG_ kY (sD _ _ kN) (by intro z;cases z)).symm];exact sD _ _ kN)
      ·rw[Ah hDp];exact eI
     ·rw[if_neg s!"",List.append_nil]
      exact⟨sD,zs,kY,ja,eI⟩
    ·obtain⟨bw,s5,hz5,fq,og,rfl⟩:=hR
     walk_at "rd"
     exact (au _ _ _).mpr ⟨bw,D,_,_,_,s5,hz5,fq,hDN,hDp,og,rfl⟩
  ·obtain⟨zs,q,o5,o6,o7,s',hz,lT,hqN,hqp,hq,rfl⟩:=(au _ _ _).mp h'
   rw[List.take_length]at lT
   walk_at "rd"
   exact k p1 zs _ s' hp1N hz lT
noncomputable def Zj (K:PySem.W.Frag):Sp:=fun vs H Q _=>∃(h:Addr) (L:Nat) (aa:List Int) (ae:List (List Int)),vs=[.ref h]/\Bz K H h L aa ae/\Wf L aa ae /\
 ∀e H',Same H H'->H e=none->Zf K H' e aa.length (ownW aa.length (bW aa ae) (wcOf aa.length L (bW aa ae)).1)->Q (.ref e) H'
theorem Fy   (F:Fun K "tellers_of_each_room" "tellers_of_each_room" AK f fd)(T:Txt mg)
  (Z:Exs K mg av aq)
   (E9:FnOk P w K mg base CX0 3 Dn Fb ["house"] (Wt K)) (DK:Fun K "tellers" "tellers" DG Dn Fb) (Fc:Bj K Fb ["house"] []) (Fd:mg "tellers"=some (.ref Dn))
   (Ci:FnOk P w K mg base CX0 1 AW Dq ["house","word"] (Zh K)) (A9:Fun K "marks_from_each_room" "marks_from_each_room" AJ AW Dq) (Cj:Bj K Dq ["house","word"] []) (Ck:mg "marks_from_each_room"=some (.ref AW))
   (Fz:FnOk P w K mg base CX0 1 CC Hl ["words","marks_behind","room"] (Zi K)) (Dr:Fun K "own_tellers" "own_tellers" B6 CC Hl) (FA:Bj K Hl ["words","marks_behind","room"] []) (FC:mg "own_tellers"=some (.ref CC))
  : FnOk P w K mg base CX0 4 f fd ["house"] (Zj K):=by
 refine F.ok B7 (fun vs H Q E h=>?_) (fun aB A outer s H vs Q E hr h=>?_)
 ·obtain⟨h,L,aa,ae,rfl,_⟩:=h;rfl
 ·obtain⟨h,L,aa,ae,rfl,hh,wf,k⟩:=h
  have hl:=AA
  have hn:=wf.n40
  have bR:=wf.n1
  refine⟨_,(Ac (CG (i:=1) B7.nd rfl (Or.inr rfl) (Am E9 (hr.mono (by decide)) rfl Fd DK.kp Fc .nil Be (Aa (pvD 0) Ad)))
   (Ac (CG (i:=2) B7.nd rfl (Or.inr rfl) (Cg rfl (Cp rfl) (cp:=CW) ⟨⟨rfl,rfl⟩,True.intro⟩ (Cf (pvD 1)) (fun _ _ _ _=>(Ar (i:=0) Ei rfl (Or.inl rfl))) (fun _ _ _ _=>CD) (fun _ _ _ _=>(Am Ci (hr.mono (by decide)) rfl Ck A9.kp Cj .nil Be (Aa (pvD 1) (Aa (pvD 0) Ad))))))
   (Ag (A0 (Cg rfl (Cp rfl) (cp:=CY) ⟨⟨rfl,rfl⟩,⟨⟨rfl,rfl⟩,True.intro⟩⟩ (BN rfl T.range (Aa (Av (lenD Ak) (by rfl) T.len PySem.boot_len (Aa (Ai (ixTD AI) (pvD 0) Ae) Ad)) Ad)) (fun _ _ _ _=>(Ar (i:=0) Ej rfl (Or.inl rfl))) (fun _ _ _ _=>CD) (fun _ _ _ _=>(Am Fz (hr.mono (by decide)) rfl FC Dr.kp FA .nil Be (Aa (pvD 1) (Aa (pvD 2) (Aa (pvD 0) Ad)))))))))),?_⟩
  walk_at "rd"
  refine⟨h,L,aa,ae,rfl,hh,wf,fun pw xs H1 s1 iS br hW fin=>?_⟩
  generalize ju:wcOf aa.length L (bW aa ae)=st at hW fin k
  have i6:st.1.length<=40:=by
   have h1:=fin.wc.le
   have h2:=MT st.2
   rw[fin.wc.len]at h2
   lia
  have hf1:1<=st.1.length:=by
   have:=(List.getElem?_eq_some_iff.mp fin.wc.w0).1
   lia
  walk_at "rd"
  refine⟨⟨_,SqL.of br⟩,?_⟩
  have bN:=hW.1
  refine QK (xs:=xs) (fun i ys ah H'=>Same H1 H'/\Qb H' aa.length (bW aa ae) (st.1.take i) ys/\∃o,ah=[o,some (.ref h)]) ⟨Same.refl _,⟨rfl,fun i v hv=>by simp at hv⟩,none,rfl⟩ s!"" (fun i ys ah H' hi h'=>⟨SqL.of (h'.1 _ _ br),by rw[h'.2.1.1,List.length_take];lia⟩) (fun i x ys ah H' hx h'=>?_) (fun ys ah H' h' D hD=>?_)
  ·obtain⟨s2,hM,o,rfl⟩:=h'
   obtain⟨t,v,cG,rfl,ht⟩:=hW.at hx
   walk_at "rd"
   refine⟨h,t,L,aa,ae,v,rfl,hh.mono (s1.trans s2),wf,SqT.of (s2 _ _ ht),AU.mpr (fin.wc.ok v (List.mem_of_getElem? cG)),fun p H3 s3 oh hp=>⟨s2.trans s3,?_,_,rfl⟩⟩
   have hM3:=hM.mono s3
   have fe:=hM.1
   rw[List.take_add_one,cG,Option.toList_some]
   refine⟨by rw[List.length_append,List.length_append,fe];rfl,fun j w hw=>?_⟩
   rw[List.length_take]at fe
   have hiL:=(List.getElem?_eq_some_iff.mp cG).1
   by_cases hj:j<ys.length
   ·rw[List.getElem?_append_left (by rw[List.length_take];lia)]at hw
    obtain⟨q,a1,a2⟩:=hM3.2 j w hw
    exact⟨q,by rw[List.getElem?_append_left hj];exact a1,a2⟩
   ·rw[List.getElem?_append_right (by rw[List.length_take];lia)]at hw
    have:j-(st.1.take i).length=0:=by
     have:=(List.getElem?_eq_some_iff.mp hw).1
     simpa using this
    rw[this]at hw
    have hw:v=w:=by simpa using hw
    subst hw
    rw[List.length_take]at this
    exact⟨p,by rw[List.getElem?_append_right s!"",show j-ys.length=0 by lia];rfl,hp⟩
  ·obtain⟨s2,hM,o,rfl⟩:=h'
   rw[bN,List.take_length]at hM
   have sD:=(s1.trans s2).newT hD (o:=.lst ys)
   have gZ:=s2.newT hD (o:=.lst ys)
   have eI:upd H' D (.lst ys) D=some (.lst ys):=Ab
   have cK:=hM.mono (Same.new hD (o:=.lst ys))
   generalize upd H' D (.lst ys)=H3 at sD gZ eI cK ⊢
   obtain⟨m,wv,q1,q2,q3⟩:=hh.mono sD
   walk_at "rd"
   refine⟨_,q1,_,rfl,m,rfl,_,.inr q2,?_⟩
   rw[List.length_map,Int.toNat_natCast]
   refine⟨by lia,by lia,?_⟩
   have hpw3:=gZ _ _ br
   have iI:=hW.mono (TK.of gZ)
   refine Vl (fun i zs ah H'=>Same H3 H'/\zs.length=i/\(∀r,r<i->∃q ys,zs[r]?=some (.ref q)/\H' q=some (.lst ys)/\AF K H' ys (ownW aa.length (bW aa ae) st.1 r))/\∃o,ah=[o,some (.ref pw),some (.ref D)]) ⟨Same.refl _,rfl,fun r hr=>absurd hr (Nat.not_lt_zero _),none,rfl⟩ s!"" (fun i zs ah H' hi h'=>Nat.le_of_eq h'.2.1) (fun i zs ah H' hi h'=>?_) (fun zs ah H' h' D' gY=>?_)
   ·obtain⟨s4,dW,hz,o,rfl⟩:=h'
    walk_at "rd"
    refine⟨pw,D,aa.length,i,bW aa ae,st.1,xs,ys,by rw[Int.zero_add],SqL.of (s4 _ _ hpw3),iI.mono (TK.of s4),SqL.of (s4 _ _ eI),cK.mono s4,hf1,i6,hn,hi,fun p us H5 s5 oh hp hWu=>⟨s4.trans s5,by rw[List.length_append,dW];rfl,fun r hr=>?_,_,rfl⟩⟩
    by_cases fV:r<i
    ·obtain⟨q,ed,b1,b2,b3⟩:=hz r fV
     exact⟨q,by rw[List.getElem?_append_left s!""];exact b1,ed,s5 _ _ b2,b3.mono (TK.of s5)⟩
    ·obtain rfl:r=i:=by lia
     exact⟨p,by rw[List.getElem?_append_right s!"",show r-zs.length=0 by lia];rfl,us,hp,hWu⟩
   ·obtain⟨s4,dW,hz,o,rfl⟩:=h'
    refine k D' _ ((sD.trans s4).newT gY) ((sD.trans s4).none gY) ⟨zs,Ab,fun r hr=>?_⟩
    obtain⟨q,ed,b1,b2,b3⟩:=hz r hr
    exact⟨q,ed,b1,by rw[Ah (Al b2 gY)];exact b2,b3.mono (TK.new gY)⟩
noncomputable def Wx (L:Nat)(aa:List Int)(ae:List (List Int))(m:Nat):List (List Int):=allW (sW L aa ae) (sM L aa ae).length (Gy (L:Int) m) (ownW (sM L aa ae).length (bW (sM L aa ae) (sW L aa ae)) (wcOf (sM L aa ae).length L (bW (sM L aa ae) (sW L aa ae))).1)
noncomputable def Wy (K:PySem.W.Frag):Sp:=fun vs H Q _=>∃(h:Addr) (L m:Nat) (aa:List Int) (ae:List (List Int)),vs=[.ref h,.int m]/\Bz K H h L aa ae/\Wf L aa ae/\m<=3/\many L (m+2)<=341/\LamH K H /\
 ∀D H' os,BV (tabP K "in_order") H H'->LamH K H'->H D=none->H' D=some (.lst (aA.wv os))->WsT H' os->(os.map (·.2)).Perm ((Wx L aa ae m).foldl ins [])->aA.Srt os->Q (.ref D) H'
theorem Ap_   (F:Fun K "slim" "slim" K3 f fd)(T:Txt mg)
  (Z:Exs K mg av aq)
   (Jg:FnOk P w K mg base CX0 5 Fw Iw ["house"] (N5 K)) (GA:Fun K "least" "least" Gm Fw Iw) (Jh:Bj K Iw ["house"] []) (Ji:mg "least"=some (.ref Fw))
   (Cm:FnOk P w K mg base CX0 4 AX Ds ["house"] (Zj K)) (Ba:Fun K "tellers_of_each_room" "tellers_of_each_room" AK AX Ds) (Cn:Bj K Ds ["house"] []) (Co:mg "tellers_of_each_room"=some (.ref AX))
   (C4:FnOk P w K mg base CX0 5 BD Dp ["base","more","ends"] (Rm K)) (B2:Fun K "words_with" "words_with" BY BD Dp) (C5:Bj K Dp ["base","more","ends"] []) (C6:mg "words_with"=some (.ref BD))
  : FnOk P w K mg base CX0 6 f fd ["house","more"] (Wy K):=by
 refine F.ok Wr (fun vs H Q E h=>?_) (fun aB A outer s H vs Q E hr h=>?_)
 ·obtain⟨h,L,m,aa,ae,rfl,_⟩:=h;rfl
 ·obtain⟨h,L,m,aa,ae,rfl,hh,wf,hm,aT,hT,k⟩:=h
  have hl:=AA
  refine⟨_,(Ac (Aj (i:=2) Wr.nd (Am Jg (hr.mono (by decide)) rfl Ji GA.kp Jh .nil Be (Aa (pvD 0) Ad)))
   (Ag (A0 (Am C4 (hr.mono (by decide)) rfl C6 B2.kp C5 .nil Be (Aa (pvD 2) (Aa (pvD 1) (Aa (Am Cm (hr.mono (by decide)) rfl Co Ba.kp Cn .nil Be (Aa (pvD 2) Ad)) Ad))))))),?_⟩
  walk_at "rd"
  have cZ:=sWf wf
  have i8:=sCan wf
  have gi:=cZ.n40
  refine⟨h,L,aa,ae,rfl,hh,wf,fun ps H3 s3 c9=>?_⟩
  unfold Wx at k
  generalize sM L aa ae=ms at cZ i8 c9 gi k
  generalize sW L aa ae=vs at cZ i8 c9 k
  have fin:Fin17 ms.length L (bW ms vs) (wcOf ms.length L (bW ms vs)):=Fin17.mk' cZ.n1 gi
  refine⟨ps,L,ms,vs,rfl,c9,cZ,fun e H4 s4 heN hE=>?_⟩
  have oi:=s3.trans s4
  have dP:=Zg fin.wc
  have i6:(wcOf ms.length L (bW ms vs)).1.length<=40:=by
   have h1:=fin.wc.le
   have h2:=MT (wcOf ms.length L (bW ms vs)).2
   rw[fin.wc.len]at h2
   lia
  refine⟨ps,e,L,m,ms,vs,_,rfl,c9.mono s4,cZ,hm,aT,hE,fun r hr=>⟨?_,fun w hw=>?_⟩,fun r hr=>?_,hT.mono oi,fun D' H9 os sT kW i4 gY dN cm hs=>?_⟩
  ·have:=N8 (b:=bW ms vs) (r:=r) (wcOf ms.length L (bW ms vs)).1 (List.range ms.length) (List.mem_range.mpr hr)
   rw[List.length_range]at this
   unfold ownW
   rw[List.length_cons]
   lia
  ·unfold ownW at hw
   rcases List.mem_cons.mp hw with rfl|hw
   ·simp
   ·obtain⟨j,hj⟩:=List.mem_iff_getElem?.mp (XA hw)
    have h1:=dP j w hj
    have h2:=(List.getElem?_eq_some_iff.mp hj).1
    lia
  ·have h1:=i8.order
   unfold rOf at h1
   rw[h1]
   exact List.mem_map.mpr ⟨r,List.mem_range.mpr hr,rfl⟩
  ·exact k D' H9 os (fun b o hb e=>sT b o hb (oi b o e)) kW (Same.none oi i4) gY dN cm hs
noncomputable def cell (ns:List Int)(k:Nat):Int:=ns.getD k 0
noncomputable def Ll (K:PySem.W.Frag):Sp:=fun vs H Q _=>∃(a:Addr) (ns:List Int) (k:Nat),vs=[.ref a,.int k]/\SqL K H a (ns.map V.int)/\Q (.int (cell ns k)) H
theorem Lm   (F:Fun K "_law_cell_at" "_law_cell_at" A2 f fd)(T:Txt mg)
  (Z:Exs K mg av aq)
  : FnOk P w K mg base CX0 1 f fd ["script","k"] (Ll K):=by
 refine F.ok K4 (fun vs H Q E h=>?_) (fun aB A outer s H vs Q E hr h=>?_)
 ·obtain⟨a,ns,k,rfl,_⟩:=h;rfl
 ·obtain⟨a,ns,k,rfl,hs,q⟩:=h
  refine⟨_,(Ac (DE (ptT (AB (opD0 Mc) (pvD 1) (Av (lenD Ak) (by rfl) T.len PySem.boot_len (Aa (pvD 0) Ad)) (AY _)))
   (Ag (A0 (Ai (ixLD Bw) (pvD 0) (pvD 1))))
   Bg)
   (Ag (A0 Ae))),?_⟩
  walk_at "rd"
  refine⟨_,.inl hs,?_⟩
  rw[List.length_map]
  refine ite2 (fun hk=>?_) (fun hk=>?_)
  ·have gR:k<ns.length:=by simpa using hk
   refine⟨_,hs,V.int (cell ns k),?_,q⟩
   refine Gb ?_
   rw[List.getElem?_map]
   unfold cell
   rw[List.getD_eq_getElem?_getD]
   simp[gR]
  ·have gR:¬ k<ns.length:=by simpa using hk
   have:cell ns k=0:=by
    unfold cell
    rw[List.getD_eq_getElem?_getD,List.getElem?_eq_none s!""];rfl
   rw[<-this]
   exact q
noncomputable def Ky:Sp:=fun vs H Q _=>∃num k m:Int,vs=[.int num,.int k,.int m]/\0<=k/\k<=1000000/\0<m/\∀x,0<=x->x<m->Q (.int x) H
theorem N9   (F:Fun K "_law_mixed" "_law_mixed" BB f fd)(T:Txt mg)
  (Z:Exs K mg av aq)
  : FnOk P w K mg base CX0 1 f fd ["number","k","many"] (Ky):=by
 refine F.ok Fp (fun vs H Q E h=>?_) (fun aB A outer s H vs Q E hr h=>?_)
 ·obtain⟨num,k,m,rfl,_⟩:=h;rfl
 ·obtain⟨num,k,m,rfl,cJ,jF,hm,q⟩:=h
  refine⟨_,(Ac (Aj (i:=3) Fp.nd (As (opD Bu) (As (opD0 B8) (As (opD0 B8) (As (opD0 B8) (As (opD Bu) (pvD 0) Ae) (As (opD Kz) (As (opD Kz) Ae (pvD 1)) (pvD 1))) (As (opD Kz) Ae (pvD 1))) Ae) Ae))
   (Ac (Aj (i:=3) Fp.nd (As (opD Bu) (As (opD Kz) (pvD 3) Ae) Ae))
   (Ag (A0 (As (opD Bu) (As (opD Bu) (As (opD Kz) (pvD 3) (pvD 3)) Ae) (pvD 2)))))),?_⟩
  walk_at "rd"
  refine⟨by decide,.inl ⟨by decide,by decide⟩,.inr ⟨by lia,by lia⟩,.inl ⟨by decide,by decide⟩,by decide,.inr ⟨by decide,by decide⟩,by decide,?_⟩
  generalize (num%2147483647+69621*k*k+40692*k+1)%2147483647*48271=z
  have m0:=Int.emod_nonneg z (show (2147483647:Int)≠0 by decide)
  have m1:=Int.emod_lt_of_pos z (show (0:Int)<2147483647 by decide)
  exact⟨.inl ⟨by lia,by lia⟩,by decide,hm,q _ (Int.emod_nonneg _ s!"") (Int.emod_lt_of_pos _ hm)⟩
noncomputable def M9 (K:PySem.W.Frag):Sp:=fun vs H Q _=>∃(num:Int) (n:Nat),vs=[.int num,.int n]/\1<=n/\n<=40/\∀(t:Addr) (aa:List Int) (H':Hp),Same H H'->SqT K H' t (aa.map V.int)->aa.length=n->(∀m∈aa,0<=m/\m<=1000000000)->Q (.ref t) H'
theorem JS   (F:Fun K "_law_marks_by" "_law_marks_by" Bq f fd)(T:Txt mg)
  (Z:Exs K mg av aq)
   (A5:FnOk P w K mg base CX0 1 A6 BE ["number","k","many"] (Ky)) (AV:Fun K "_law_mixed" "_law_mixed" BB A6 BE) (A7:Bj K BE ["number","k","many"] []) (A8:mg "_law_mixed"=some (.ref A6))
  : FnOk P w K mg base CX0 2 f fd ["number","rooms"] (M9 K):=by
 refine F.ok AS (fun vs H Q E h=>?_) (fun aB A outer s H vs Q E hr h=>?_)
 ·obtain⟨num,n,rfl,_⟩:=h;rfl
 ·obtain⟨num,n,rfl,bR,aP,k⟩:=h
  have hl:=AA
  refine⟨_,(Ac (Aj (i:=2) AS.nd (As (opD Bu) (As (opD0 B8) (pvD 0) Ae) Ae))
   (Ac (Aj (i:=3) AS.nd (As (opD Bu) (As (opD Ga) (pvD 0) Ae) Ae))
   (Ac (Aj (i:=4) AS.nd (B9 Ad))
   (Ac (CH PassesOwn.never rfl (BN rfl T.range (Aa (pvD 1) Ad)) (Ar (i:=5) AS.nd rfl (Or.inl rfl))
   (Ac (Aj (i:=6) AS.nd (pvD 3))
   (DQ (DE (PW.pt (Ju (ptT (AB (opE DW) (As (opD Bu) (pvD 2) Ae) Ae (AY _))) (F9 (ptT (AB (opE DW) (Am A5 (hr.mono (by decide)) rfl A8 AV.kp A7 .nil Be (Aa (pvD 0) (Aa (pvD 5) (Aa Ae Ad)))) Ae (AY _))))))
   (Ag (Aj (i:=6) AS.nd (As (opD0 EU) Ae (pvD 3))))
   Bg)
   (DQ (DE (ptT (AB (opE DW) (pvD 2) Ae (AY _)))
   (Ag (Aj (i:=6) AS.nd (Am A5 (hr.mono (by decide)) rfl A8 AV.kp A7 .nil Be (Aa (pvD 0) (Aa (pvD 5) (Aa Ae Ad))))))
   Bg)
   (DQ (DE (PW.pt (Zr (PW.pt (Ju (ptT (AB (opE DW) (pvD 2) Ae (AY _))) (F9 (ptT (AB (opE DW) (pvD 5) (As (opD Bu) (As (opD Ga) (pvD 0) Ae) (pvD 1)) (AY _)))))) (UI (PW.pt (Ju (ptT (AB (opE DW) (pvD 2) Ae (AY _))) (F9 (ptT (AB (opE DW) (pvD 5) (As (opD0 EU) (pvD 1) Ae) (AY _)))))))))
   (Ag (Aj (i:=6) AS.nd (As (opD Bu) (As (opD0 B8) (pvD 3) Ae) Ae)))
   Bg)
   (DQ (DE (PW.pt (Zr (ptT (AB (opE DW) (pvD 2) Ae (AY _))) (UI (ptT (AB (opE DW) (pvD 2) Ae (AY _))))))
   (Ag (Aj (i:=6) AS.nd (Am A5 (hr.mono (by decide)) rfl A8 AV.kp A7 .nil Be (Aa (pvD 0) (Aa (pvD 5) (Aa Ae Ad))))))
   Bg)
   (Ag (Bv (Fg PySem.F.plainAttrs_list PySem.F.slot_list_append PySem.F.type_list_append Bh (pvD 4) (Aa (pvD 6) Ad))))))))))
   (Ag (A0 (AZ AN rfl T.tuple PyProof.Rows.boot_tuple (Aa (pvD 4) Ad)))))))),?_⟩
  walk_at "rd"
  refine⟨by decide,⟨by decide,by decide⟩,by decide,by lia,fun p hp=>⟨by lia,by lia,?_⟩⟩
  rw[Int.toNat_natCast]
  have kG:=Int.emod_nonneg (num / 8) (show (1000000001:Int)≠0 by decide)
  have lV:=Int.emod_lt_of_pos (num / 8) (show (0:Int)<1000000001 by decide)
  generalize (num+1)%8=jb
  generalize num / 8%1000000001=top at kG lV ⊢
  obtain⟨Pv,au⟩:∃Pv:Nat->St->Hp->Prop,∀i aj H2,Pv i aj H2↔(∃(aa:List Int) (o1 o2:Option V),Same H H2/\H2 p=some (.lst (aa.map V.int))/\aa.length=i/\(∀m∈aa,0<=m/\m<=1000000000)/\aj=[some (.int num),some (.int n),some (.int jb),some (.int top),some (.ref p),o1,o2]):=⟨_,fun _ _ _=>Iff.rfl⟩
  refine forR Pv ((au _ _ _).mpr ⟨[],none,none,Same.new hp,by rw[Ab];rfl,rfl,(fun m hm=>by cases hm),rfl⟩) (fun i aj H2 hi h2=>?_) (fun aj H2 h2=>?_)
  ·obtain⟨aa,o1,o2,s2,aS,ak,bt,rfl⟩:=(au _ _ _).mp h2
   generalize dC:(0:Int)+(i:Nat)=room
   have aK:0<=room:=by lia
   have df:room<=40:=by lia
   obtain⟨R,hR⟩:∃R:St->Hp->Prop,∀aH H3,R aH H3↔(H3=H2/\∃bO:Int,0<=bO/\bO<=1000000000/\aH=[some (.int num),some (.int n),some (.int jb),some (.int top),some (.ref p),some (.int room),some (.int bO)]):=⟨_,fun _ _=>Iff.rfl⟩
   walk_at "rd"
   refine⟨R,?_,fun aH H3 h3=>⟨R,?_,fun bJ H4 h4=>⟨R,?_,fun gq H5 h5=>⟨R,?_,fun fI H6 h6=>?_⟩⟩⟩⟩
   ·walk_at "rd"
    refine⟨by decide,iteB ((hR _ _).mpr ⟨rfl,top,kG,by lia,rfl⟩) (fun _ hB=>⟨num,room,2,rfl,aK,by lia,by decide,fun x _ _=>?_⟩)⟩
    walk_at "rd"
    exact ite2 (fun _=>(hR _ _).mpr ⟨rfl,_,by lia,by lia,rfl⟩) (fun _=>hB)
   ·obtain⟨rfl,bO,dY,gN,rfl⟩:=(hR _ _).mp h3
    walk_at "rd"
    refine ite2 (fun _=>⟨num,room,1000000001,rfl,aK,by lia,by decide,fun x cn cg=>?_⟩) (fun _=>h3)
    walk_at "rd"
    exact (hR _ _).mpr ⟨rfl,x,cn,by lia,rfl⟩
   ·obtain⟨rfl,bO,dY,gN,rfl⟩:=(hR _ _).mp h4
    walk_at "rd"
    have hA:R [some (.int num),some (.int n),some (.int jb),some (.int top),some (.ref p),some (.int room),some (.int ((top+1)%1000000001))] H4:=(hR _ _).mpr ⟨rfl,_,Int.emod_nonneg _ (by decide),by have:=Int.emod_lt_of_pos (top+1) (show (0:Int)<1000000001 by decide);lia,rfl⟩
    have hE:if jb=5 then (if room=(n:Int)-1 then (0:Int)<1000000001/\R [some (.int num),some (.int n),some (.int jb),some (.int top),some (.ref p),some (.int room),some (.int ((top+1)%1000000001))] H4 else R [some (.int num),some (.int n),some (.int jb),some (.int top),some (.ref p),some (.int room),some (.int bO)] H4) else R [some (.int num),some (.int n),some (.int jb),some (.int top),some (.ref p),some (.int room),some (.int bO)] H4:=
     ite2 (fun _=>ite2 (fun _=>⟨by decide,hA⟩) (fun _=>h4)) (fun _=>h4)
    exact ite2 (fun _=>⟨⟨by decide,by decide⟩,by lia,ite2 (fun _=>⟨by decide,hA⟩) (fun _=>hE)⟩) (fun _=>hE)
   ·obtain⟨rfl,bO,dY,gN,rfl⟩:=(hR _ _).mp h5
    walk_at "rd"
    exact ite2 (fun _=>⟨num,room,3,rfl,aK,by lia,by decide,fun x cn cg=>(hR _ _).mpr ⟨rfl,x,cn,by lia,rfl⟩⟩) (fun _=>ite2 (fun _=>⟨num,room,3,rfl,aK,by lia,by decide,fun x cn cg=>(hR _ _).mpr ⟨rfl,x,cn,by lia,rfl⟩⟩) (fun _=>h5))
   ·obtain⟨rfl,bO,dY,gN,rfl⟩:=(hR _ _).mp h6
    walk_at "rd"
    refine⟨.inl ⟨rfl,_,SqL.of aS⟩,_,aS,by rw[List.length_map];lia,(au _ _ _).mpr ⟨aa++[bO],_,_,s2.over hp,by rw[Ab];simp,by simp[ak],fun m hm=>?_,rfl⟩⟩
    rcases List.mem_append.mp hm with hm|hm
    ·exact bt m hm
    ·rw[List.mem_singleton.mp hm];exact⟨dY,gN⟩
  ·obtain⟨aa,o1,o2,s2,aS,ak,bt,rfl⟩:=(au _ _ _).mp h2
   walk_at "rd"
   refine⟨_,.inl ⟨SqL.of aS,fun t ht=>?_⟩⟩
   exact k t aa _ (s2.newT ht) (SqT.of Ab) ak bt
noncomputable def Qc (K:PySem.W.Frag):Sp:=fun vs H Q _=>∃(a:Addr) (ns:List Int) (L:Int) (n:Nat),vs=[.ref a,.int L,.int n]/\SqL K H a (ns.map V.int)/\1<=L/\L<=6/\1<=n/\n<=40/\∀(t:Addr) (ae:List (List Int)) (H':Hp),Same H H'->Rows K H' t ae->ae.length=n->(∀row∈ae,(row.length:Int)=L/\∀x∈row,0<=x/\x<(n:Int))->Q (.ref t) H'
theorem Ln   (F:Fun K "_law_ways_by" "_law_ways_by" BI f fd)(T:Txt mg)
  (Z:Exs K mg av aq)
   (Ao:FnOk P w K mg base CX0 1 Az AR ["script","k"] (Ll K)) (An:Fun K "_law_cell_at" "_law_cell_at" A2 Az AR) (Ap:Bj K AR ["script","k"] []) (Aq:mg "_law_cell_at"=some (.ref Az))
   (A5:FnOk P w K mg base CX0 1 A6 BE ["number","k","many"] (Ky)) (AV:Fun K "_law_mixed" "_law_mixed" BB A6 BE) (A7:Bj K BE ["number","k","many"] []) (A8:mg "_law_mixed"=some (.ref A6))
  : FnOk P w K mg base CX0 2 f fd ["script","letters","rooms"] (Qc K):=by
 refine F.ok AH (fun vs H Q E h=>?_) (fun aB A outer s H vs Q E hr h=>?_)
 ·obtain⟨a,ns,L,n,rfl,_⟩:=h;rfl
 ·obtain⟨a,ns,L,n,rfl,hs,cL,cj,bR,aP,k⟩:=h
  have hl:=AA
  refine⟨_,(Ac (Aj (i:=3) AH.nd (Am Ao (hr.mono (by decide)) rfl Aq An.kp Ap .nil Be (Aa (pvD 0) (Aa Ae Ad))))
   (Ac (Aj (i:=4) AH.nd (B9 Ad))
   (Ac (CH PassesOwn.never rfl (BN rfl T.range (Aa (pvD 2) Ad)) (Ar (i:=5) AH.nd rfl (Or.inl rfl))
   (Ac (Aj (i:=6) AH.nd (B9 Ad))
   (Ac (CH PassesOwn.never rfl (BN rfl T.range (Aa (pvD 1) Ad)) (Ar (i:=7) AH.nd rfl (Or.inl rfl))
   (Ac (Aj (i:=8) AH.nd (As (opD0 B8) (As (opD0 B8) Ae (As (opD Kz) (pvD 5) (pvD 1))) (pvD 7)))
   (Ac (Aj (i:=9) AH.nd (Am A5 (hr.mono (by decide)) rfl A8 AV.kp A7 .nil Be (Aa (pvD 3) (Aa (pvD 8) (Aa (pvD 2) Ad)))))
   (DQ (DE (ptT (AB (opD0 Mc) (pvD 8) (Av (lenD Ak) (by rfl) T.len PySem.boot_len (Aa (pvD 0) Ad)) (AY _)))
   (Ag (Aj (i:=9) AH.nd (As (opD Bu) (Ai (ixLD Bw) (pvD 0) (pvD 8)) (pvD 2))))
   Bg)
   (DQ (DE (PW.pt (Ju (ptT (AB (opE DW) (As (opD Bu) (pvD 3) Ae) Ae (AY _))) (F9 (ptT (AB (opE DW) (pvD 7) (As (opD Bu) (As (opD Ga) (pvD 3) Ae) (pvD 1)) (AY _))))))
   (Ag (Aj (i:=9) AH.nd (As (opD Bu) (As (opD0 B8) (pvD 5) Ae) (pvD 2))))
   Bg)
   (DQ (DE (ptT (AB (opE DW) (As (opD Bu) (pvD 3) Ae) Ae (AY _)))
   (Ag (Aj (i:=9) AH.nd (pvD 5)))
   Bg)
   (DQ (DE (PW.pt (Ju (ptT (AB (opE DW) (As (opD Bu) (pvD 3) Ae) Ae (AY _))) (F9 (ptT (AB (opE DW) (pvD 7) (As (opD Bu) (As (opD Ga) (pvD 3) Ae) (pvD 1)) (AY _))))))
   (Ag (Aj (i:=9) AH.nd (Av (UQ rfl) rfl T.min PyProof.Rows.boot_min (Aa (As (opD0 B8) (pvD 5) Ae) (Aa (As (opD0 EU) (pvD 2) Ae) Ad)))))
   Bg)
   (Ag (Bv (Fg PySem.F.plainAttrs_list PySem.F.slot_list_append PySem.F.type_list_append Bh (pvD 6) (Aa (pvD 9) Ad)))))))))))
   (Ag (Bv (Fg PySem.F.plainAttrs_list PySem.F.slot_list_append PySem.F.type_list_append Bh (pvD 4) (Aa (AZ AN rfl T.tuple PyProof.Rows.boot_tuple (Aa (pvD 6) Ad)) Ad)))))))
   (Ag (A0 (AZ AN rfl T.tuple PyProof.Rows.boot_tuple (Aa (pvD 4) Ad))))))),?_⟩
  walk_at "rd"
  refine⟨a,ns,3,rfl,hs,?_⟩
  walk_at "rd"
  generalize cell ns 3=dD
  refine⟨by lia,fun pw br=>⟨by lia,by lia,?_⟩⟩
  rw[Int.toNat_natCast]
  obtain⟨Pv,au⟩:∃Pv:Nat->St->Hp->Prop,∀i aj H2,Pv i aj H2↔(∃(ae:List (List Int)) (o1 o2 o3 o4 o5:Option V),Same H H2/\DX K H2 pw ae/\ae.length=i/\(∀row∈ae,(row.length:Int)=L/\∀x∈row,0<=x/\x<(n:Int))/\aj=[some (.ref a),some (.int L),some (.int n),some (.int dD),some (.ref pw),o1,o2,o3,o4,o5]):=⟨_,fun _ _ _=>Iff.rfl⟩
  refine forR Pv ((au _ _ _).mpr ⟨[],none,none,none,none,none,Same.new br,DX.nil Ab,rfl,(fun m hm=>by cases hm),rfl⟩) (fun i aj H2 hi h2=>?_) (fun aj H2 h2=>?_)
  ·obtain⟨ae,o1,o2,o3,o4,o5,s2,gT,ak,bt,rfl⟩:=(au _ _ _).mp h2
   generalize dC:(0:Int)+(i:Nat)=room
   have aK:0<=room:=by lia
   have df:room<n:=by lia
   walk_at "rd"
   refine⟨by lia,fun pr eJ=>⟨by lia,by lia,?_⟩⟩
   have jc:H pr=none:=s2.free eJ
   have sA:=s2.newT eJ (o:=.lst [])
   have hwA:=gT.mono (Same.new eJ (o:=.lst []))
   have hrA:upd H2 pr (.lst []) pr=some (.lst (([]:List Int).map V.int)):=Ab
   have aE:pw≠pr:=by
    obtain⟨ts,e,_⟩:=gT
    exact Al e eJ
   generalize upd H2 pr (.lst [])=HA at sA hwA hrA ⊢
   obtain⟨Pr,gA⟩:∃Pv:Nat->St->Hp->Prop,∀j aH H3,Pv j aH H3↔(∃(row:List Int) (o3 o4 o5:Option V),Same H H3/\DX K H3 pw ae/\H3 pr=some (.lst (row.map V.int))/\row.length=j/\(∀x∈row,0<=x/\x<(n:Int))/\aH=[some (.ref a),some (.int L),some (.int n),some (.int dD),some (.ref pw),some (.int room),some (.ref pr),o3,o4,o5]):=⟨_,fun _ _ _=>Iff.rfl⟩
   refine forR Pr ((gA _ _ _).mpr ⟨[],o3,o4,o5,sA,hwA,hrA,rfl,(fun m hm=>by cases hm),rfl⟩) (fun j aH H3 hj h3=>?_) (fun aH H3 h3=>?_)
   ·obtain⟨row,o3,o4,o5,s3,fE,cM,cB,bI,rfl⟩:=(gA _ _ _).mp h3
    generalize hlet:(0:Int)+(j:Nat)=letter
    walk_at "rd"
    have cJ:0<=room*L:=Int.mul_nonneg aK s!""
    have jF:room*L<=40*6:=Int.mul_le_mul s!"" s!"" s!"" s!""
    refine⟨.inl ⟨by lia,by lia⟩,?_⟩
    generalize hkk:6+room*L+letter=kk
    refine⟨dD,kk,n,rfl,by lia,by lia,by lia,fun g0 hg00 hg01=>?_⟩
    obtain⟨R,hR⟩:∃R:St->Hp->Prop,∀bJ H4,R bJ H4↔(H4=H3/\∃g:Int,0<=g/\g<(n:Int)/\bJ=[some (.ref a),some (.int L),some (.int n),some (.int dD),some (.ref pw),some (.int room),some (.ref pr),some (.int letter),some (.int kk),some (.int g)]):=⟨_,fun _ _=>Iff.rfl⟩
    refine⟨R,?_,fun bJ H4 h4=>⟨R,?_,fun gq H5 h5=>⟨R,?_,fun fI H6 h6=>⟨R,?_,fun cP H7 h7=>?_⟩⟩⟩⟩
    ·walk_at "rd"
     refine⟨_,.inl (s3.seq hs),?_⟩
     rw[List.length_map]
     refine ite2 (fun ar=>?_) (fun _=>(hR _ _).mpr ⟨rfl,g0,hg00,hg01,rfl⟩)
     have gR:kk.toNat<ns.length:=by lia
     refine⟨_,s3.seq hs,_,CF s!"" (v:=ns[kk.toNat]) (by simp[gR]),?_⟩
     walk_at "rd"
     exact⟨by lia,(hR _ _).mpr ⟨rfl,_,Int.emod_nonneg _ s!"",Int.emod_lt_of_pos _ s!"",rfl⟩⟩
    ·obtain⟨rfl,g,lW,lX,rfl⟩:=(hR _ _).mp h4
     walk_at "rd"
     exact⟨by decide,ite2 (fun _=>⟨⟨by decide,by decide⟩,by lia,ite2 (fun _=>⟨by lia,(hR _ _).mpr ⟨rfl,_,Int.emod_nonneg _ s!"",Int.emod_lt_of_pos _ s!"",rfl⟩⟩) (fun _=>h4)⟩) (fun _=>h4)⟩
    ·obtain⟨rfl,g,lW,lX,rfl⟩:=(hR _ _).mp h5
     walk_at "rd"
     exact⟨by decide,ite2 (fun _=>(hR _ _).mpr ⟨rfl,room,aK,df,rfl⟩) (fun _=>h5)⟩
    ·obtain⟨rfl,g,lW,lX,rfl⟩:=(hR _ _).mp h6
     walk_at "rd"
     exact⟨by decide,ite2 (fun _=>⟨⟨by decide,by decide⟩,by lia,ite2 (fun _=>(hR _ _).mpr ⟨rfl,_,by split<;>lia,by split<;>lia,rfl⟩) (fun _=>h6)⟩) (fun _=>h6)⟩
    ·obtain⟨rfl,g,lW,lX,rfl⟩:=(hR _ _).mp h7
     walk_at "rd"
     refine⟨.inl ⟨rfl,_,SqL.of cM⟩,_,cM,by rw[List.length_map];lia,(gA _ _ _).mpr ⟨row++[g],_,_,_,s3.over jc,fE.off cM aE,by rw[Ab];simp,by simp[cB],fun x hx=>?_,rfl⟩⟩
     rcases List.mem_append.mp hx with hx|hx
     ·exact bI x hx
     ·rw[List.mem_singleton.mp hx];exact⟨lW,lX⟩
   ·obtain⟨row,o3,o4,o5,s3,fE,cM,cB,bI,rfl⟩:=(gA _ _ _).mp h3
    walk_at "rd"
    obtain⟨ts,e0,_⟩:=id fE
    refine⟨.inl ⟨rfl,_,SqL.of e0⟩,_,.inl ⟨SqL.of cM,fun t ht=>?_⟩⟩
    obtain⟨xs,e1,e2,fT⟩:=(fE.mono (Same.new ht (o:=.tup (row.map V.int)))).push (w:=row) (SqT.of Ab)
    refine⟨xs,e1,by lia,(au _ _ _).mpr ⟨ae++[row],_,_,_,_,_,(s3.newT ht).over br,fT,by simp[ak],fun r hr=>?_,rfl⟩⟩
    rcases List.mem_append.mp hr with hr|hr
    ·exact bt r hr
    ·rw[List.mem_singleton.mp hr];exact⟨by lia,bI⟩
  ·obtain⟨ae,o1,o2,o3,o4,o5,s2,gT,ak,bt,rfl⟩:=(au _ _ _).mp h2
   walk_at "rd"
   obtain⟨xs,e1,bG⟩:=gT.rows
   refine⟨_,.inl ⟨SqL.of e1,fun t ht=>?_⟩⟩
   exact k t ae _ (s2.newT ht) (bG t ht) ak bt
noncomputable def EH (L:Int)(m1:List Int)(w1:List (List Int))(m2:List Int)(w2:List (List Int)):Prop:=∀w,isW L w=true->mkR m1 (AL w1 w)=mkR m2 (AL w2 w)
theorem EH.refl {L:Int}{m:List Int}{w:List (List Int)}:EH L m w m w:=fun _ _=>rfl
theorem EH.symm    (h:EH L m1 w1 m2 w2):EH L m2 w2 m1 w1:=fun w hw=>(h w hw).symm
theorem EH.trans    (h:EH L m1 w1 m2 w2)(g:EH L m2 w2 m3 w3):EH L m1 w1 m3 w3:=fun w hw=>(h w hw).trans (g w hw)
theorem EH.of    (wf:Wf L m1 w1)(φ:Int->Int)(h0:φ 0=0)(hm:∀r:Int,0<=r->r<m1.length->mkR m1 r=mkR m2 (φ r))(hw:∀r x:Int,0<=r->r<m1.length->0<=x->x<L->φ (Bm w1 r x)=Bm w2 (φ r) x):EH L m1 w1 m2 w2:=by
 have n1:=wf.n1
 have key:∀(w:List Int) (r:Int),isW L w=true->0<=r->r<m1.length->mkR m1 (B4 w1 r w)=mkR m2 (B4 w2 (φ r) w):=by
  intro w
  induction w with
  |nil=>exact fun r _ r0 r1=>hm r r0 r1
  |cons x w ih=>
   intro r hx r0 r1
   have cn:=AU.mp hx x List.mem_cons_self
   obtain⟨_,g,_,_,e,g0,g1⟩:=wf.step r0 r1 cn.1 cn.2
   show mkR m1 (B4 w1 (Bm w1 r x) w)=mkR m2 (B4 w2 (Bm w2 (φ r) x) w)
   rw[<-hw r x r0 r1 cn.1 cn.2]
   exact ih _ (AU.mpr fun y hy=>AU.mp hx y (List.mem_cons_of_mem _ hy)) (by rw[e];exact g0) (by rw[e];exact g1)
 intro w nF
 have:=key w 0 nF s!"" s!""
 rw[h0]at this
 exact this
theorem T2     (wf:Wf L aa ae)(h:Ez aa.length o)(h0:ordW o 0=0):EH L (QQ aa.length o aa) (QR aa.length o ae) aa ae:=by
 refine EH.symm (EH.of wf (ordW o) h0 (fun r r0 r1=>?_) (fun r x r0 r1 x0 x1=>(VD wf h r0 r1 x0 x1).symm))
 obtain⟨rn,rfl⟩:∃rn:Nat,r=(rn:Int):=⟨r.toNat,by lia⟩
 have:=Sk h aa (r:=rn) s!""
 unfold mkR
 rw[List.getD_eq_getElem?_getD (l:=QQ aa.length o aa),this,Int.toNat_natCast]
 rfl
noncomputable def Oa (K:PySem.W.Frag):Sp:=fun vs H Q _=>∃(h:Addr) (L:Int) (aa:List Int) (ae:List (List Int)) (num:Int) (n:Nat),vs=[.ref h,.int num,.int n]/\Bz K H h L aa ae/\Wf L aa ae/\n<=40/\∀h' aJ bh H',Same H H'->Bz K H' h' L aJ bh->Wf L aJ bh->aJ.length=max aa.length n->EH L aJ bh aa ae->Q (.ref h') H'
theorem Ob   (F:Fun K "_law_blown" "_law_blown" BZ f fd)(T:Txt mg)
  (Z:Exs K mg av aq)
   (A5:FnOk P w K mg base CX0 1 A6 BE ["number","k","many"] (Ky)) (AV:Fun K "_law_mixed" "_law_mixed" BB A6 BE) (A7:Bj K BE ["number","k","many"] []) (A8:mg "_law_mixed"=some (.ref A6))
  : FnOk P w K mg base CX0 2 f fd ["house","number","rooms"] (Oa K):=by
 refine F.ok Bo (fun vs H Q E h=>?_) (fun aB A outer s H vs Q E hr h=>?_)
 ·obtain⟨h,L,aa,ae,num,n,rfl,_⟩:=h;rfl
 ·obtain⟨h,L,aa,ae,num,n,rfl,hh,wf,aP,k⟩:=h
  have hl:=AA
  have cL:=wf.l1
  have cj:=wf.l6
  have jz:=wf.n1
  have hs40:=wf.n40
  refine⟨_,(Ac (Aj (i:=3) Bo.nd (Av (lenD Ak) (by rfl) T.len PySem.boot_len (Aa (Ai (ixTD AI) (pvD 0) Ae) Ad)))
   (Ac (CG (i:=4) Bo.nd rfl (Or.inr rfl) (II rfl rfl T.list rfl T.range (pvD 3)))
   (Ac (GL PassesOwn.never (ptT (AB (opD0 Mc) (Av (lenD Ak) (by rfl) T.len PySem.boot_len (Aa (pvD 4) Ad)) (pvD 2) (AY _)))
   (Ag (Bv (Fg PySem.F.plainAttrs_list PySem.F.slot_list_append PySem.F.type_list_append Bh (pvD 4) (Aa (Am A5 (hr.mono (by decide)) rfl A8 AV.kp A7 .nil Be (Aa (pvD 1) (Aa (Av (lenD Ak) (by rfl) T.len PySem.boot_len (Aa (pvD 4) Ad)) (Aa (pvD 3) Ad)))) Ad)))))
   (Ac (Aj (i:=5) Bo.nd (B9 Ad))
   (Ac (CH PassesOwn.never rfl (BN rfl T.range (Aa (Av (lenD Ak) (by rfl) T.len PySem.boot_len (Aa (pvD 4) Ad)) Ad)) (Ar (i:=6) Bo.nd rfl (Or.inl rfl))
   (Ac (Aj (i:=7) Bo.nd (B9 Ad))
   (Ac (CH PassesOwn.never rfl (BN rfl T.range (Aa (Ai (ixTD AI) (pvD 0) Ae) Ad)) (Ar (i:=8) Bo.nd rfl (Or.inl rfl))
   (Ac (CG (i:=9) Bo.nd rfl (Or.inr rfl) (Ai (ixTD AI) (Ai (ixTD AI) (Ai (ixTD AI) (pvD 0) Ae) (Ai (ixLD Bw) (pvD 4) (pvD 6))) (pvD 8)))
   (Ac (IE (i:=10) Bo.nd rfl rfl rfl (Cp rfl) (cp:=Hh) ⟨⟨rfl,rfl⟩,⟨⟨rfl,rfl⟩,True.intro⟩⟩ (BN rfl T.range (Aa (Av (lenD Ak) (by rfl) T.len PySem.boot_len (Aa (pvD 4) Ad)) Ad)) (fun _ _ _ _=>(Ar (i:=0) IU rfl (Or.inl rfl))) (fun _ _ _ _=>(Yp (ptT (AB (opE DW) (Ai (ixLD (CM (K:=K) rfl)) (pvD 2) (pvD 0)) (pvD 1) (AY _))))) (fun _ _ _ _=>(pvD 0)))
   (Ag (Bv (Fg PySem.F.plainAttrs_list PySem.F.slot_list_append PySem.F.type_list_append Bh (pvD 7) (Aa (Ai (ixLD Bw) (pvD 10) (Am A5 (hr.mono (by decide)) rfl A8 AV.kp A7 .nil Be (Aa (As (opD0 B8) (pvD 1) Ae) (Aa (As (opD0 B8) (As (opD Kz) (pvD 6) (Ai (ixTD AI) (pvD 0) Ae)) (pvD 8)) (Aa (Av (lenD Ak) (by rfl) T.len PySem.boot_len (Aa (pvD 10) Ad)) Ad))))) Ad)))))))
   (Ag (Bv (Fg PySem.F.plainAttrs_list PySem.F.slot_list_append PySem.F.type_list_append Bh (pvD 5) (Aa (AZ AN rfl T.tuple PyProof.Rows.boot_tuple (Aa (pvD 7) Ad)) Ad)))))))
   (Ag (A0 (Dx (Aa (Ai (ixTD AI) (pvD 0) Ae) (Aa (AZ AN rfl T.tuple PyProof.Rows.boot_tuple (Aa (Cg rfl (Cp rfl) (cp:=Hi) ⟨⟨rfl,rfl⟩,True.intro⟩ (Cf (pvD 4)) (fun _ _ _ _=>(Ar (i:=0) IV rfl (Or.inl rfl))) (fun _ _ _ _=>CD) (fun _ _ _ _=>(Ai (ixTD (CN (K:=K) rfl)) (Ai (ixTD (CN (K:=K) rfl)) (pvD 1) Ae) (pvD 0)))) Ad)) (Aa (AZ AN rfl T.tuple PyProof.Rows.boot_tuple (Aa (pvD 5) Ad)) Ad))))))))))),?_⟩
  walk_at "rd"
  obtain⟨tm,tw,q1,q2,q3⟩:=id hh
  refine⟨_,q1,_,rfl,?_⟩
  walk_at "rd"
  refine⟨_,.inr q2,?_⟩
  rw[List.length_map]
  refine⟨by lia,by lia,fun pf ft=>?_⟩
  rw[Int.toNat_natCast]
  obtain⟨Pw,cE⟩:∃Pv:Nat->St->Hp->Prop,∀m aj H2,Pv m aj H2↔(∃ay:List Int,m=41-ay.length/\Same H H2/\H2 pf=some (.lst (ay.map V.int))/\aa.length<=ay.length/\ay.length<=40/\ay.length<=max aa.length n/\(∀x∈ay,0<=x/\x<(aa.length:Int))/\(∀g:Nat,g<aa.length->ay[g]?=some (g:Int))/\aj=[some (.ref h),some (.int num),some (.int n),some (.int aa.length),some (.ref pf),none,none,none,none,none,none]):=⟨_,fun _ _ _=>Iff.rfl⟩
  refine MN Pw ⟨_,(cE _ _ _).mpr ⟨ups aa.length,rfl,Same.new ft,by rw[Ab],by simp[ups],by simp[ups];lia,by simp[ups];lia,fun x hx=>?_,fun g hg=>?_,rfl⟩⟩ ?_
  ·obtain⟨i,hi,rfl⟩:=List.mem_map.mp hx
   have:=List.mem_range.mp hi
   lia
  ·unfold ups
   rw[List.getElem?_map,List.getElem?_range hg];rfl
  intro m aj H2 br
  obtain⟨ay,rfl,s2,jd,jM,hf40,hfm,gQ,om,rfl⟩:=(cE _ _ _).mp br
  walk_at "rd"
  refine⟨_,.inl (SqL.of jd),?_⟩
  rw[List.length_map]
  refine ite2 (fun ar=>?_) (fun a9=>?_)
  ·refine⟨Pw (41-(ay.length+1)),fun ah H' h=>⟨_,by lia,h⟩,?_⟩
   refine⟨.inl ⟨rfl,_,SqL.of jd⟩,_,.inl (SqL.of jd),?_⟩
   rw[List.length_map]
   refine⟨num,_,aa.length,rfl,by lia,by lia,by lia,fun x cn cg=>?_⟩
   walk_at "rd"
   refine⟨_,jd,by rw[List.length_map];lia,(cE _ _ _).mpr ⟨ay++[x],by simp,s2.over ft,by rw[Ab];simp,by simp;lia,by simp;lia,by simp;lia,fun y hy=>?_,fun g hg=>?_,rfl⟩⟩
   ·rcases List.mem_append.mp hy with hy|hy
    ·exact gQ y hy
    ·rw[List.mem_singleton.mp hy];exact⟨cn,cg⟩
   ·rw[List.getElem?_append_left s!""];exact om g hg
  ·clear br cE Pw
   refine⟨by lia,fun pw br=>⟨_,.inl (SqL.of (Same.new br _ _ jd)),?_⟩⟩
   rw[List.length_map]
   refine⟨by lia,by lia,?_⟩
   rw[Int.toNat_natCast]
   have hpwn:H pw=none:=s2.free br
   have hnefw:pf≠pw:=Al jd br
   have sB:=s2.newT br (o:=.lst [])
   have hfB:=Same.new br (o:=.lst []) _ _ jd
   have hwB:upd H2 pw (.lst []) pw=some (.lst []):=Ab
   generalize upd H2 pw (.lst [])=HB at sB hfB hwB ⊢
   obtain⟨Pv,au⟩:∃Pv:Nat->St->Hp->Prop,∀i aH H3,Pv i aH H3↔(∃(ws:List (List Int)) (o6 o7 o8 o9 je:Option V),Same H H3/\H3 pf=some (.lst (ay.map V.int))/\DX K H3 pw ws/\ws.length=i/\(∀row∈ws,(row.length:Int)=L/\∀x∈row,0<=x/\x<(ay.length:Int))/\(∀(r:Nat) (row:List Int),ws[r]?=some row->∀(x:Nat) (t:Int),row[x]?=some t->ay.getD t.toNat 0=Bm ae (ay.getD r 0) x)/\aH=[some (.ref h),some (.int num),some (.int n),some (.int aa.length),some (.ref pf),some (.ref pw),o6,o7,o8,o9,je]):=⟨_,fun _ _ _=>Iff.rfl⟩
   refine forR Pv ((au _ _ _).mpr ⟨[],none,none,none,none,none,sB,hfB,DX.nil hwB,rfl,(fun r hr=>by cases hr),(fun r row hr=>by simp at hr),rfl⟩) (fun i aH H3 hi h3=>?_) (fun aH H3 h3=>?_)
   ·obtain⟨ws,o6,o7,o8,o9,je,s3,kZ,fE,dP,gW,oo,rfl⟩:=(au _ _ _).mp h3
    generalize dC:(0:Int)+(i:Nat)=room
    have aK:0<=room:=by lia
    have df:room<ay.length:=by lia
    walk_at "rd"
    refine⟨by lia,fun pr eJ=>⟨_,(s3.newT eJ).seqT q1,_,rfl,?_⟩⟩
    walk_at "rd"
    refine⟨by lia,by lia,?_⟩
    have jc:H pr=none:=s3.free eJ
    have cy:pw≠pr:=by
     obtain⟨ts,e,_⟩:=id fE
     exact Al e eJ
    have hnef:pf≠pr:=Al kZ eJ
    have sC:=s3.newT eJ (o:=.lst [])
    have hfC:=Same.new eJ (o:=.lst []) _ _ kZ
    have hwC:=fE.mono (Same.new eJ (o:=.lst []))
    have hrC:upd H3 pr (.lst []) pr=some (.lst (([]:List Int).map V.int)):=Ab
    generalize upd H3 pr (.lst [])=HC at sC hfC hwC hrC ⊢
    obtain⟨Pr,gA⟩:∃Pv:Nat->St->Hp->Prop,∀j bJ H4,Pv j bJ H4↔(∃(row:List Int) (o8 o9 je:Option V),Same H H4/\H4 pf=some (.lst (ay.map V.int))/\DX K H4 pw ws/\H4 pr=some (.lst (row.map V.int))/\row.length=j/\(∀x∈row,0<=x/\x<(ay.length:Int))/\(∀(x:Nat) (t:Int),row[x]?=some t->ay.getD t.toNat 0=Bm ae (ay.getD i 0) x)/\bJ=[some (.ref h),some (.int num),some (.int n),some (.int aa.length),some (.ref pf),some (.ref pw),some (.int room),some (.ref pr),o8,o9,je]):=⟨_,fun _ _ _=>Iff.rfl⟩
    refine forR Pr ((gA _ _ _).mpr ⟨[],_,_,_,sC,hfC,hwC,hrC,rfl,(fun r hr=>by cases hr),(fun x t hx=>by simp at hx),rfl⟩) (fun j bJ H4 hj h4=>?_) (fun bJ H4 h4=>?_)
    ·obtain⟨row,o8,o9,je,s4,cN,fT,k9,cB,bI,lA,rfl⟩:=(gA _ _ _).mp h4
     generalize hlet:(0:Int)+(j:Nat)=letter
     obtain⟨fr,jf⟩:∃fr,ay[room.toNat]?=some fr:=⟨ay[room.toNat]'s!"",by simp[show room.toNat<ay.length by lia]⟩
     have jg:=gQ fr (List.mem_of_getElem? jf)
     obtain⟨row0,g,r1,r2,r3,r4,r5⟩:=wf.step (x:=letter) jg.1 jg.2 s!"" s!""
     obtain⟨xs,t,z1,z2,z3⟩:=q3.atZ jg.1 r1
     walk_at "rd"
     refine⟨_,s4.seqT q1,_,rfl,?_⟩
     walk_at "rd"
     refine⟨_,SqL.of cN,_,CF aK jf,?_⟩
     walk_at "rd"
     refine⟨_,s4.seqT z1,_,z2,?_⟩
     walk_at "rd"
     refine⟨_,s4.seqT z3,_,CF s!"" r2,?_⟩
     walk_at "rd"
     refine⟨_,.inl (SqL.of cN),?_⟩
     rw[List.length_map]
     refine⟨by lia,by lia,?_⟩
     rw[Int.toNat_natCast]
     obtain⟨Pc,eF⟩:∃Pc:Nat->List V->St->Hp->Prop,∀c ys gq H5,Pc c ys gq H5↔(H5=H4/\∃(aI:List Int) (o:Option V),ys=aI.map V.int/\aI.length<=c/\(∀x∈aI,0<=x/\x<(ay.length:Int)/\ay.getD x.toNat 0=g)/\(g.toNat<c->aI ≠ [])/\gq=[o,some (.int g),some (.ref pf)]):=⟨_,fun _ _ _ _=>Iff.rfl⟩
     refine Vl Pc ((eF _ _ _ _).mpr ⟨rfl,[],none,rfl,Nat.le_refl _,(fun x hx=>by cases hx),(fun z=>absurd z (Nat.not_lt_zero _)),rfl⟩) s!"" (fun c ys gq H5 _ h5=>?_) (fun c ys gq H5 hc h5=>?_) (fun ys gq H5 h5 D hD=>?_)
     ·obtain⟨_,aI,o,rfl,ak,_⟩:=(eF _ _ _ _).mp h5
      rw[List.length_map];exact ak
     ·obtain⟨rfl,aI,o,rfl,ak,jV,kr,rfl⟩:=(eF _ _ _ _).mp h5
      obtain⟨fv,oq⟩:∃fv,ay[c]?=some fv:=⟨ay[c]'hc,by simp[hc]⟩
      have ec:(0:Int)+(c:Nat)=(c:Int):=by lia
      rw[ec]
      walk_at "rd"
      refine⟨_,SqL.of cN,_,CF s!"" (by rw[Int.toNat_natCast];exact oq),?_⟩
      walk_at "rd"
      refine ite2 (fun he=>?_) (fun aE=>?_)
      ·refine (eF _ _ _ _).mpr ⟨rfl,aI++[(c:Int)],_,by simp,by simp;lia,fun x hx=>?_,(fun _ z=>by simp at z),rfl⟩
       rcases List.mem_append.mp hx with hx|hx
       ·exact jV x hx
       ·rw[List.mem_singleton.mp hx]
        refine⟨by lia,by lia,?_⟩
        rw[Int.toNat_natCast,List.getD_eq_getElem?_getD,oq]
        exact he
      ·refine (eF _ _ _ _).mpr ⟨rfl,aI,_,rfl,by lia,jV,fun hlt'=>?_,rfl⟩
       by_cases hgc:g.toNat=c
       ·exfalso
        have:=om c s!""
        rw[oq]at this
        have e2:=Option.some.inj this
        apply aE
        lia
       ·exact kr s!""
     ·obtain⟨rfl,aI,o,rfl,ak,jV,kr,rfl⟩:=(eF _ _ _ _).mp h5
      have aE:aI ≠ []:=kr s!""
      have iA:0<aI.length:=List.length_pos_iff.mpr aE
      have sD:=Same.new hD (o:=.lst (aI.map V.int))
      have hmul0:0<=room*L:=Int.mul_nonneg aK s!""
      have hmul1:room*L<=40*6:=Int.mul_le_mul s!"" s!"" s!"" s!""
      refine⟨.inl ⟨rfl,_,SqL.of (sD _ _ k9)⟩,_,(s4.trans sD).seqT q1,_,rfl,L,rfl,.inl ⟨by lia,by lia⟩,D,rfl,_,.inl (SqL.of Ab),?_⟩
      rw[List.length_map]
      refine⟨_,_,_,rfl,by lia,by lia,by lia,fun x cn cg=>?_⟩
      have i5:x.toNat<aI.length:=by lia
      refine⟨D,rfl,_,x,rfl,SqL.of Ab,_,CF cn (v:=aI[x.toNat]) (by simp[i5]),_,sD _ _ k9,by rw[List.length_map];lia,(gA _ _ _).mpr ⟨row++[aI[x.toNat]],_,_,_,(s4.trans sD).over jc,?_,(fT.mono sD).off (sD _ _ k9) cy,by rw[Ab];simp,by simp[cB],fun y hy=>?_,fun y t hy=>?_,rfl⟩⟩
      ·rw[Ah hnef];exact sD _ _ cN
      ·rcases List.mem_append.mp hy with hy|hy
       ·exact bI y hy
       ·rw[List.mem_singleton.mp hy];exact⟨(jV _ (List.getElem_mem i5)).1,(jV _ (List.getElem_mem i5)).2.1⟩
      ·by_cases fe:y<row.length
       ·rw[List.getElem?_append_left fe]at hy
        exact lA y t hy
       ·rw[List.getElem?_append_right s!""]at hy
        have h0:y-row.length=0:=by
         have:=(List.getElem?_eq_some_iff.mp hy).1
         simpa using this
        rw[h0]at hy
        have hy:aI[x.toNat]=t:=by simpa using hy
        rw[<-hy,(jV _ (List.getElem_mem i5)).2.2]
        have e5:ay.getD i 0=fr:=by
         rw[List.getD_eq_getElem?_getD,show i=room.toNat by lia,jf];rfl
        rw[e5,<-r3]
        congr 1
        lia
    ·obtain⟨row,o8,o9,je,s4,cN,fT,k9,cB,bI,lA,rfl⟩:=(gA _ _ _).mp h4
     walk_at "rd"
     obtain⟨ts,e0,_⟩:=id fT
     refine⟨.inl ⟨rfl,_,SqL.of e0⟩,_,.inl ⟨SqL.of k9,fun t ht=>?_⟩⟩
     obtain⟨xs,e1,e2,iO⟩:=(fT.mono (Same.new ht (o:=.tup (row.map V.int)))).push (w:=row) (SqT.of Ab)
     refine⟨xs,e1,by lia,(au _ _ _).mpr ⟨ws++[row],_,_,_,_,_,(s4.newT ht).over hpwn,?_,iO,by simp[dP],fun r hr=>?_,fun r rw0 hr=>?_,rfl⟩⟩
     ·rw[Ah hnefw];exact Same.new ht _ _ cN
     ·rcases List.mem_append.mp hr with hr|hr
      ·exact gW r hr
      ·rw[List.mem_singleton.mp hr];exact⟨by lia,bI⟩
     ·by_cases hrl2:r<ws.length
      ·rw[List.getElem?_append_left hrl2]at hr
       exact oo r rw0 hr
      ·rw[List.getElem?_append_right s!""]at hr
       have h0:r-ws.length=0:=by
        have:=(List.getElem?_eq_some_iff.mp hr).1
        simpa using this
       rw[h0]at hr
       have hr:row=rw0:=by simpa using hr
       subst hr
       rw[show r=i by lia]
       exact lA
   ·obtain⟨ws,o6,o7,o8,o9,je,s3,kZ,fE,dP,gW,oo,rfl⟩:=(au _ _ _).mp h3
    walk_at "rd"
    refine⟨_,s3.seqT q1,_,rfl,⟨_,SqL.of kZ⟩,HW (ah:=[some (.ref h)]) (fun x=>match x with | .int n=>.int (mkW aa n)|_=>.non) rfl (SqL.of kZ) (by rw[List.length_map];lia) (fun x hx R hR=>?_) (fun Dm hDm=>?_)⟩
    ·obtain⟨y,hy,rfl⟩:=EA hx
     have bC:=gQ y hy
     walk_at "rd"
     refine⟨_,s3.seqT q1,_,rfl,?_⟩
     walk_at "rd"
     exact⟨_,s3.seqT q2,_,BL_ bC.1 bC.2,hR⟩
    have em:(ay.map V.int).map (fun x=>match x with | .int n=>.int (mkW aa n)|_=>.non)=(ay.map (mkW aa)).map V.int:=by rw[List.map_map,List.map_map];rfl
    rw[em]
    refine⟨Dm,rfl,_,.inl ⟨SqL.of Ab,fun t1 lV=>?_⟩⟩
    obtain⟨xs,cg,bG⟩:=(fE.mono ((Same.new hDm (o:=.lst ((ay.map (mkW aa)).map V.int))).newT lV (o:=.tup ((ay.map (mkW aa)).map V.int)))).rows
    refine⟨xs,.inl ⟨SqL.of cg,fun t2 la=>⟨by lia,fun h9 lb=>?_⟩⟩⟩
    refine k h9 (ay.map (mkW aa)) ws _ ((((s3.newT hDm).newT lV).newT la).newT lb) ⟨t1,t2,SqT.of Ab,((Same.new la).newT lb).seqT (SqT.of Ab),(bG t2 la).mono (Same.new lb)⟩ ⟨cL,cj,by rw[List.length_map];lia,by rw[List.length_map];lia,by rw[List.length_map];lia,fun row hr=>by rw[List.length_map];exact gW row hr,fun m hm=>?_⟩ (by rw[List.length_map];lia) ?_
    ·obtain⟨y,hy,rfl⟩:=List.mem_map.mp hm
     have bC:=gQ y hy
     exact wf.mks _ (YO bC.1 bC.2)
    ·have wfB:Wf L (ay.map (mkW aa)) ws:=⟨cL,cj,by rw[List.length_map];lia,by rw[List.length_map];lia,by rw[List.length_map];lia,fun row hr=>by rw[List.length_map];exact gW row hr,fun m hm=>by
      obtain⟨y,hy,rfl⟩:=List.mem_map.mp hm
      have bC:=gQ y hy
      exact wf.mks _ (YO bC.1 bC.2)⟩
     refine EH.of wfB (fun r=>ay.getD r.toNat 0) ?_ (fun r r0 r1=>?_) (fun r x r0 r1 x0 x1=>?_)
     ·show ay.getD 0 0=0
      rw[List.getD_eq_getElem?_getD,om 0 s!""];rfl
     ·rw[List.length_map]at r1
      unfold mkR
      rw[List.getD_eq_getElem?_getD,List.getElem?_map,List.getElem?_eq_getElem s!"",List.getD_eq_getElem?_getD (l:=ay),List.getElem?_eq_getElem s!""]
      rfl
     ·obtain⟨row,g,a1,a2,a3,a4,a5⟩:=wfB.step r0 r1 x0 x1
      have:=oo r.toNat row a1 x.toNat g a2
      rw[a3]
      show ay.getD g.toNat 0=Bm ae (ay.getD r.toNat 0) x
      rw[this,Int.toNat_of_nonneg x0]
noncomputable def Na (K:PySem.W.Frag):Sp:=fun vs H Q _=>∃(a:Addr) (ns:List Int),vs=[.ref a]/\SqL K H a (ns.map V.int)/\∀h L aa ae H',Same H H'->Bz K H' h L aa ae->Wf L aa ae->aa.length<=15->Q (.ref h) H'
theorem JT   (F:Fun K "_law_house_by" "_law_house_by" Br f fd)(T:Txt mg)
  (Z:Exs K mg av aq)
   (Ao:FnOk P w K mg base CX0 1 Az AR ["script","k"] (Ll K)) (An:Fun K "_law_cell_at" "_law_cell_at" A2 Az AR) (Ap:Bj K AR ["script","k"] []) (Aq:mg "_law_cell_at"=some (.ref Az))
   (Em:FnOk P w K mg base CX0 2 BR F1 ["number","rooms"] (M9 K)) (Cv:Fun K "_law_marks_by" "_law_marks_by" Bq BR F1) (Eo:Bj K F1 ["number","rooms"] []) (Ep:mg "_law_marks_by"=some (.ref BR))
   (EI:FnOk P w K mg base CX0 2 Cc GC ["script","letters","rooms"] (Qc K)) (CJ:Fun K "_law_ways_by" "_law_ways_by" BI Cc GC) (EJ:Bj K GC ["script","letters","rooms"] []) (EK:mg "_law_ways_by"=some (.ref Cc))
   (C7:FnOk P w K mg base CX0 2 BF Dt ["house","number","rooms"] (Oa K)) (B3:Fun K "_law_blown" "_law_blown" BZ BF Dt) (C8:Bj K Dt ["house","number","rooms"] []) (C9:mg "_law_blown"=some (.ref BF))
  : FnOk P w K mg base CX0 3 f fd ["script"] (Na K):=by
 refine F.ok A4 (fun vs H Q E h=>?_) (fun aB A outer s H vs Q E hr h=>?_)
 ·obtain⟨a,ns,rfl,_⟩:=h;rfl
 ·obtain⟨a,ns,rfl,hs,k⟩:=h
  have hl:=AA
  refine⟨_,(Ac (Aj (i:=1) A4.nd (As (opD0 B8) Ae (As (opD Bu) (As (opD0 B8) (Am Ao (hr.mono (by decide)) rfl Aq An.kp Ap .nil Be (Aa (pvD 0) (Aa Ae Ad))) Ae) Ae)))
   (Ac (Aj (i:=2) A4.nd (As (opD0 B8) Ae (As (opD Bu) (As (opD0 B8) (Am Ao (hr.mono (by decide)) rfl Aq An.kp Ap .nil Be (Aa (pvD 0) (Aa Ae Ad))) Ae) Ae)))
   (DQ (DE (PW.pt (Ju (ptT (AB (opE DW) (As (opD Bu) (As (opD Ga) (Am Ao (hr.mono (by decide)) rfl Aq An.kp Ap .nil Be (Aa (pvD 0) (Aa Ae Ad))) Ae) Ae) Ae (AY _))) (F9 (ptT (AB (opD0 Mc) (pvD 1) Ae (AY _))))))
   (Ag (Aj (i:=2) A4.nd (As (opD0 B8) Ae (As (opD Bu) (As (opD Ga) (Am Ao (hr.mono (by decide)) rfl Aq An.kp Ap .nil Be (Aa (pvD 0) (Aa Ae Ad))) Ae) Ae))))
   Bg)
   (Ac (Aj (i:=3) A4.nd (Am Em (hr.mono (by decide)) rfl Ep Cv.kp Eo .nil Be (Aa (Am Ao (hr.mono (by decide)) rfl Aq An.kp Ap .nil Be (Aa (pvD 0) (Aa Ae Ad))) (Aa (pvD 2) Ad))))
   (Ac (Aj (i:=4) A4.nd (Dx (Aa (pvD 1) (Aa (pvD 3) (Aa (Am EI (hr.mono (by decide)) rfl EK CJ.kp EJ .nil Be (Aa (pvD 0) (Aa (pvD 1) (Aa (pvD 2) Ad)))) Ad)))))
   (Ac (Aj (i:=5) A4.nd (Am Ao (hr.mono (by decide)) rfl Aq An.kp Ap .nil Be (Aa (pvD 0) (Aa Ae Ad))))
   (DQ (DE (ptT (AB (opE DW) (As (opD Bu) (pvD 5) Ae) Ae (AY _)))
   (Ag (Aj (i:=4) A4.nd (Am C7 (hr.mono (by decide)) rfl C9 B3.kp C8 .nil Be (Aa (pvD 4) (Aa (pvD 5) (Aa (As (opD0 B8) (As (opD0 B8) (pvD 2) Ae) (As (opD Bu) (As (opD Ga) (pvD 5) Ae) Ae)) Ad))))))
   Bg)
   (Ag (A0 (pvD 4)))))))))),?_⟩
  walk_at "rd"
  refine⟨a,ns,0,rfl,hs,?_⟩
  walk_at "rd"
  refine⟨by decide,a,ns,1,rfl,hs,?_⟩
  walk_at "rd"
  have cL:1<=1+(cell ns 0+1)%6:=by lia
  have cj:1+(cell ns 0+1)%6<=6:=by lia
  generalize 1+(cell ns 0+1)%6=L at cL cj ⊢
  obtain⟨R,hR⟩:∃R:St->Hp->Prop,∀ah H',R ah H'↔(H'=H/\∃n:Nat,1<=n/\n<=12/\ah=[some (.ref a),some (.int L),some (.int n),none,none,none]):=⟨_,fun _ _=>Iff.rfl⟩
  refine⟨by decide,R,?_,?_⟩
  ·walk_at "rd"
   refine⟨a,ns,1,rfl,hs,?_⟩
   walk_at "rd"
   refine⟨⟨by decide,by decide⟩,by decide,?_⟩
   have hb:R [some (V.ref a),some (V.int L),some (V.int (1+(cell ns 1+3)%5)),none,none,none] H:=(hR _ _).mpr ⟨rfl,(1+(cell ns 1+3)%5).toNat,by lia,by lia,by rw[show (((1+(cell ns 1+3)%5).toNat:Nat):Int)=1+(cell ns 1+3)%5 by lia]⟩
   refine ite2 (fun _=>ite2 (fun _=>?_) (fun _=>hb)) (fun _=>hb)
   refine⟨a,ns,1,rfl,hs,_,rfl,⟨by decide,by decide⟩,by decide,(hR _ _).mpr ⟨rfl,(1+cell ns 1 / 80%12).toNat,by lia,by lia,?_⟩⟩
   rw[show (((1+cell ns 1 / 80%12).toNat:Nat):Int)=1+cell ns 1 / 80%12 by lia]
  ·intro ah H' h'
   obtain⟨rfl,n,bR,hn12,rfl⟩:=(hR _ _).mp h'
   have aP:n<=40:=by lia
   walk_at "rd"
   refine⟨a,ns,2,rfl,hs,?_⟩
   walk_at "rd"
   refine⟨_,n,rfl,bR,aP,fun tm aa H1 s1 jQ nr hmr=>?_⟩
   walk_at "rd"
   refine⟨a,ns,L,n,rfl,s1.seq hs,cL,cj,bR,aP,fun tw ae H2 s2 bG dP gW=>?_⟩
   walk_at "rd"
   refine⟨by lia,fun h hh=>?_⟩
   have wf:Wf L aa ae:=⟨cL,cj,by lia,by lia,by lia,fun row hr=>by rw[nr];exact gW row hr,hmr⟩
   have c9:=(s1.trans s2).newT hh (o:=.tup [V.int L,V.ref tm,V.ref tw])
   have jh:Bz K (upd H2 h (.tup [V.int L,V.ref tm,V.ref tw])) h L aa ae:=⟨tm,tw,SqT.of Ab,(s2.newT hh).seqT jQ,bG.mono (Same.new hh)⟩
   generalize upd H2 h (.tup [V.int L,V.ref tm,V.ref tw])=H3 at c9 jh ⊢
   refine⟨a,ns,4,rfl,c9.seq hs,?_⟩
   walk_at "rd"
   obtain⟨R2,ot⟩:∃R:St->Hp->Prop,∀bJ H4,R bJ H4↔(∃(h:Addr) (aa:List Int) (ae:List (List Int)) (o1 o2 o3:Option V),Same H' H4/\Bz K H4 h L aa ae/\Wf L aa ae/\aa.length<=15/\bJ=[some (.ref a),some (.int L),o1,o2,some (.ref h),o3]):=⟨_,fun _ _=>Iff.rfl⟩
   refine⟨R2,?_,?_⟩
   ·walk_at "rd"
    refine⟨by decide,ite2 (fun _=>⟨⟨by decide,by decide⟩,by decide,?_⟩) (fun _=>(ot _ _).mpr ⟨h,aa,ae,_,_,_,c9,jh,wf,by lia,rfl⟩)⟩
    have cn:=Int.emod_nonneg (cell ns 4 / 3) (show (3:Int)≠0 by decide)
    have cg:=Int.emod_lt_of_pos (cell ns 4 / 3) (show (0:Int)<3 by decide)
    obtain⟨m,hm,hm40⟩:∃m:Nat,(n:Int)+1+cell ns 4 / 3%3=(m:Int)/\m<=15:=⟨((n:Int)+1+cell ns 4 / 3%3).toNat,by lia,by lia⟩
    rw[hm]
    refine⟨h,L,aa,ae,_,m,rfl,jh,wf,by lia,fun h' aJ bh H4 s4 hh' wf' hml' _=>?_⟩
    exact (ot _ _).mpr ⟨h',aJ,bh,_,_,_,c9.trans s4,hh',wf',by rw[hml'];lia,rfl⟩
   ·intro bJ H4 h4
    obtain⟨h,aa,ae,o1,o2,o3,s4,lY,lZ,hm15,rfl⟩:=(ot _ _).mp h4
    walk_at "rd"
    exact k h L aa ae H4 s4 lY lZ hm15
noncomputable def Lo (K:PySem.W.Frag):Sp:=fun vs H Q _=>∃(h:Addr) (L:Int) (aa:List Int) (ae:List (List Int)) (num:Int),vs=[.ref h,.int num]/\Bz K H h L aa ae/\Wf L aa ae/\∀h' aJ bh H',Same H H'->Bz K H' h' L aJ bh->Wf L aJ bh->aJ.length=aa.length->EH L aJ bh aa ae->Q (.ref h') H'
theorem Jj   (F:Fun K "_law_turned_by" "_law_turned_by" Bk f fd)(T:Txt mg)
  (Z:Exs K mg av aq)
  : FnOk P w K mg base CX0 1 f fd ["house","number"] (Lo K):=by
 refine F.ok Bp (fun vs H Q E h=>?_) (fun aB A outer s H vs Q E hr h=>?_)
 ·obtain⟨h,L,aa,ae,num,rfl,_⟩:=h;rfl
 ·obtain⟨h,L,aa,ae,num,rfl,hh,wf,k⟩:=h
  have hl:=AA
  have bR:=wf.n1
  have aP:=wf.n40
  obtain⟨tm,tw,q1,q2,q3⟩:=id hh
  refine⟨_,(Ac (CG (i:=2) Bp.nd rfl (Or.inr rfl) (Av (lenD Ak) (by rfl) T.len PySem.boot_len (Aa (Ai (ixTD AI) (pvD 0) Ae) Ad)))
   (Ac (DE (ptT (AB (opE DW) (pvD 2) Ae (AY _)))
   (Ag (A0 (pvD 0)))
   Bg)
   (DQ (CG (i:=3) Bp.nd rfl (Or.inr rfl) (As Bh_ (B9 (Aa Ae Ad)) (Cg rfl (Cp rfl) (cp:=ED) ⟨⟨rfl,rfl⟩,⟨⟨rfl,rfl⟩,True.intro⟩⟩ (BN rfl T.range (Aa (As (opD0 EU) (pvD 2) Ae) Ad)) (fun _ _ _ _=>(Ar (i:=0) Gq rfl (Or.inl rfl))) (fun _ _ _ _=>CD) (fun _ _ _ _=>(As (opD0 B8) Ae (As (opD Bu) (As (opD0 B8) (pvD 0) (pvD 1)) (As (opD0 EU) (pvD 2) Ae)))))))
   (Ac (Aj (i:=4) Bp.nd (As U1 (B9 (Aa Ae Ad)) (pvD 2)))
   (Ac (Aj (i:=5) Bp.nd (As U1 (B9 (Aa (Dx Ad) Ad)) (pvD 2)))
   (Ac (CH PassesOwn.never rfl (BN rfl T.range (Aa (pvD 2) Ad)) (Ar (i:=6) Bp.nd rfl (Or.inl rfl))
   (Ac (UL (Ai (ixTD AI) (Ai (ixTD AI) (pvD 0) Ae) (pvD 6)) (UK (pvD 4) (Ai (ixLD Bw) (pvD 3) (pvD 6)) set_list))
   (Ag (UL (AZ AN rfl T.tuple PyProof.Rows.boot_tuple (Aa (Cg rfl (Cp rfl) (cp:=EE) ⟨⟨rfl,rfl⟩,True.intro⟩ (HS (Ai (ixTD AI) (Ai (ixTD AI) (pvD 0) Ae) (pvD 6))) (fun _ _ _ _=>(Ar (i:=0) Gr rfl (Or.inl rfl))) (fun _ _ _ _=>CD) (fun _ _ _ _=>(Ai (ixLD (CM (K:=K) rfl)) (pvD 1) (pvD 0)))) Ad)) (UK (pvD 5) (Ai (ixLD Bw) (pvD 3) (pvD 6)) set_list)))))
   (Ag (A0 (Dx (Aa (Ai (ixTD AI) (pvD 0) Ae) (Aa (AZ AN rfl T.tuple PyProof.Rows.boot_tuple (Aa (pvD 4) Ad)) (Aa (AZ AN rfl T.tuple PyProof.Rows.boot_tuple (Aa (pvD 5) Ad)) Ad)))))))))))),?_⟩
  walk_at "rd"
  refine⟨_,q1,_,rfl,?_⟩
  walk_at "rd"
  refine⟨_,.inr q2,?_⟩
  rw[List.length_map]
  refine ite2 (fun h1=>k h aa ae H (Same.refl _) hh wf rfl EH.refl) (fun h1=>?_)
  have h2:2<=aa.length:=by lia
  have ho:=VG h2 num
  have lE:=ho.len
  have ho0:ordW (Th aa.length num) 0=0:=rfl
  generalize hspin:Th aa.length num=o at ho lE ho0
  refine⟨fun ah H'=>Same H H'/\∃a,H' a=some (.lst (o.map V.int))/\ah=[some (.ref h),some (.int num),some (.int aa.length),some (.ref a),none,none,none],?_,fun h8 H1 hR=>?_⟩
  ·walk_at "rd"
   refine⟨by lia,fun p hp=>⟨by lia,by lia,?_⟩⟩
   refine Vl (n:=((aa.length:Int)-1).toNat) (fun i ys aj H2=>H2=upd H p (.lst [V.int 0])/\ys=((List.range i).map fun j:Nat=>1+((j:Int)+num)%((aa.length:Int)-1)).map V.int/\∃o,aj=[o,some (.int num),some (.int aa.length)]) ⟨rfl,rfl,none,rfl⟩ s!"" (fun i ys aj H2 _ h=>by rw[h.2.1];simp) (fun i ys aj H2 hi h=>?_) (fun ys aj H2 h=>?_)
   ·obtain⟨rfl,rfl,o,rfl⟩:=h
    walk_at "rd"
    refine⟨by lia,?_⟩
    rw[List.range_succ,show (0:Int)+(i:Nat)=(i:Int) by lia]
    simp
   ·obtain⟨rfl,rfl,o,rfl⟩:=h
    intro D hD
    have n1:p≠D:=fun z=>by rw[<-z,Ab]at hD;cases hD
    refine⟨D,rfl,_,by rw[Ah n1];exact Ab,_,Ab,by simp;lia,fun q hq=>⟨((Same.new hp).newT hD).newT hq,q,?_,rfl⟩⟩
    rw[Ab,<-hspin,show ((aa.length:Int)-1).toNat=aa.length-1 by lia]
    rfl
  obtain⟨s1,a,ha,rfl⟩:=hR
  have iC:SqL K H1 a (o.map V.int):=SqL.of ha
  walk_at "rd"
  rw[Int.toNat_natCast]
  refine⟨by lia,fun p hp=>⟨_,Ab,by lia,by lia,by simp;lia,fun p1 a6=>⟨by lia,fun p2 aS=>⟨by lia,fun p3 d3=>⟨_,Ab,by lia,by lia,by simp;lia,fun p4 dv=>?_⟩⟩⟩⟩⟩
  rw[Ny]at aS d3 dv ⊢
  rw[Ny]
  have sA:=(((((Same.new (o:=.lst [V.int 0]) hp).newT (o:=.lst (List.replicate aa.length (V.int 0))) a6).newT (o:=.tup []) aS).newT (o:=.lst [V.ref p2]) d3).newT (o:=.lst (List.replicate aa.length (V.ref p2))) dv)
  have n41:p4≠p1:=(AM (AM (AM dv).1).1).2
  have dY:upd (upd (upd (upd (upd H1 p (.lst [V.int 0])) p1 (.lst (List.replicate aa.length (V.int 0)))) p2 (.tup [])) p3 (.lst [V.ref p2])) p4 (.lst (List.replicate aa.length (V.ref p2))) p1=some (.lst ((List.replicate aa.length (0:Int)).map V.int)):=by
   rw[List.map_replicate]
   exact Same.new dv _ _ (Same.new d3 _ _ (Same.new aS _ _ Ab))
  have hw0:DX K (upd (upd (upd (upd (upd H1 p (.lst [V.int 0])) p1 (.lst (List.replicate aa.length (V.int 0)))) p2 (.tup [])) p3 (.lst [V.ref p2])) p4 (.lst (List.replicate aa.length (V.ref p2)))) p4 (List.replicate aa.length []):=by
   refine⟨List.replicate aa.length p2,by rw[Ab,List.map_replicate],by simp,fun i t w e1 e2=>?_⟩
   have e3:t=p2:=List.eq_of_mem_replicate (List.mem_of_getElem? e1)
   have e4:w=[]:=List.eq_of_mem_replicate (List.mem_of_getElem? e2)
   subst e3 e4
   exact SqT.of (Same.new dv _ _ (Same.new d3 _ _ Ab))
  have hp1n:H1 p1=none:=(AM a6).1
  have hp4n:H1 p4=none:=(AM (AM (AM (AM dv).1).1).1).1
  generalize upd (upd (upd (upd (upd H1 p (.lst [V.int 0])) p1 (.lst (List.replicate aa.length (V.int 0)))) p2 (.tup [])) p3 (.lst [V.ref p2])) p4 (.lst (List.replicate aa.length (V.ref p2)))=H2 at sA dY hw0 ⊢
  refine⟨by lia,by lia,?_⟩
  obtain⟨Pn,ck⟩:∃Pn:Nat->St->Hp->Prop,∀i aH H3,Pn i aH H3↔(∃(o5:Option V),Same H1 H3/\H3 p1=some (.lst ((DU o (fun r=>aa.getD r 0) i (List.replicate aa.length 0)).map V.int))/\DX K H3 p4 (DU o (fun r=>(ae.getD r []).map (ordW o)) i (List.replicate aa.length []))/\aH=[some (.ref h),some (.int num),some (.int aa.length),some (.ref a),some (.ref p1),some (.ref p4),o5]):=⟨_,fun _ _ _=>Iff.rfl⟩
  refine forR Pn ((ck _ _ _).mpr ⟨none,sA,dY,hw0,rfl⟩) (fun i aH HT hi h3=>?_) (fun aH H3 h3=>?_)
  ·obtain⟨o5,sT,hmT,nu,rfl⟩:=(ck _ _ _).mp h3
   have ei:(0:Int)+(i:Nat)=(i:Int):=by lia
   rw[ei]
   have hxa:=ho.at (r:=(i:Int)) s!"" s!""
   rw[Int.toNat_natCast]at hxa
   obtain⟨hxi,cn,cg⟩:=hxa
   obtain⟨tm3,tw3,y1,y2,y3⟩:=hh.mono (s1.trans sT)
   have kK:aa[i]?=some (aa.getD i 0):=by rw[List.getD_eq_getElem?_getD,List.getElem?_eq_getElem hi];rfl
   obtain⟨row,hrow,fk,cB⟩:=wf.row (r:=(i:Int)) s!"" s!""
   rw[Int.toNat_natCast]at hrow
   walk_at "rd"
   refine⟨_,y1,_,rfl,_,rfl,_,y2,_,Gb (by rw[List.getElem?_map,kK];rfl),_,sT.seq iC,_,Gb (by rw[List.getElem?_map,hxi];rfl),?_⟩
   refine⟨_,_,rfl,hmT,(ordW o i).toNat,YQ cn (by rw[List.length_map,DY,List.length_replicate];exact cg),?_⟩
   have sU:Same H1 (upd HT p1 (.lst (((DU o (fun r=>aa.getD r 0) i (List.replicate aa.length 0)).map V.int).set (ordW o i).toNat (V.int (aa.getD i 0))))):=sT.over hp1n
   have hmU:upd HT p1 (.lst (((DU o (fun r=>aa.getD r 0) i (List.replicate aa.length 0)).map V.int).set (ordW o i).toNat (V.int (aa.getD i 0)))) p1=some (.lst ((DU o (fun r=>aa.getD r 0) (i+1) (List.replicate aa.length 0)).map V.int)):=by
    rw[Ab,DU,List.map_set]
   have hwU:=nu.off (ys:=((DU o (fun r=>aa.getD r 0) i (List.replicate aa.length 0)).map V.int).set (ordW o i).toNat (V.int (aa.getD i 0))) hmT n41
   generalize upd HT p1 (.lst (((DU o (fun r=>aa.getD r 0) i (List.replicate aa.length 0)).map V.int).set (ordW o i).toNat (V.int (aa.getD i 0))))=HU at sU hmU hwU ⊢
   obtain⟨tm4,tw4,z1,z2,z3⟩:=hh.mono (s1.trans sU)
   obtain⟨xs4,t4,c1,c2,c3⟩:=z3.at hrow
   refine⟨_,z1,_,rfl,_,rfl,_,c1,_,c2,_,rfl,⟨_,c3⟩,?_⟩
   obtain⟨f,hf⟩:∃f:V->V,∀g:Int,f (V.int g)=.int (ordW o g):=⟨fun v=>match v with | .int g=>.int (ordW o g)|_=>.non,fun _=>rfl⟩
   refine GO (xs:=row.map V.int) (ah:=[some (.ref a)]) f rfl c3 (by rw[List.length_map];have:=wf.l6;lia) (fun v hv R hR=>?_) (fun D hD=>?_)
   ·obtain⟨g,hg,rfl⟩:=List.mem_map.mp hv
    rw[hf]at hR
    have iw:=(wf.rows row fk).2 g hg
    walk_at "rd"
    exact⟨_,sU.seq iC,_,CF iw.1 (ho.at iw.1 iw.2).1,hR⟩
   ·have em:(row.map V.int).map f=(row.map (ordW o)).map V.int:=by
     rw[List.map_map,List.map_map]
     exact List.map_congr_left fun g _=>hf g
    rw[em]
    refine⟨D,rfl,_,.inl ⟨SqL.of Ab,fun l jW=>?_⟩⟩
    have sV:=(Same.new (o:=.lst ((row.map (ordW o)).map V.int)) hD).newT (o:=.tup ((row.map (ordW o)).map V.int)) jW
    obtain⟨xs8,e1,e2,gw⟩:=(hwU.mono sV).set (j:=(ordW o i).toNat) (w:=row.map (ordW o)) (SqT.of Ab)
    refine⟨_,(sU.trans sV).seq iC,_,Gb (by rw[List.getElem?_map,hxi];rfl),xs8,_,rfl,e1,(ordW o i).toNat,YQ cn (by rw[e2,DY,List.length_replicate];exact cg),(ck _ _ _).mpr ⟨_,(sU.trans sV).over hp4n,?_,?_,rfl⟩⟩
    ·rw[Ah n41.symm];exact sV _ _ hmU
    ·rw[DU,List.getD_eq_getElem?_getD,hrow];exact gw
  ·obtain⟨o5,s3,hm3,fE,rfl⟩:=(ck _ _ _).mp h3
   walk_at "rd"
   obtain⟨tm3,tw3,y1,y2,y3⟩:=hh.mono (s1.trans s3)
   refine⟨_,y1,_,rfl,_,.inl ⟨SqL.of hm3,fun l jW=>?_⟩⟩
   obtain⟨xs,cg,iB⟩:=(fE.mono (Same.new (o:=.tup ((QQ aa.length o aa).map V.int)) jW)).rows
   refine⟨_,.inl ⟨SqL.of cg,fun l1 bj=>⟨by lia,fun p5 cD=>?_⟩⟩⟩
   exact k p5 _ _ _ (((s1.trans s3).newT jW).newT bj |>.newT cD) ⟨l,l1,SqT.of Ab,SqT.of (Same.new cD _ _ (Same.new bj _ _ Ab)),(iB l1 bj).mono (Same.new cD)⟩ (ZS wf ho) (EW _ _ _) (T2 wf ho ho0)
noncomputable def Wz (K:PySem.W.Frag):Sp:=fun vs H Q _=>∃(a h:Addr) (ns:List Int) (L:Int) (aa:List Int) (ae:List (List Int)),vs=[.ref a,.ref h]/\SqL K H a (ns.map V.int)/\Bz K H h L aa ae/\Wf L aa ae/\∀(m:Nat) H',m<=3->many L (m+2)<=341->Same H H'->Q (.int m) H'
theorem Lp   (F:Fun K "_law_more_by" "_law_more_by" BJ f fd)(T:Txt mg)
  (Z:Exs K mg av aq)
   (Ao:FnOk P w K mg base CX0 1 Az AR ["script","k"] (Ll K)) (An:Fun K "_law_cell_at" "_law_cell_at" A2 Az AR) (Ap:Bj K AR ["script","k"] []) (Aq:mg "_law_cell_at"=some (.ref Az))
  : FnOk P w K mg base CX0 2 f fd ["script","house"] (Wz K):=by
 refine F.ok Gn (fun vs H Q E h=>?_) (fun aB A outer s H vs Q E hr h=>?_)
 ·obtain⟨a,h,ns,L,aa,ae,rfl,_⟩:=h;rfl
 ·obtain⟨a,h,ns,L,aa,ae,rfl,hs,hh,wf,k⟩:=h
  have hl:=AA
  refine⟨_,(Ac (Aj (i:=2) Gn.nd (As (opD Ga) (Am Ao (hr.mono (by decide)) rfl Aq An.kp Ap .nil Be (Aa (pvD 0) (Aa Ae Ad))) Ae))
   (Ac (DE (ptT (AB (opD0 Zx) (Av (lenD Ak) (by rfl) T.len PySem.boot_len (Aa (Ai (ixTD AI) (pvD 1) Ae) Ad)) Ae (AY _)))
   (Ag (A0 (As (opD Bu) (pvD 2) Ae)))
   Bg)
   (Ac (DE (PW.pt (Ju (ptT (AB (opD0 Mc) (Av (lenD Ak) (by rfl) T.len PySem.boot_len (Aa (Ai (ixTD AI) (pvD 1) Ae) Ad)) Ae (AY _))) (F9 (ptT (AB (opE DW) (As (opD Bu) (pvD 2) Ae) Ae (AY _))))))
   (Ag (A0 (Ai (ixLD Bw) (B9 (Aa Ae (Aa Ae (Aa Ae (Aa Ae (Aa Ae (Aa Ae Ad))))))) (As (opD0 EU) (Ai (ixTD AI) (pvD 1) Ae) Ae))))
   Bg)
   (Ac (DE (ptT (AB (opE DW) (As (opD Bu) (pvD 2) Ae) Ae (AY _)))
   (Ag (A0 (Ai (ixLD Bw) (B9 (Aa Ae (Aa Ae (Aa Ae (Aa Ae (Aa Ae (Aa Ae Ad))))))) (As (opD0 EU) (Ai (ixTD AI) (pvD 1) Ae) Ae))))
   Bg)
   (Ag (A0 (As (opD Bu) (pvD 2) (Ai (ixLD Bw) (B9 (Aa Ae (Aa Ae (Aa Ae (Aa Ae (Aa Ae (Aa Ae Ad))))))) (As (opD0 EU) (Ai (ixTD AI) (pvD 1) Ae) Ae))))))))),?_⟩
  walk_at "rd"
  obtain⟨mm,wv,q1,q2,q3⟩:=id hh
  have cL:=wf.l1
  have cj:=wf.l6
  refine⟨a,ns,0,rfl,hs,_,rfl,⟨by decide,by decide⟩,_,q1,_,rfl,mm,rfl,_,.inr q2,?_⟩
  generalize cell ns 0 / 6=c
  rw[List.length_map]
  have hL:L=1\/L=2\/L=3\/L=4\/L=5\/L=6:=by lia
  have m0:many L (0+2)<=341:=by rcases hL with rfl|rfl|rfl|rfl|rfl|rfl<;>decide
  have m1:many L (1+2)<=341:=by rcases hL with rfl|rfl|rfl|rfl|rfl|rfl<;>decide
  have m2:many L (2+2)<=341:=by rcases hL with rfl|rfl|rfl|rfl|rfl|rfl<;>decide
  have m3:L<=4->many L (3+2)<=341:=fun h=>by
   rcases hL with rfl|rfl|rfl|rfl|rfl|rfl
   all_goals first|decide|lia
  -- each answer
  have ou:∀(c:Int) H',Same H H'->0<=c->c<=3->(c=3->L<=4)->Q (.int c) H':=fun c H' hS h0 h3 hc=>by
   obtain⟨m,rfl⟩:∃m:Nat,c=(m:Int):=⟨c.toNat,by lia⟩
   refine k m H' s!"" ?_ hS
   rcases (show m=0\/m=1\/m=2\/m=3 by lia) with rfl|rfl|rfl|rfl
   ·exact m0
   ·exact m1
   ·exact m2
   ·exact m3 (hc rfl)
  refine ite2 (fun _=>⟨by decide,ou _ _ (Same.refl _) s!"" s!"" s!""⟩) (fun _=>?_)
  refine⟨_,q1,_,rfl,mm,rfl,_,.inr q2,?_⟩
  rw[List.length_map]
  refine ite2 (fun h3=>⟨by decide,ite2 (fun _=>⟨by decide,fun p hp=>?_⟩) (fun _=>⟨by decide,ite2 (fun _=>⟨by decide,fun p hp=>?_⟩) (fun _=>⟨by decide,fun p hp=>?_⟩)⟩)⟩) (fun h3=>⟨by decide,ite2 (fun _=>⟨by decide,fun p hp=>?_⟩) (fun _=>⟨by decide,fun p hp=>?_⟩)⟩)
  all_goals
   refine⟨_,(Same.new hp).seqT q1,_,rfl,L,rfl,_,SqL.of Ab,?_⟩
   clear hh wf q1 q2 q3 k m0 m1 m2 m3
   rcases hL with rfl|rfl|rfl|rfl|rfl|rfl
   all_goals first
    | exact⟨_,rfl,ou _ _ (Same.new hp) (by decide) (by decide) (by decide)⟩
    | exact⟨_,rfl,_,rfl,by decide,ou _ _ (Same.new hp) s!"" s!"" s!""⟩
theorem BV.tsq2 {K:PySem.W.Frag}    (h:BV T H H')(hT:H T=some (.tbl ps)):TSq K H H':=fun b ys q=>h.tsq hT q
theorem Bz.monoQ {K:PySem.W.Frag}      (x:Bz K H h L aa ae)(e:TSq K H H'):Bz K H' h L aa ae:=by
 obtain⟨m,w,h1,h2,ts,h3,h4,h5⟩:=x
 exact⟨m,w,e _ _ h1,e _ _ h2,ts,e _ _ h3,h4,fun i t r a b=>e _ _ (h5 i t r a b)⟩
theorem WA:∀(l s:List (List Int)) (w:List Int),w∈l.foldl ins s->w∈s\/w∈l
 |[],s,w,h=>.inl h
 |v::l,s,w,h=>by
  rw[List.foldl_cons]at h
  rcases WA l _ w h with h|h
  ·unfold ins at h
   split at h
   ·exact .inl h
   ·rcases List.mem_append.mp h with h|h
    ·exact .inl h
    ·rw[List.mem_singleton.mp h];exact .inr List.mem_cons_self
  ·exact .inr (List.mem_cons_of_mem _ h)
theorem DL {K:PySem.W.Frag}  {os:List aA.Wd}(h:WsT H os):AF K H (aA.wv os) (os.map (·.2)):=by
 refine⟨by simp[aA.wv],fun i w hw=>?_⟩
 rw[List.getElem?_map]at hw
 cases e:os[i]? with
 |none=>rw[e]at hw;cases hw
 |some o=>
  rw[e]at hw;cases hw
  exact⟨o.1,by rw[aA.wv,List.getElem?_map,e];rfl,h o (List.mem_of_getElem? e)⟩
theorem WB:∀(l s:List (List Int)) (w:List Int),(w∈s\/w∈l)->w∈l.foldl ins s
 |[],s,w,h=>h.resolve_right (by simp)
 |v::l,s,w,h=>by
  rw[List.foldl_cons]
  refine WB l _ w ?_
  unfold ins
  rcases h with h|h
  ·left
   split
   ·exact h
   ·exact List.mem_append_left _ h
  ·rcases List.mem_cons.mp h with rfl|h
   ·left
    split
    ·rename_i hh;exact hh
    ·exact List.mem_append_right _ List.mem_cons_self
   ·exact .inr h
theorem Oc {l:List (List Int)}{w:List Int}:w∈l.foldl ins []↔w∈l:=⟨fun h=>(WA l [] w h).resolve_left (by simp),fun h=>WB l [] w (.inr h)⟩
theorem NB   (hu:isW L u=true)(hv:isW L v=true):isW L (u++v)=true:=by
 rw[AU]at hu hv ⊢
 intro x hx
 rcases List.mem_append.mp hx with hx|hx
 ·exact hu x hx
 ·exact hv x hx
theorem Wj {kvs:List (List Key×V)}{ws:List (List Int)}(h:GZ (ws.foldl ins []) kvs){w:List Int}:(valV kvs (wkey w)).isSome=decide (w∈ws):=by
 rw[h.some_iff w]
 exact decide_eq_decide.mpr Oc
noncomputable def Nb (K:PySem.W.Frag):Sp:=fun vs H Q _=>∃(h:Addr) (L:Int) (aa:List Int) (ae:List (List Int)),vs=[.ref h]/\Bz K H h L aa ae/\Wf L aa ae/\∀p H',Same H H'->H p=none->H' p=some (.lst (((Ax ae).map (·.1)).map V.int))->Q (.ref p) H'
theorem JU   (F:Fun K "_law_order_of" "_law_order_of" Bs f fd)(T:Txt mg)
  (Z:Exs K mg av aq)
  : FnOk P w K mg base CX0 1 f fd ["house"] (Nb K):=by
 refine F.ok Bx (fun vs H Q E h=>?_) (fun aB A outer s H vs Q E hr h=>?_)
 ·obtain⟨h,L,aa,ae,rfl,_⟩:=h;rfl
 ·obtain⟨h,L,aa,ae,rfl,hh,wf,k⟩:=h
  have hl:=AA
  have cL:=wf.l1
  have bR:=wf.n1
  have aP:=wf.n40
  refine⟨_,(Ac (Aj (i:=1) Bx.nd (B9 (Aa Ae Ad)))
   (Ac (Aj (i:=2) Bx.nd Ae)
   (Ac (GL PassesOwn.never (ptT (AB (opD0 Mc) (pvD 2) (Av (lenD Ak) (by rfl) T.len PySem.boot_len (Aa (pvD 1) Ad)) (AY _)))
   (Ac (Aj (i:=3) Bx.nd (Ai (ixTD AI) (Ai (ixTD AI) (pvD 0) Ae) (Ai (ixLD Bw) (pvD 1) (pvD 2))))
   (Ac (CH PassesOwn.never rfl (HS (pvD 3)) (Ar (i:=4) Bx.nd rfl (Or.inl rfl))
   (Ag (DE (ptT (AB Jv (pvD 4) (pvD 1) rfl))
   (Ag (Bv (Fg PySem.F.plainAttrs_list PySem.F.slot_list_append PySem.F.type_list_append Bh (pvD 1) (Aa (pvD 4) Ad))))
   Bg)))
   (Ag (Aj (i:=2) Bx.nd (As (opD0 B8) (pvD 2) Ae))))))
   (Ag (A0 (pvD 1)))))),?_⟩
  walk_at "rd"
  refine⟨by lia,fun p2 aS=>?_⟩
  have s0:Same H (upd H p2 (.lst [V.int 0])):=Same.new aS
  have d6:upd H p2 (.lst [V.int 0]) p2=some (.lst ((([(0,[])]:List (Int×List Int)).map (·.1)).map V.int)):=Ab
  generalize upd H p2 (.lst [V.int 0])=H0 at s0 d6 ⊢
  obtain⟨Pv,au⟩:∃Pv:Nat->St->Hp->Prop,∀m aj H2,Pv m aj H2↔(∃(ents:List (Int×List Int)) (i:Nat) (top:Int) (o4 o5:Option V),m=aa.length+1-i/\Same H H2/\H2 p2=some (.lst ((ents.map (·.1)).map V.int))/\Bfs L aa.length ae ents i top/\(∀e,ents[i]?=some e->top<=AG L e.2*L+1)/\bfs ae (aa.length+1-i) ents i=Ax ae/\aj=[some (.ref h),some (.ref p2),some (.int i),o4,o5]):=⟨_,fun _ _ _=>Iff.rfl⟩
  refine MN Pv ⟨_,(au _ _ _).mpr ⟨[(0,[])],0,1,none,none,rfl,s0,d6,Bfs.start L bR ae,fun e he=>?_,by unfold Ax;rw[wf.len];rfl,rfl⟩⟩ ?_
  ·simp at he;subst he;simp[AG,Dd]
  intro m aj H2 dy
  obtain⟨ents,i,top,o4,o5,rfl,s2,gS,bf,iJ,b8,rfl⟩:=(au _ _ _).mp dy
  have hbl:=bf.len
  walk_at "rd"
  refine⟨_,.inl (SqL.of gS),?_⟩
  rw[List.length_map,List.length_map]
  refine ite2 (fun ar=>?_) (fun a9=>?_)
  ·have hi:i<ents.length:=by lia
   obtain⟨e,he⟩:∃e,ents[i]?=some e:=⟨ents[i],by simp[hi]⟩
   obtain⟨r,w⟩:=e
   have aZ:=List.mem_of_getElem? he
   have bt:=bf.rng _ aZ
   have htop':top<=AG L w*L+1:=iJ _ he
   obtain⟨row,hrow,fk,cB⟩:=wf.row bt.1 bt.2
   have km:ae.getD r.toNat []=row:=by rw[List.getD_eq_getElem?_getD,hrow];rfl
   obtain⟨mm,wv,q1,q2,q3⟩:=id hh
   obtain⟨xs,t,z1,z2,z3⟩:=q3.atZ bt.1 hrow
   refine⟨Pv (aa.length+1-(i+1)),fun ah H' h=>⟨_,by lia,h⟩,?_⟩
   refine⟨_,s2.seqT q1,_,rfl,_,SqL.of gS,_,CF (v:=r) s!"" (by rw[Int.toNat_natCast,List.getElem?_map,he];rfl),_,rfl,_,_,rfl,s2.seqT z1,_,z2,_,rfl,⟨_,s2.seqT z3⟩,?_⟩
   obtain⟨Pn,ck⟩:∃Pn:Nat->St->Hp->Prop,∀x aH H3,Pn x aH H3↔(∃(aw:List (Int×List Int)) (o5:Option V),Same H H3/\H3 p2=some (.lst ((aw.map (·.1)).map V.int))/\Bfs L aa.length ae aw i (AG L w*L+(x:Int)+1)/\Seen L ae aw r w x/\aw[i]?=some (r,w)/\EB w aw x (row.drop x)=EB w ents 0 row/\aH=[some (.ref h),some (.ref p2),some (.int i),some (.ref t),o5]):=⟨_,fun _ _ _=>Iff.rfl⟩
   refine forT (xs:=row.map V.int) Pn ((ck _ _ _).mpr ⟨ents,o5,s2,gS,bf.up (by push_cast;lia),(fun y h0 h1=>absurd h1 (by push_cast;lia)),he,rfl,rfl⟩) (fun x aH H3 _ h3=>?_) (fun x v aH H3 hx h3=>?_) (fun aH H3 h3=>?_)
   ·obtain⟨aw,_,s3,_⟩:=(ck _ _ _).mp h3
    exact s3.seqT z3
   ·obtain⟨aw,o5,s3,cM,cX,gj,fS,b9,rfl⟩:=(ck _ _ _).mp h3
    obtain⟨g,hg,rfl⟩:=DD hx
    have bN:=(List.getElem?_eq_some_iff.mp hg).1
    have iK:=(wf.rows row fk).2 g (List.mem_of_getElem? hg)
    have nB:g=Bm ae r (x:Int):=(BL hrow (by rw[Int.toNat_natCast];exact hg)).symm
    have dz:=List.mem_of_getElem? fS
    have fm:row.drop x=g::row.drop (x+1):=by
     rw[List.drop_eq_getElem_cons bN]
     congr 1
     exact (List.getElem?_eq_some_iff.mp hg).2
    obtain⟨d7,gm⟩:=cX.letter s!"" gj dz s!"" nB iK
    have gn:=Hr (g:=g) (v:=w++[(x:Int)]) fS
    rw[fm,Hq]at b9
    walk_at "rd"
    refine⟨_,.inl (SqL.of cM),rfl,KJ _,?_⟩
    rw[Sj]
    by_cases hm:g∈aw.map (·.1)
    ·rw[if_pos hm]at d7 gm gn b9
     rw[decide_eq_true hm,if_neg (by simp)]
     exact (ck _ _ _).mpr ⟨aw,_,s3,cM,d7,gm,gn,b9,rfl⟩
    ·rw[if_neg hm]at d7 gm gn b9
     rw[decide_eq_false hm,if_pos (by simp)]
     refine⟨.inl ⟨rfl,_,SqL.of cM⟩,_,cM,by have:=cX.len;simp;lia,(ck _ _ _).mpr ⟨aw++[(g,w++[(x:Int)])],_,s3.over aS,by rw[Ab];simp,d7,gm,gn,b9,rfl⟩⟩
   ·obtain⟨aw,o5,s3,cM,cX,gj,fS,b9,rfl⟩:=(ck _ _ _).mp h3
    rw[List.length_map]at cX gj b9
    rw[List.drop_length,IH]at b9
    walk_at "rd"
    obtain⟨d7,fo⟩:=cX.next s!"" cB gj fS
    refine (au _ _ _).mpr ⟨aw,i+1,_,_,_,rfl,s3,cM,d7,fo,?_,by push_cast;rfl⟩
    rw[show aa.length+1-i=(aa.length+1-(i+1))+1 by lia,Nx he]at b8
    rw[b9,<-km]
    exact b8
  ·have hi:i=ents.length:=by have:=bf.il;lia
   subst hi
   rw[Nw (by simp)]at b8
   walk_at "rd"
   rw[<-b8]at k
   exact k p2 H2 s2 aS gS
theorem JE {α:Type}[DecidableEq α]{l k:List α}(h:l.Nodup)(hs:∀x∈l,x∈k):l.length<=k.length:=by
 induction l generalizing k with
 |nil=>simp
 |cons a l ih=>
  rw[List.nodup_cons]at h
  have ha:=hs a List.mem_cons_self
  have h1:∀x∈l,x∈k.erase a:=fun x hx=>by
   refine (List.mem_erase_of_ne ?_).mpr (hs x (List.mem_cons_of_mem _ hx))
   intro z;subst z;exact h.1 hx
  have:=ih h.2 h1
  rw[List.length_erase_of_mem ha]at this
  have hp:=List.length_pos_of_mem ha
  rw[List.length_cons];lia
section
variable {rs:List Int} {E:Nat->Int->Int->Prop}
noncomputable def WD (rs:List Int)(E:Nat->Int->Int->Prop)(k i:Nat):Prop:=∀a,rs[i]?=some a->∀j b,j<i->rs[j]?=some b->¬ E k b a
open Classical in
noncomputable def GD (rs:List Int)(E:Nat->Int->Int->Prop)(k:Nat):List Nat:=(List.range rs.length).filter fun i=>decide (WD rs E k i)
open Classical in
theorem DM {k i:Nat}:i∈GD rs E k↔i<rs.length/\WD rs E k i:=by
 unfold GD
 rw[List.mem_filter,List.mem_range,decide_eq_true_eq]
theorem Lq (k:Nat):(GD rs E k).Nodup:=List.nodup_range.filter _
theorem SU (rf:∀k a,E k a a)(sy:∀k a b,E k a b->E k b a)(tr:∀k a b c,E k a b->E k b c->E k a c)(k:Nat):∀(n i:Nat) (a:Int),i<=n->rs[i]?=some a->∃j b,rs[j]?=some b/\E k b a/\WD rs E k j:=by
 intro n
 induction n with
 |zero=>
  intro i a hi ha
  have:i=0:=by lia
  subst this
  exact⟨0,a,ha,rf k a,fun a' _ j b hj=>absurd hj (Nat.not_lt_zero _)⟩
 |succ n ih=>
  intro i a hi ha
  by_cases h:WD rs E k i
  ·exact⟨i,a,ha,rf k a,h⟩
  ·unfold WD at h
   simp only[Classical.not_forall]at h
   obtain⟨a',e',j,b,hj,hb,hE⟩:=h
   rw[ha]at e'
   cases e'
   have hE:E k b a:=Classical.not_not.mp hE
   obtain⟨j',b',h1,h2,h3⟩:=ih j b s!"" hb
   exact⟨j',b',h1,tr k _ _ _ h2 hE,h3⟩
theorem Cw_ (rf:∀k a,E k a a)(sy:∀k a b,E k a b->E k b a)(tr:∀k a b c,E k a b->E k b c->E k a c)(mo:∀k a b,E (k+1) a b->E k a b)   (ha:a∈rs)(hb:b∈rs)(h:E k a b)(hn:¬ E (k+1) a b):(GD rs E k).length+1<=(GD rs E (k+1)).length:=by
 have sub:∀i∈GD rs E k,i∈GD rs E (k+1):=fun i hi=>by
  obtain⟨h1,h2⟩:=DM.mp hi
  exact DM.mpr ⟨h1,fun a ha j b hj hb hE=>h2 a ha j b hj hb (mo k _ _ hE)⟩
 obtain⟨i,hi,mT⟩:∃i,i∈GD rs E (k+1)/\i∉GD rs E k:=by
  refine Classical.byContradiction fun hc=>hn ?_
  have aL:∀i,i∈GD rs E (k+1)->i∈GD rs E k:=fun i hi=>Classical.byContradiction fun z=>hc ⟨i,hi,z⟩
  obtain⟨ia,hia⟩:=List.mem_iff_getElem?.mp ha
  obtain⟨ib,hib⟩:=List.mem_iff_getElem?.mp hb
  obtain⟨j1,c1,p1,p2,p3⟩:=SU (rs:=rs) rf sy tr (k+1) ia ia a (Nat.le_refl _) hia
  obtain⟨j2,c2,r1,r2,r3⟩:=SU (rs:=rs) rf sy tr (k+1) ib ib b (Nat.le_refl _) hib
  have g1:=(DM.mp (aL j1 (DM.mpr ⟨(List.getElem?_eq_some_iff.mp p1).1,p3⟩))).2
  have g2:=(DM.mp (aL j2 (DM.mpr ⟨(List.getElem?_eq_some_iff.mp r1).1,r3⟩))).2
  have kX:E k c1 c2:=tr k _ _ _ (mo k _ _ p2) (tr k _ _ _ h (sy k _ _ (mo k _ _ r2)))
  have ej:j1=j2:=by
   refine Classical.byContradiction fun aE=>?_
   rcases Nat.lt_or_gt_of_ne aE with ar|ar
   ·exact g2 c2 r1 j1 c1 ar p1 kX
   ·exact g1 c1 p1 j2 c2 ar r1 (sy k _ _ kX)
  subst ej
  rw[p1]at r1
  cases r1
  exact tr _ _ _ _ (sy _ _ _ p2) r2
 have:=JE (l:=i::GD rs E k) (k:=GD rs E (k+1)) (by rw[List.nodup_cons];exact⟨mT,Lq k⟩) fun y hy=>by
  rcases List.mem_cons.mp hy with rfl|hy
  ·exact hi
  ·exact sub y hy
 simpa using this
theorem Cx_ (rf:∀k a,E k a a)(sy:∀k a b,E k a b->E k b a)(tr:∀k a b c,E k a b->E k b c->E k a c)(mo:∀k a b,E (k+1) a b->E k a b)(st:∀k,(∀a∈rs,∀b∈rs,E k a b->E (k+1) a b)->∀a∈rs,∀b∈rs,E (k+1) a b->E (k+2) a b)(h0:0<rs.length)  (ha:a∈rs)(hb:b∈rs)(h:E rs.length a b)(j:Nat):E j a b:=by
 have key:∀k,(∃k',k'<k/\∀a∈rs,∀b∈rs,E k' a b->E (k'+1) a b)\/k+1<=(GD rs E k).length:=by
  intro k
  induction k with
  |zero=>
   right
   have:0∈GD rs E 0:=DM.mpr ⟨h0,fun a _ j b hj=>absurd hj (Nat.not_lt_zero _)⟩
   exact List.length_pos_of_mem this
  |succ k ih=>
   rcases ih with ⟨k',h1,h2⟩|ih
   ·exact .inl ⟨k',by lia,h2⟩
   ·by_cases hs:∀a∈rs,∀b∈rs,E k a b->E (k+1) a b
    ·exact .inl ⟨k,by lia,hs⟩
    ·simp only[Classical.not_forall]at hs
     obtain⟨a,ha,b,hb,h1,h2⟩:=hs
     right
     have:=Cw_ rf sy tr mo ha hb h1 h2
     lia
 have aN:(GD rs E rs.length).length<=rs.length:=by
  have:=JE (l:=GD rs E rs.length) (k:=List.range rs.length) (Lq _) fun i hi=>List.mem_range.mpr (DM.mp hi).1
  simpa using this
 rcases key rs.length with ⟨k',h1,h2⟩|h1
 ·have up:∀d,∀a∈rs,∀b∈rs,E (k'+d) a b->E (k'+d+1) a b:=by
   intro d
   induction d with
   |zero=>exact h2
   |succ d ih=>exact st _ ih
  have far:∀d,E (rs.length+d) a b:=by
   intro d
   induction d with
   |zero=>exact h
   |succ d ih=>
    have:=up (rs.length+d-k') a ha b hb (by rw[show k'+(rs.length+d-k')=rs.length+d by lia];exact ih)
    rw[show k'+(rs.length+d-k')+1=rs.length+(d+1) by lia]at this
    exact this
  have down:∀d i,E (i+d) a b->E i a b:=by
   intro d
   induction d with
   |zero=>exact fun i h=>h
   |succ d ih=>exact fun i h=>ih i (mo _ _ _ h)
  exact down rs.length j (by rw[Nat.add_comm];exact far j)
 ·lia
end
noncomputable def Jk (L:Int)(aa:List Int)(ae:List (List Int))(k:Nat)(a b:Int):Prop:=∀v,isW L v=true->v.length<=k->mkW aa (B4 ae a v)=mkW aa (B4 ae b v)
theorem Jk.succ      : Jk L aa ae (k+1) a b↔Jk L aa ae k a b/\∀x:Int,0<=x->x<L->Jk L aa ae k (Bm ae a x) (Bm ae b x):=by
 constructor
 ·intro h
  refine⟨fun v hv hl=>h v hv s!"",fun x x0 x1 v hv hl=>?_⟩
  have:=h (x::v) (AU.mpr fun y hy=>by
   rcases List.mem_cons.mp hy with rfl|hy
   ·exact⟨x0,x1⟩
   ·exact AU.mp hv y hy) (by rw[List.length_cons];lia)
  rw[BP,BP]at this
  exact this
 ·rintro⟨h1,h2⟩ v hv hl
  cases v with
  |nil=>exact h1 [] hv (by simp)
  |cons x v=>
   have hx:=AU.mp hv x List.mem_cons_self
   rw[BP,BP]
   exact h2 x hx.1 hx.2 v (AU.mpr fun y hy=>AU.mp hv y (List.mem_cons_of_mem _ hy)) (by rw[List.length_cons]at hl;lia)
theorem Jk.all {L:Int}{aa:List Int}{ae:List (List Int)}{rs:List Int}(hz:0∈rs)(cl:∀r∈rs,∀x:Int,0<=x->x<L->Bm ae r x∈rs){a b:Int}(ha:a∈rs)(hb:b∈rs)(h:Jk L aa ae rs.length a b):∀v,isW L v=true->mkW aa (B4 ae a v)=mkW aa (B4 ae b v):=fun v hv=>
 Cx_ (rs:=rs) (E:=Jk L aa ae) (fun _ _ _ _ _=>rfl) (fun _ _ _ h v hv hl=>(h v hv hl).symm) (fun _ _ _ _ h g v hv hl=>(h v hv hl).trans (g v hv hl)) (fun _ _ _ h=>(Jk.succ.mp h).1) (fun k hs a ha b hb h=>by
  obtain⟨h1,h2⟩:=Jk.succ.mp h
  exact Jk.succ.mpr ⟨h,fun x x0 x1=>hs _ (cl a ha x x0 x1) _ (cl b hb x x0 x1) (h2 x x0 x1)⟩) (List.length_pos_of_mem hz) ha hb h v.length v hv (Nat.le_refl _)
noncomputable def ln41 (names:List Int)(ae:List (List Int))(r:Nat):List Int:=names.getD r 0::(ae.getD r []).map fun a=>names.getD a.toNat 0
noncomputable def EF (L:Int)(aa:List Int)(ae:List (List Int))(k:Nat)(names:List Int):Prop:=names.length=aa.length/\∀a b:Nat,a<aa.length->b<aa.length->(names.getD a 0=names.getD b 0↔Jk L aa ae k a b)
theorem EF.more    (wf:Wf L aa ae)   (h:EF L aa ae k names)(hl:dh.length=aa.length)(he:∀a b:Nat,a<aa.length->b<aa.length->(dh.getD a 0=dh.getD b 0↔ln41 names ae a=ln41 names ae b)):EF L aa ae (k+1) dh:=by
 refine⟨hl,fun a b ha hb=>?_⟩
 rw[he a b ha hb,Jk.succ]
 obtain⟨ra,l3,ra2,ra3⟩:=wf.row (r:=(a:Int)) s!"" s!""
 obtain⟨rb,l4,rb2,rb3⟩:=wf.row (r:=(b:Int)) s!"" s!""
 rw[Int.toNat_natCast]at l3 l4
 have ga:ae.getD a []=ra:=by rw[List.getD_eq_getElem?_getD,l3];rfl
 have gb:ae.getD b []=rb:=by rw[List.getD_eq_getElem?_getD,l4];rfl
 have st:∀(c:Nat) (rc:List Int),ae[c]?=some rc->rc∈ae->∀x:Nat,(x:Int)<L->∃g:Nat,rc[x]?=some (g:Int)/\g<aa.length/\Bm ae c x=g:=fun c rc h1 h2 x hx=>by
  have h3:=wf.rows rc h2
  have bN:x<rc.length:=by lia
  have h4:=h3.2 rc[x] (List.getElem_mem _)
  refine⟨rc[x].toNat,by rw[List.getElem?_eq_getElem bN];congr 1;lia,by lia,?_⟩
  rw[BL (row:=rc) (g:=rc[x]) (by rw[Int.toNat_natCast];exact h1) (by rw[Int.toNat_natCast];exact List.getElem?_eq_getElem bN)]
  lia
 unfold ln41
 rw[ga,gb,List.cons.injEq,h.2 a b ha hb]
 refine and_congr Iff.rfl ?_
 constructor
 ·intro e x x0 x1
  obtain⟨xn,rfl⟩:∃xn:Nat,x=(xn:Int):=⟨x.toNat,by lia⟩
  obtain⟨g,g1,g2,g3⟩:=st a ra l3 ra2 xn x1
  obtain⟨f,f1,f2,f3⟩:=st b rb l4 rb2 xn x1
  rw[g3,f3,<-h.2 g f g2 f2]
  have:=congrArg (fun l:List Int=>l[xn]?) e
  simp only[List.getElem?_map,g1,f1,Option.map_some,Int.toNat_natCast,Option.some.injEq]at this
  exact this
 ·intro e
  refine List.ext_getElem? fun xn=>?_
  by_cases hx:(xn:Int)<L
  ·obtain⟨g,g1,g2,g3⟩:=st a ra l3 ra2 xn hx
   obtain⟨f,f1,f2,f3⟩:=st b rb l4 rb2 xn hx
   have e1:=e (xn:Int) s!"" hx
   rw[g3,f3,<-h.2 g f g2 f2]at e1
   simp only[List.getElem?_map,g1,f1,Option.map_some,Int.toNat_natCast,Option.some.injEq]
   exact e1
  ·rw[List.getElem?_eq_none (by rw[List.length_map];lia),List.getElem?_eq_none (by rw[List.length_map];lia)]
theorem EF.first    : EF L aa ae 0 aa:=⟨rfl,fun a b ha hb=>by
 constructor
 ·intro e v hv hl
  have:v=[]:=List.length_eq_zero_iff.mp s!""
  subst this
  show aa.getD ((a:Int)).toNat 0=aa.getD ((b:Int)).toNat 0
  rw[Int.toNat_natCast,Int.toNat_natCast];exact e
 ·intro h
  have:=h [] (AU.mpr fun x hx=>(by cases hx)) (Nat.zero_le _)
  have:aa.getD ((a:Int)).toNat 0=aa.getD ((b:Int)).toNat 0:=this
  rw[Int.toNat_natCast,Int.toNat_natCast]at this
  exact this⟩
noncomputable def G1 (H:Hp)(xs:List V)(ks:List (List Int)):Prop:=xs.length=ks.length/\∀(i:Nat) (k:List Int),ks[i]?=some k->∃(t l:Addr) (c:Int) (w:List Int),xs[i]?=some (.ref t)/\k=c::w/\H t=some (.tup [.int c,.ref l])/\H l=some (.lst (w.map V.int))
theorem G1.nil  : G1 H [] []:=⟨rfl,fun i k h=>by simp at h⟩
theorem G1.mono    (h:G1 H xs ks)(s:Same H H'):G1 H' xs ks:=⟨h.1,fun i k hk=>let ⟨t,l,c,w,a,b,d,e⟩:=h.2 i k hk;⟨t,l,c,w,a,b,s _ _ d,s _ _ e⟩⟩
theorem G1.snoc {H:Hp}{xs:List V}{ks:List (List Int)}(h:G1 H xs ks){t l:Addr}{c:Int}{w:List Int}(ht:H t=some (.tup [.int c,.ref l]))(hl:H l=some (.lst (w.map V.int))):G1 H (xs++[.ref t]) (ks++[c::w]):=by
 refine⟨by rw[List.length_append,List.length_append,h.1];rfl,fun i k hk=>?_⟩
 by_cases hi:i<ks.length
 ·rw[List.getElem?_append_left hi]at hk
  obtain⟨t',l',c',w',a,b,d,e⟩:=h.2 i k hk
  exact⟨t',l',c',w',by rw[List.getElem?_append_left (by rw[h.1];exact hi)];exact a,b,d,e⟩
 ·rw[List.getElem?_append_right s!""]at hk
  have h0:i-ks.length=0:=by
   have:=(List.getElem?_eq_some_iff.mp hk).1
   simpa using this
  rw[h0]at hk
  have hk:c::w=k:=by simpa using hk
  subst hk
  exact⟨t,l,c,w,by rw[List.getElem?_append_right (by rw[h.1];lia),h.1,h0];rfl,rfl,ht,hl⟩
theorem G1.at {H:Hp}{xs:List V}{ks:List (List Int)}(h:G1 H xs ks){i:Nat}{x:V}(hx:xs[i]?=some x):∃(t l:Addr) (c:Int) (w:List Int),ks[i]?=some (c::w)/\x=.ref t/\H t=some (.tup [.int c,.ref l])/\H l=some (.lst (w.map V.int)):=by
 have hi:i<ks.length:=by rw[<-h.1];exact (List.getElem?_eq_some_iff.mp hx).1
 obtain⟨t,l,c,w,a,b,d,e⟩:=h.2 i ks[i] (by simp[hi])
 rw[hx]at a
 exact⟨t,l,c,w,by rw[<-b];simp[hi],Option.some.inj a,d,e⟩
theorem eqP {K:PySem.W.Frag}{H:Hp}{t l t' l':Addr}{c c':Int}{w w':List Int}(ht:H t=some (.tup [.int c,.ref l]))(hl:H l=some (.lst (w.map V.int)))(dn:H t'=some (.tup [.int c',.ref l']))(jW:H l'=some (.lst (w'.map V.int))):
  EqD K H 4 (.ref t) (.ref t') (decide (c::w=c'::w')):=by
 refine .inr ⟨t,t',_,_,rfl,rfl,.inr ⟨SqT.of ht,SqT.of dn⟩,fun i=>if i=0 then decide (c=c') else decide (w=w'),fun i x y hx hy=>?_,?_⟩
 ·match i,hx,hy with
  |0,hx,hy=>
   cases hx;cases hy
   refine .inl ⟨rfl,rfl,?_⟩
   show decide (c=c')=(c==c')
   by_cases h:c=c'<;>simp[h]
  |1,hx,hy=>
   cases hx;cases hy
   have:=EqD.ints (K:=K) (xs:=w) (ys:=w') (.inl ⟨SqL.of hl,SqL.of jW⟩) 2
   exact this
  |i+2,hx,hy=>simp at hx
 ·rw[Bool.eq_iff_iff,decide_eq_true_eq]
  simp[List.range_succ]
theorem G1.eqs {K:PySem.W.Frag}{H:Hp}{xs:List V}{ks:List (List Int)}(h:G1 H xs ks){t l:Addr}{c:Int}{w:List Int}(ht:H t=some (.tup [.int c,.ref l]))(hl:H l=some (.lst (w.map V.int))):EqsD K H 4 xs (.ref t) (fun i=>decide (ks[i]?=some (c::w))):=by
 refine⟨fun i v hv=>?_,fun i j v hi hj=>?_⟩
 ·obtain⟨t',l',c',w',a,rfl,d,e⟩:=h.at hv
  refine⟨t',rfl,?_⟩
  show EqD K H 4 (.ref t') (.ref t) (decide (ks[i]?=some (c::w)))
  rw[show (decide (ks[i]?=some (c::w)))=decide (c'::w'=c::w) by rw[a];simp]
  exact eqP d e ht hl
 ·obtain⟨t1,l1,c1,w1,a1,rfl,d1,e1⟩:=h.at hi
  obtain⟨t2,l2,c2,w2,a2,z,d2,e2⟩:=h.at hj
  cases z
  rw[d1]at d2
  cases d2
  rw[e1]at e2
  have:=Option.some.inj e2
  injection this with this
  have:=(List.map_inj_right (fun x y z=>V.int.inj z)).mp this
  show decide (ks[i]?=some (c::w))=decide (ks[j]?=some (c::w))
  rw[a1,a2,this]
theorem Aq_ {ks:List (List Int)}{k:List Int}:((List.range ks.length).any fun i=>decide (ks[i]?=some k))=decide (k∈ks):=by
 rw[Bool.eq_iff_iff,List.any_eq_true,decide_eq_true_eq]
 constructor
 ·rintro⟨i,_,h⟩
  exact List.mem_of_getElem? (of_decide_eq_true h)
 ·intro h
  obtain⟨i,hi⟩:=List.mem_iff_getElem?.mp h
  exact⟨i,List.mem_range.mpr (List.getElem?_eq_some_iff.mp hi).1,decide_eq_true hi⟩
noncomputable def DB (names:List Int)(ae:List (List Int)):List (List Int):=(List.range names.length).map (ln41 names ae)
noncomputable def nx31 (names:List Int)(ae:List (List Int)):List Int:=(DB names ae).map fun k=>((((DB names ae).foldl ins []).idxOf k:Nat):Int)
theorem EF.turn    (wf:Wf L aa ae)   (h:EF L aa ae k names):EF L aa ae (k+1) (nx31 names ae):=by
 have dr:∀a:Nat,a<aa.length->(DB names ae)[a]?=some (ln41 names ae a):=fun a ha=>by
  unfold DB
  rw[List.getElem?_map,List.getElem?_range (by rw[h.1];exact ha)];rfl
 have nat:∀a:Nat,a<aa.length->(nx31 names ae).getD a 0=((((DB names ae).foldl ins []).idxOf (ln41 names ae a):Nat):Int):=fun a ha=>by
  unfold nx31
  rw[List.getD_eq_getElem?_getD,List.getElem?_map,dr a ha];rfl
 refine EF.more wf h (by unfold nx31 DB;rw[List.length_map,List.length_map,List.length_range,h.1]) fun a b ha hb=>?_
 rw[nat a ha,nat b hb]
 constructor
 ·intro e
  have e:((DB names ae).foldl ins []).idxOf (ln41 names ae a)=((DB names ae).foldl ins []).idxOf (ln41 names ae b):=by lia
  have ma:=Oc.mpr (List.mem_of_getElem? (dr a ha))
  have mb:=Oc.mpr (List.mem_of_getElem? (dr b hb))
  have ga:=List.getElem_idxOf (List.idxOf_lt_length_iff.mpr ma)
  have gb:=List.getElem_idxOf (List.idxOf_lt_length_iff.mpr mb)
  rw[<-ga,<-gb]
  congr 1
 ·intro e;rw[e]
noncomputable def WE (K:PySem.W.Frag):Sp:=fun vs H Q _=>∃(h:Addr) (L:Int) (aa:List Int) (ae:List (List Int)),vs=[.ref h]/\Bz K H h L aa ae/\Wf L aa ae/\∀(p:Addr) (names:List Int) (H':Hp),Same H H'->H p=none->H' p=some (.lst (names.map V.int))->EF L aa ae aa.length names->Q (.ref p) H'
theorem Lr   (F:Fun K "_law_classes" "_law_classes" BK f fd)(T:Txt mg)
  (Z:Exs K mg av aq)
  : FnOk P w K mg base CX0 1 f fd ["house"] (WE K):=by
 refine F.ok Bt (fun vs H Q E h=>?_) (fun aB A outer s H vs Q E hr h=>?_)
 ·obtain⟨h,L,aa,ae,rfl,_⟩:=h;rfl
 ·obtain⟨h,L,aa,ae,rfl,hh,wf,k⟩:=h
  have hl:=AA
  have aP:=wf.n40
  have bR:=wf.n1
  have cL:=wf.l1
  have cj:=wf.l6
  refine⟨_,(Ac (CG (i:=1) Bt.nd rfl (Or.inr rfl) (AZ Gd rfl T.list PyProof.Rows.boot_list (Aa (Ai (ixTD AI) (pvD 0) Ae) Ad)))
   (Ac (CH PassesOwn.never rfl (BN rfl T.range (Aa (Av (lenD Ak) (by rfl) T.len PySem.boot_len (Aa (Ai (ixTD AI) (pvD 0) Ae) Ad)) Ad)) (Ar (i:=2) Bt.nd rfl (Or.inl rfl))
   (Ac (IE (i:=3) Bt.nd rfl rfl rfl (Cp rfl) (cp:=FY) ⟨⟨rfl,rfl⟩,⟨⟨rfl,rfl⟩,True.intro⟩⟩ (BN rfl T.range (Aa (Av (lenD Ak) (by rfl) T.len PySem.boot_len (Aa (pvD 1) Ad)) Ad)) (fun _ _ _ _=>(Ar (i:=0) Hy rfl (Or.inl rfl))) (fun _ _ _ _=>CD) (fun _ _ _ _=>(Dx (Aa (Ai (ixLD (CM (K:=K) rfl)) (pvD 1) (pvD 0)) (Aa (Cg rfl (Cp rfl) (cp:=FZ) ⟨⟨rfl,rfl⟩,True.intro⟩ (VN (K:=K) rfl (Ai (ixTD (CN (K:=K) rfl)) (Ai (ixTD (CN (K:=K) rfl)) (pvD 2) Ae) (pvD 0))) (fun _ _ _ _=>(Ar (i:=0) Hz rfl (Or.inl rfl))) (fun _ _ _ _=>CD) (fun _ _ _ _=>(Ai (ixLD (CM (K:=K) rfl)) (pvD 1) (pvD 0)))) Ad)))))
   (Ac (CG (i:=4) Bt.nd rfl (Or.inr rfl) (B9 Ad))
   (Ac (CH PassesOwn.never rfl (Cf (pvD 3)) (Ar (i:=5) Bt.nd rfl (Or.inl rfl))
   (Ag (DE (ptT (AB (Wo 4 (hu45 (hu9 hr))) (pvD 5) (pvD 4) rfl))
   (Ag (Bv (Fg PySem.F.plainAttrs_list PySem.F.slot_list_append PySem.F.type_list_append Bh (pvD 4) (Aa (pvD 5) Ad))))
   Bg)))
   (Ag (CG (i:=1) Bt.nd rfl (Or.inr rfl) (Cg rfl (Cp rfl) (cp:=F0) ⟨⟨rfl,rfl⟩,True.intro⟩ (Cf (pvD 3)) (fun _ _ _ _=>(Ar (i:=0) HD rfl (Or.inl rfl))) (fun _ _ _ _=>CD) (fun _ _ _ _=>(YG (K:=K) rfl PySem.F.plainAttrs_list PySem.F.slot_list_index PySem.F.type_list_index (TM (K:=K) rfl 4 (hu46 (hu9 hr))) (pvD 1) (Aa (pvD 0) Ad))))))))))
   (Ag (A0 (pvD 1))))),?_⟩
  obtain⟨tm,tw,q1,q2,q3⟩:=id hh
  walk_at "rd"
  refine⟨_,q1,_,rfl,tm,rfl,_,.inr q2,fun pn l5=>?_⟩
  have s0:=Same.new l5 (o:=.lst (aa.map V.int))
  refine⟨_,s0.seqT q1,_,rfl,tm,rfl,_,.inr (s0.seqT q2),?_⟩
  rw[List.length_map]
  refine⟨by lia,by lia,?_⟩
  rw[Int.toNat_natCast]
  obtain⟨Pv,au⟩:∃Pv:Nat->St->Hp->Prop,∀i ah H',Pv i ah H'↔(∃(names:List Int) (pn:Addr) (o2 o3 o4 o5:Option V),Same H H'/\H pn=none/\H' pn=some (.lst (names.map V.int))/\EF L aa ae i names/\ah=[some (.ref h),some (.ref pn),o2,o3,o4,o5]):=⟨_,fun _ _ _=>Iff.rfl⟩
  refine forR Pv ((au _ _ _).mpr ⟨aa,pn,none,none,none,none,s0,l5,Ab,EF.first,rfl⟩) (fun i aj H2 hi h2=>?_) (fun aj H2 h2=>?_)
  ·obtain⟨names,pn,o2,o3,o4,o5,s2,hnN,fb,nm,rfl⟩:=(au _ _ _).mp h2
   have hnl:names.length=aa.length:=nm.1
   walk_at "rd"
   refine⟨_,.inl (SqL.of fb),?_⟩
   rw[List.length_map]
   refine⟨by lia,by lia,?_⟩
   rw[Int.toNat_natCast]
   have hlk:(DB names ae).length=names.length:=by unfold DB;rw[List.length_map,List.length_range]
   have hlat:∀r,r<names.length->(DB names ae)[r]?=some (ln41 names ae r):=fun r hr=>by unfold DB;rw[List.getElem?_map,List.getElem?_range hr];rfl
   have ee:∀g:Int,0<=g->g<aa.length->(names.map V.int)[g.toNat]?=some (V.int (names.getD g.toNat 0)):=fun g g0 g1=>by rw[List.getElem?_map,List.getD_eq_getElem?_getD,List.getElem?_eq_getElem s!""];rfl
   refine Vl (fun i' xs ah H'=>Same H2 H'/\G1 H' xs ((DB names ae).take i')/\∃o,ah=[o,some (.ref pn),some (.ref h)]) ⟨Same.refl _,G1.nil,none,rfl⟩ s!"" (fun i' xs ah H' hi' h'=>by rw[h'.2.1.1,List.length_take];lia) (fun i' xs ah H' hi' h'=>?_) (fun xs ah Hc h' pk oy=>?_)
   ·obtain⟨s3,fQ,o,rfl⟩:=h'
    rw[Int.zero_add]
    obtain⟨row,w1,w2,w3⟩:=wf.row (r:=(i':Int)) s!"" s!""
    rw[Int.toNat_natCast]at w1
    obtain⟨oz,l7,g1,g2,g3⟩:=hh.mono (s2.trans s3)
    obtain⟨zs,t,z1,z2,z3⟩:=g3.at w1
    have hrow:=wf.rows row w2
    walk_at "rd"
    refine⟨_,SqL.of (s3 _ _ fb),_,Ed s!"" (ee _ s!"" s!""),?_⟩
    refine⟨_,g1,_,rfl,l7,rfl,_,z1,_,z2,t,rfl,⟨_,z3⟩,?_⟩
    refine GO (ah:=[some (.ref pn)]) (fun x=>match x with | .int g=>.int (names.getD g.toNat 0)|_=>.non) rfl z3 (by rw[List.length_map];lia) (fun x hx R hR=>?_) (fun D hD=>?_)
    ·obtain⟨g,hg,rfl⟩:=List.mem_map.mp hx
     have cA:=hrow.2 g hg
     walk_at "rd"
     exact⟨_,SqL.of (s3 _ _ fb),_,Ed cA.1 (ee g cA.1 cA.2),hR⟩
    ·refine⟨by lia,fun p hp=>?_⟩
     rw[Int.toNat_natCast]
     have sD:=(Same.new hD (o:=.lst ((row.map V.int).map fun x=>match x with | .int g=>.int (names.getD g.toNat 0)|_=>.non))).newT hp (o:=.tup [V.int (names.getD i' 0),V.ref D])
     have e1:=Same.new hp (o:=.tup [V.int (names.getD i' 0),V.ref D]) _ _ (Ab (H:=H') (a:=D) (o:=.lst ((row.map V.int).map fun x=>match x with | .int g=>.int (names.getD g.toNat 0)|_=>.non)))
     have e2:upd (upd H' D (.lst ((row.map V.int).map fun x=>match x with | .int g=>.int (names.getD g.toNat 0)|_=>.non))) p (.tup [V.int (names.getD i' 0),V.ref D]) p=some (.tup [V.int (names.getD i' 0),V.ref D]):=Ab
     generalize upd (upd H' D (.lst ((row.map V.int).map fun x=>match x with | .int g=>.int (names.getD g.toNat 0)|_=>.non))) p (.tup [V.int (names.getD i' 0),V.ref D])=H4 at sD e1 e2 ⊢
     refine⟨s3.trans sD,?_,_,rfl⟩
     rw[List.take_add_one,hlat i' hi',Option.toList_some]
     have e3:ln41 names ae i'=names.getD i' 0::row.map fun a=>names.getD a.toNat 0:=by
      unfold ln41
      rw[List.getD_eq_getElem?_getD (l:=ae),w1];rfl
     rw[e3]
     refine (fQ.mono sD).snoc e2 ?_
     rw[e1,List.map_map,List.map_map]
     rfl
   ·obtain⟨s3,fQ,o,rfl⟩:=h'
    rw[<-hlk,List.take_length]at fQ
    walk_at "rd"
    refine⟨by lia,fun p hp=>?_⟩
    have sK:=s3.newT oy (o:=.lst xs)
    have sp:=(Same.new oy (o:=.lst xs)).newT hp (o:=.lst [])
    have ji:pk≠p:=Ne.symm (AM hp).2
    have l8:upd (upd Hc pk (.lst xs)) p (.lst []) pk=some (.lst xs):=by rw[Ah ji];exact Ab
    have ep:upd (upd Hc pk (.lst xs)) p (.lst []) p=some (.lst []):=Ab
    have oh:H2 p=none:=(s3.newT oy (o:=.lst xs)).none hp
    have hk4:=fQ.mono sp
    have s4:Same H2 (upd (upd Hc pk (.lst xs)) p (.lst [])):=s3.trans sp
    have jj:=sp
    generalize upd (upd Hc pk (.lst xs)) p (.lst [])=H4 at s4 l8 ep hk4 jj ⊢
    have hpN2:H p=none:=s2.none oh
    have bN:=hk4.1
    refine⟨⟨_,SqL.of l8⟩,?_⟩
    have jX:=(AM hp).1
    obtain⟨Pw,cE⟩:∃Pv:Nat->St->Hp->Prop,∀j ah H',Pv j ah H'↔(∃(ys:List V) (o5:Option V),BV p H4 H'/\H' p=some (.lst ys)/\G1 Hc ys (((DB names ae).take j).foldl ins [])/\ah=[some (.ref h),some (.ref pn),some (.int (0+(i:Int))),some (.ref pk),some (.ref p),o5]):=⟨_,fun _ _ _=>Iff.rfl⟩
    refine forL (xs:=xs) Pw ((cE _ _ _).mpr ⟨[],_,fun _ _ _ e=>e,ep,G1.nil,rfl⟩) (fun j ah H' _ h'=>by obtain⟨_,_,s',_⟩:=(cE _ _ _).mp h';exact SqL.of (s' _ _ ji l8)) (fun j x ah H5 hx h'=>?_) (fun ah H5 h'=>?_)
    ·obtain⟨ys,o5,s5,cD,lg,rfl⟩:=(cE _ _ _).mp h'
     have sc:Same Hc H5:=fun b o e=>s5 b o (Al e jX) (jj _ _ e)
     have jY:=lg.mono sc
     obtain⟨t,l,c,w0,bM,rfl,ht,dE⟩:=fQ.at hx
     have oA:H5 t=some (.tup [.int c,.ref l]):=s5 _ _ (Al ht jX) (jj _ _ ht)
     have oB:H5 l=some (.lst (w0.map V.int)):=s5 _ _ (Al dE jX) (jj _ _ dE)
     have fe:=jY.1
     have jA:=EX ((DB names ae).take j) []
     rw[List.length_take,List.length_nil]at jA
     walk_at "rd"
     refine⟨ys,SqL.of cD,_,jY.eqs oA oB,?_⟩
     rw[fe,Aq_]
     have lh:((DB names ae).take (j+1)).foldl ins []=ins (((DB names ae).take j).foldl ins []) (c::w0):=by rw[List.take_add_one,bM,Option.toList_some,List.foldl_append];rfl
     refine ite2 (fun hy=>?_) (fun hn=>?_)
     ·have hy:¬ (c::w0∈((DB names ae).take j).foldl ins []):=by simpa using hy
      refine⟨.inl ⟨rfl,_,SqL.of cD⟩,ys,cD,by lia,(cE _ _ _).mpr ⟨_,_,fun b o hb e=>by rw[Ah hb];exact s5 b o hb e,Ab,?_,rfl⟩⟩
      rw[lh,show ins (((DB names ae).take j).foldl ins []) (c::w0)=((DB names ae).take j).foldl ins []++[c::w0] from if_neg hy]
      exact lg.snoc ht dE
     ·have hn:c::w0∈((DB names ae).take j).foldl ins []:=by simpa using hn
      refine (cE _ _ _).mpr ⟨ys,_,s5,cD,?_,rfl⟩
      rw[lh,show ins (((DB names ae).take j).foldl ins []) (c::w0)=((DB names ae).take j).foldl ins [] from if_pos hn]
      exact lg
    ·obtain⟨ys,o5,s5,cD,lg,rfl⟩:=(cE _ _ _).mp h'
     have sc:Same Hc H5:=fun b o e=>s5 b o (Al e jX) (jj _ _ e)
     have jY:=lg.mono sc
     rw[bN,List.take_length]at jY
     have jA:=EX (DB names ae) []
     rw[List.length_nil]at jA
     have fe:=jY.1
     have epk5:=s5 _ _ ji l8
     walk_at "rd"
     refine⟨⟨_,SqL.of epk5⟩,?_⟩
     refine QK (xs:=xs) (fun i' us ah H'=>H'=H5/\us=(((DB names ae).take i').map fun k=>(((((DB names ae).foldl ins []).idxOf k:Nat):Int))).map V.int/\∃o,ah=[o,some (.ref p)]) ⟨rfl,rfl,none,rfl⟩ s!"" (fun i' us ah H' hi' h'=>by obtain⟨rfl,rfl,_⟩:=h';exact⟨SqL.of epk5,by rw[List.length_map,List.length_map,List.length_take];lia⟩) (fun i' x us ah H' hx h'=>?_) (fun us ah H' h' D hD=>?_)
     ·obtain⟨rfl,rfl,o,rfl⟩:=h'
      obtain⟨t,l,c,w0,bM,rfl,ht,dE⟩:=fQ.at hx
      have oA:H' t=some (.tup [.int c,.ref l]):=s5 _ _ (Al ht jX) (jj _ _ ht)
      have oB:H' l=some (.lst (w0.map V.int)):=s5 _ _ (Al dE jX) (jj _ _ dE)
      have aZ:=Oc.mpr (List.mem_of_getElem? bM)
      have gC:=List.idxOf_lt_length_iff.mpr aZ
      walk_at "rd"
      refine⟨.inl ⟨rfl,_,SqL.of cD⟩,ys,cD,_,jY.eqs oA oB,((DB names ae).foldl ins []).idxOf (c::w0),by lia,?_,fun j hj=>?_,by lia,?_,_,rfl⟩
      ·exact decide_eq_true (by rw[List.getElem?_eq_getElem gC,List.getElem_idxOf])
      ·refine decide_eq_false fun z=>?_
       have:=So z
       lia
      ·rw[List.take_add_one,bM,Option.toList_some,List.map_append,List.map_append]
       rfl
     ·obtain⟨rfl,rfl,o,rfl⟩:=h'
      rw[bN,List.take_length]
      have sH:Same H H':=fun b o e=>s5 b o (Al e hpN2) (s4 _ _ (s2 _ _ e))
      exact (au _ _ _).mpr ⟨nx31 names ae,D,_,_,_,_,sH.newT hD,sH.none hD,Ab,nm.turn wf,rfl⟩
  ·obtain⟨names,pn,o2,o3,o4,o5,s2,hnN,fb,nm,rfl⟩:=(au _ _ _).mp h2
   walk_at "rd"
   exact k pn names _ s2 hnN fb nm
theorem WG {c c':List Int}:∀(R ai:List Int),(∀r s,(r∈ai\/r∈R)->(s∈ai\/s∈R)->(cf c r=cf c s↔cf c' r=cf c' s))->R.foldl (Cq c) ai=R.foldl (Cq c') ai
 |[],ai,_=>rfl
 |q::R,ai,h=>by
  have e:Cq c ai q=Cq c' ai q:=by
   unfold Cq
   have:cf c q∈ai.map (cf c)↔cf c' q∈ai.map (cf c'):=by
    rw[List.mem_map,List.mem_map]
    constructor
    ·rintro⟨a,ha,e⟩;exact⟨a,ha,(h a q (.inl ha) (.inr List.mem_cons_self)).mp e⟩
    ·rintro⟨a,ha,e⟩;exact⟨a,ha,(h a q (.inl ha) (.inr List.mem_cons_self)).mpr e⟩
   by_cases hq:cf c q∈ai.map (cf c)
   ·rw[if_pos hq,if_pos (this.mp hq)]
   ·rw[if_neg hq,if_neg (fun z=>hq (this.mpr z))]
  rw[List.foldl_cons,List.foldl_cons,e]
  have sub:∀r,r∈Cq c' ai q->r∈ai\/r∈q::R:=fun r hr=>by
   unfold Cq at hr
   split at hr
   ·exact .inl hr
   ·rcases List.mem_append.mp hr with hr|hr
    ·exact .inl hr
    ·exact .inr (by rw[List.mem_singleton.mp hr];exact List.mem_cons_self)
  refine WG R _ fun r s hr hs=>h r s ?_ ?_
  ·rcases hr with hr|hr
   ·exact sub r hr
   ·exact .inr (List.mem_cons_of_mem _ hr)
  ·rcases hs with hs|hs
   ·exact sub s hs
   ·exact .inr (List.mem_cons_of_mem _ hs)
theorem Ar_  (h:∀r s,r∈R->s∈R->(cf c r=cf c s↔cf c' r=cf c' s)):FR c R=FR c' R/\∀r∈R,hm c R r=hm c' R r:=by
 have e:FR c R=FR c' R:=WG R [] fun r s hr hs=>h r s (hr.resolve_left (by simp)) (hs.resolve_left (by simp))
 refine⟨e,fun r hr=>?_⟩
 obtain⟨j,q,hj,e1,e2,e3⟩:=F_hm (c:=c) hr
 have hq:q∈R:=Ie (List.mem_of_getElem? e2)
 rw[e]at e2
 rw[e1,<-hm_F e2]
 exact L2.hm_congr ((h q r hq hr).mp e3)
theorem XC {L:Nat}{aa:List Int}{ae:List (List Int)}(wf:Wf L aa ae){names:List Int}(nm:EF L aa ae aa.length names):∀r s,r∈rOf ae->s∈rOf ae->(cf names r=cf names s↔cf (cOf L aa ae) r=cf (cOf L aa ae) s):=by
 intro r s hr hs
 have r0:=EY wf hr
 have s0:=EY wf hs
 have h1:=nm.2 r.toNat s.toNat s!"" s!""
 rw[show ((r.toNat:Nat):Int)=r by lia,show ((s.toNat:Nat):Int)=s by lia]at h1
 show names.getD r.toNat 0=names.getD s.toNat 0↔_
 rw[h1]
 constructor
 ·intro h
  refine MX wf (finO wf) r0.1 r0.2 s0.1 s0.2 fun w hw=>?_
  have aN:=V3 wf
  exact Jk.all (rs:=rOf ae) (KY wf) (fun q hq x x0 x1=>IM wf hq x0 x1) hr hs (fun v hv hl=>h v hv s!"") w hw
 ·intro h v hv _
  exact V1 wf (finO wf) v hv r0.1 r0.2 s0.1 s0.2 h
theorem As_ {L:Nat}{aa:List Int}{ae:List (List Int)}(wf:Wf L aa ae){names:List Int}(nm:EF L aa ae aa.length names):FR names (rOf ae)=sF L aa ae/\(sF L aa ae).map (hrow names (rOf ae) ae)=sW L aa ae:=by
 obtain⟨e1,e2⟩:=Ar_ (XC wf nm)
 refine⟨e1,?_⟩
 unfold sW
 refine List.map_congr_left fun r hr=>?_
 unfold hrow
 refine List.map_congr_left fun g hg=>e2 g ?_
 have bt:r∈rOf ae:=Ie hr
 have r0:=EY wf bt
 obtain⟨row,w1,w2,w3⟩:=wf.row r0.1 r0.2
 rw[List.getD_eq_getElem?_getD,w1]at hg
 obtain⟨x,hx,rfl⟩:=List.getElem_of_mem (show g∈row from hg)
 have:=IM wf bt (x:=(x:Int)) s!"" s!""
 rw[BL w1 (g:=row[x]) (by rw[Int.toNat_natCast];exact List.getElem?_eq_getElem hx)]at this
 exact this
theorem Qd:∀{ws:List Int} {m:Nat} {w:Int},ws[m]?=some w->ws.idxOf w<=m
 |[],m,w,h=>by simp at h
 |v::ws,m,w,h=>by
  rw[List.idxOf_cons]
  cases m with
  |zero=>
   have:v=w:=by simpa using h
   simp[this]
  |succ m=>
   have:=Qd (ws:=ws) (m:=m) (w:=w) (by simpa using h)
   cases e:(v==w) with
   |true=>exact Nat.zero_le _
   |false=>exact Nat.succ_le_succ this
noncomputable def SV (K:PySem.W.Frag):Sp:=fun vs H Q _=>∃(h:Addr) (L:Nat) (aa:List Int) (ae:List (List Int)),vs=[.ref h]/\Bz K H h L aa ae/\Wf L aa ae/\∀(p:Addr) (H':Hp),Same H H'->Bz K H' p L (sM L aa ae) (sW L aa ae)->Q (.ref p) H'
theorem Qe   (F:Fun K "_law_base" "_law_base" CP f fd)(T:Txt mg)
  (Z:Exs K mg av aq)
   (Er:FnOk P w K mg base CX0 1 BS F2 ["house"] (Nb K)) (Cw:Fun K "_law_order_of" "_law_order_of" Bs BS F2) (Es:Bj K F2 ["house"] []) (Et:mg "_law_order_of"=some (.ref BS))
   (EL:FnOk P w K mg base CX0 1 Cd GF ["house"] (WE K)) (CK:Fun K "_law_classes" "_law_classes" BK Cd GF) (EM:Bj K GF ["house"] []) (EO:mg "_law_classes"=some (.ref Cd))
  : FnOk P w K mg base CX0 2 f fd ["house"] (SV K):=by
 refine F.ok Cu (fun vs H Q E h=>?_) (fun aB A outer s H vs Q E hr h=>?_)
 ·obtain⟨h,L,aa,ae,rfl,_⟩:=h;rfl
 ·obtain⟨h,L,aa,ae,rfl,hh,wf,k⟩:=h
  have hl:=AA
  have aP:=wf.n40
  have bR:=wf.n1
  have cL:=wf.l1
  have cj:=wf.l6
  refine⟨_,(Ac (CG (i:=1) Cu.nd rfl (Or.inr rfl) (Am EL (hr.mono (by decide)) rfl EO CK.kp EM .nil Be (Aa (pvD 0) Ad)))
   (Ac (Aj (i:=2) Cu.nd (Am Er (hr.mono (by decide)) rfl Et Cw.kp Es .nil Be (Aa (pvD 0) Ad)))
   (Ac (Aj (i:=3) Cu.nd (B9 Ad))
   (Ac (CH PassesOwn.never rfl (Cf (pvD 2)) (Ar (i:=4) Cu.nd rfl (Or.inl rfl))
   (Ag (DE (ptT (AB Jv (Ai (ixLD Bw) (pvD 1) (pvD 4)) (Cg rfl (Cp rfl) (cp:=Im) ⟨⟨rfl,rfl⟩,True.intro⟩ (Cf (pvD 3)) (fun _ _ _ _=>(Ar (i:=0) JN rfl (Or.inl rfl))) (fun _ _ _ _=>CD) (fun _ _ _ _=>(Ai (ixLD (CM (K:=K) rfl)) (pvD 1) (pvD 0)))) rfl))
   (Ag (Bv (Fg PySem.F.plainAttrs_list PySem.F.slot_list_append PySem.F.type_list_append Bh (pvD 3) (Aa (pvD 4) Ad))))
   Bg)))
   (Ac (CG (i:=5) Cu.nd rfl (Or.inr rfl) (Cg rfl (Cp rfl) (cp:=Io) ⟨⟨rfl,rfl⟩,True.intro⟩ (Cf (pvD 3)) (fun _ _ _ _=>(Ar (i:=0) JO rfl (Or.inl rfl))) (fun _ _ _ _=>CD) (fun _ _ _ _=>(Ai (ixLD (CM (K:=K) rfl)) (pvD 1) (pvD 0)))))
   (Ac (IE (i:=6) Cu.nd rfl rfl rfl (Cp rfl) (cp:=Ip) ⟨⟨rfl,rfl⟩,⟨⟨rfl,rfl⟩,⟨⟨rfl,rfl⟩,True.intro⟩⟩⟩ (Cf (pvD 3)) (fun _ _ _ _=>(Ar (i:=0) JQ rfl (Or.inl rfl))) (fun _ _ _ _=>CD) (fun _ _ _ _=>(AZ (NJ (K:=K) rfl) rfl T.tuple PyProof.Rows.boot_tuple (Aa (Cg rfl (Cp rfl) (cp:=Iq) ⟨⟨rfl,rfl⟩,⟨⟨rfl,rfl⟩,True.intro⟩⟩ (VN (K:=K) rfl (Ai (ixTD (CN (K:=K) rfl)) (Ai (ixTD (CN (K:=K) rfl)) (pvD 3) Ae) (pvD 0))) (fun _ _ _ _=>(Ar (i:=0) JR rfl (Or.inl rfl))) (fun _ _ _ _=>CD) (fun _ _ _ _=>(YG (K:=K) rfl PySem.F.plainAttrs_list PySem.F.slot_list_index PySem.F.type_list_index VI (pvD 1) (Aa (Ai (ixLD (CM (K:=K) rfl)) (pvD 2) (pvD 0)) Ad)))) Ad))))
   (Ag (A0 (Dx (Aa (Ai (ixTD AI) (pvD 0) Ae) (Aa (AZ AN rfl T.tuple PyProof.Rows.boot_tuple (Aa (Cg rfl (Cp rfl) (cp:=Hj) ⟨⟨rfl,rfl⟩,True.intro⟩ (Cf (pvD 3)) (fun _ _ _ _=>(Ar (i:=0) IW rfl (Or.inl rfl))) (fun _ _ _ _=>CD) (fun _ _ _ _=>(Ai (ixTD (CN (K:=K) rfl)) (Ai (ixTD (CN (K:=K) rfl)) (pvD 1) Ae) (pvD 0)))) Ad)) (Aa (AZ AN rfl T.tuple PyProof.Rows.boot_tuple (Aa (pvD 6) Ad)) Ad)))))))))))),?_⟩
  walk_at "rd"
  refine⟨h,L,aa,ae,rfl,hh,wf,fun pn names H1 s1 hpnN l5 nm=>?_⟩
  refine⟨h,L,aa,ae,rfl,hh.mono s1,wf,fun po H2 s2 hpoN l9=>?_⟩
  refine⟨by lia,fun pf ft=>?_⟩
  obtain⟨hF,hW⟩:=As_ wf nm
  have hR:((Ax ae).map (·.1))=rOf ae:=rfl
  rw[hR]at l9
  have nS:=V3 wf
  have jZ:=fun {r:Int} (h:r∈rOf ae)=>EY wf h
  have hRs:=fun {r x:Int} (h:r∈rOf ae) (x0:0<=x) (x1:x<L)=>IM wf h x0 x1
  have hnl:names.length=aa.length:=nm.1
  have ee:∀g:Int,0<=g->g<aa.length->(names.map V.int)[g.toNat]?=some (V.int (cf names g)):=fun g g0 g1=>by unfold cf;rw[List.getElem?_map,List.getD_eq_getElem?_getD,List.getElem?_eq_getElem s!""];rfl
  unfold sM at k
  rw[<-hW,<-hF]at k
  generalize rOf ae=R at l9 nS jZ hRs k
  have s12:=s1.trans s2
  have s3:=s12.newT ft (o:=.lst [])
  have iR:H pf=none:=s12.none ft
  have hpn2:=s2 _ _ l5
  have hpfo:pf≠po:=Ne.symm (Al l9 ft)
  have jk:pf≠pn:=Ne.symm (Al hpn2 ft)
  have epf:upd H2 pf (.lst []) pf=some (.lst []):=Ab
  have oC:upd H2 pf (.lst []) po=some (.lst (R.map V.int)):=by rw[Ah (Ne.symm hpfo)];exact l9
  have oD:upd H2 pf (.lst []) pn=some (.lst (names.map V.int)):=by rw[Ah (Ne.symm jk)];exact hpn2
  generalize upd H2 pf (.lst [])=H3 at s3 epf oC oD ⊢
  refine⟨po,rfl,⟨_,SqL.of oC⟩,?_⟩
  have comp1:∀{H':Hp} {F:List Int} {Q':VK} {cp:Caps} {σ:St},H' pn=some (.lst (names.map V.int))->H' pf=some (.lst (F.map V.int))->(∀r∈F,r∈R)->F.length<=40->cp.st σ=[none,some (.ref pn)]->(∀D,H' D=none->Q' (.ref D) (upd H' D (.lst ((F.map (cf names)).map V.int))))->QJ (Itl K pf) cp (Mb 0) Vd (tOp (Xg K) (Tu 1) (Tu 0)) σ H' Q':=fun {H' F Q' cp σ} h1 h2 bX ak e hd=>by
   refine HW (ah:=[some (.ref pn)]) (fun x=>match x with | .int g=>.int (cf names g)|_=>.non) e (SqL.of h2) (by rw[List.length_map];lia) (fun x hx R' gV=>?_) (fun D hD=>?_)
   ·obtain⟨g,hg,rfl⟩:=List.mem_map.mp hx
    have cA:=jZ (bX g hg)
    walk_at "rd"
    exact⟨_,SqL.of h1,_,Ed cA.1 (ee g cA.1 cA.2),gV⟩
   ·have:=hd D hD
    rw[List.map_map]at this ⊢
    exact this
  obtain⟨Pv,au⟩:∃Pv:Nat->St->Hp->Prop,∀j ah H',Pv j ah H'↔(∃(o4:Option V),BV pf H3 H'/\Same H H'/\H' pf=some (.lst ((FR names (R.take j)).map V.int))/\ah=[some (.ref h),some (.ref pn),some (.ref po),some (.ref pf),o4,none,none]):=⟨_,fun _ _ _=>Iff.rfl⟩
  refine forL (xs:=R.map V.int) Pv ((au _ _ _).mpr ⟨none,fun _ _ _ e=>e,s3,epf,rfl⟩) (fun j ah H' _ h'=>by obtain⟨_,s',_⟩:=(au _ _ _).mp h';exact SqL.of (s' _ _ (Ne.symm hpfo) oC)) (fun j x ah H' hx h'=>?_) (fun ah H' h'=>?_)
  ·obtain⟨o4,s4,md,cN,rfl⟩:=(au _ _ _).mp h'
   obtain⟨r,fV,rfl⟩:=DD hx
   have mf:=List.mem_of_getElem? fV
   have d6:=jZ mf
   have oE:=Sw names (R.take j)
   rw[List.length_take]at oE
   have fF:=s4 _ _ (Ne.symm jk) oD
   walk_at "rd"
   refine⟨_,SqL.of fF,_,Ed d6.1 (ee r d6.1 d6.2),⟨_,SqL.of cN⟩,?_⟩
   refine comp1 fF cN (fun q hq=>List.mem_of_mem_take (Ie hq)) s!"" rfl fun D hD=>?_
   have sD:=Same.new hD (o:=.lst (((FR names (R.take j)).map (cf names)).map V.int))
   have eD:upd H' D (.lst (((FR names (R.take j)).map (cf names)).map V.int)) D=some (.lst (((FR names (R.take j)).map (cf names)).map V.int)):=Ab
   have mh:=sD _ _ cN
   generalize upd H' D (.lst (((FR names (R.take j)).map (cf names)).map V.int))=H5 at sD eD mh ⊢
   refine⟨D,rfl,_,.inl (SqL.of eD),rfl,KJ _,?_⟩
   rw[Sj]
   have lh:=VZ (c:=names) fV
   refine ite2 (fun hy=>?_) (fun hn=>?_)
   ·have hy:¬ (cf names r∈(FR names (R.take j)).map (cf names)):=by simpa using hy
    refine⟨.inl ⟨rfl,_,SqL.of mh⟩,_,mh,by rw[List.length_map];lia,(au _ _ _).mpr ⟨_,fun b o hb e=>by rw[Ah hb];exact sD _ _ (s4 b o hb e),(md.trans sD).over iR,?_,rfl⟩⟩
    rw[Ab,lh,show Cq names (FR names (R.take j)) r=FR names (R.take j)++[r] from if_neg hy,List.map_append]
    rfl
   ·have hn:cf names r∈(FR names (R.take j)).map (cf names):=by simpa using hn
    refine (au _ _ _).mpr ⟨_,fun b o hb e=>sD _ _ (s4 b o hb e),md.trans sD,?_,rfl⟩
    rw[mh,lh,show Cq names (FR names (R.take j)) r=FR names (R.take j) from if_pos hn]
  ·obtain⟨o4,s4,md,cN,rfl⟩:=(au _ _ _).mp h'
   rw[List.length_map,List.take_length]at cN
   have fF:=s4 _ _ (Ne.symm jk) oD
   have oE:=Sw names R
   walk_at "rd"
   refine⟨⟨_,SqL.of cN⟩,?_⟩
   refine comp1 fF cN (fun q hq=>Ie hq) s!"" rfl fun pm cm=>?_
   have bX:∀q∈FR names R,q∈R:=fun q hq=>Ie hq
   have cI:∀g∈R,cf names g∈(FR names R).map (cf names)/\hm names R g=((((FR names R).map (cf names)).idxOf (cf names g):Nat):Int):=fun g hg=>by
    unfold hm
    rw[KW]
    exact⟨A3.mpr (List.mem_map_of_mem hg),rfl⟩
   have mj:=md.newT cm (o:=.lst (((FR names R).map (cf names)).map V.int))
   have oF:=Same.new cm (o:=.lst (((FR names R).map (cf names)).map V.int))
   have mn:upd H' pm (.lst (((FR names R).map (cf names)).map V.int)) pm=some (.lst (((FR names R).map (cf names)).map V.int)):=Ab
   generalize upd H' pm (.lst (((FR names R).map (cf names)).map V.int))=H5 at mj oF mn ⊢
   have mq:=oF _ _ cN
   have epn5:=oF _ _ fF
   generalize FR names R=F at cN mq oE bX cI k mn
   refine⟨⟨_,SqL.of mq⟩,?_⟩
   have hFz:F.length<sizeLine:=by lia
   refine QK (xs:=F.map V.int) (fun i' zs ah H'=>Same H5 H'/\AF K H' zs ((F.take i').map (hrow names R ae))/\∃o,ah=[o,some (.ref pm),some (.ref pn),some (.ref h)]) ⟨Same.refl _,AF.nil,none,rfl⟩ (by rw[List.length_map];exact hFz) (fun i' zs ah H' hi' h'=>⟨SqL.of (h'.1 _ _ mq),by rw[h'.2.1.1,List.length_map,List.length_take];lia⟩) (fun i' x zs ah H6 hx h'=>?_) (fun zs ah H6 h' pw br=>?_)
   ·obtain⟨s6,mv,o,rfl⟩:=h'
    obtain⟨r,fV,rfl⟩:=DD hx
    have mf:=bX r (List.mem_of_getElem? fV)
    have d6:=jZ mf
    obtain⟨row,w1,w2,w3⟩:=wf.row d6.1 d6.2
    obtain⟨oz,l7,g1,g2,g3⟩:=hh.mono (mj.trans s6)
    obtain⟨ys,t,z1,z2,z3⟩:=g3.atZ d6.1 w1
    have hrw:=wf.rows row w2
    have hgR:∀g∈row,g∈R:=fun g hg=>by
     obtain⟨x,hx,rfl⟩:=List.getElem_of_mem hg
     have:=hRs mf (x:=(x:Int)) s!"" s!""
     rw[BL w1 (g:=row[x]) (by rw[Int.toNat_natCast];exact List.getElem?_eq_getElem hx)]at this
     exact this
    walk_at "rd"
    refine⟨_,g1,_,rfl,l7,rfl,_,z1,_,z2,t,rfl,⟨_,z3⟩,?_⟩
    refine GO (ah:=[some (.ref pm),some (.ref pn)]) (fun x=>match x with | .int g=>.int (hm names R g)|_=>.non) rfl z3 (by rw[List.length_map];lia) (fun x hx R' gV=>?_) (fun D hD=>?_)
    ·obtain⟨g,hg,rfl⟩:=List.mem_map.mp hx
     have cA:=jZ (hgR g hg)
     obtain⟨hc1,cH⟩:=cI g (hgR g hg)
     have gC:=List.idxOf_lt_length_iff.mpr hc1
     rw[List.length_map]at gC
     walk_at "rd"
     refine⟨.inl ⟨rfl,_,SqL.of (s6 _ _ mn)⟩,_,SqL.of (s6 _ _ epn5),_,Ed cA.1 (ee g cA.1 cA.2),_,s6 _ _ mn,rfl,KJ _,(F.map (cf names)).idxOf (cf names g),by lia,⟨V.int (cf names g),?_,by simp[eqV]⟩,fun m z hm hz=>?_,?_⟩
     ·rw[List.getElem?_map,List.getElem?_eq_getElem (by rw[List.length_map];exact gC),List.getElem_idxOf];rfl
     ·obtain⟨y,hy,rfl⟩:=DD hz
      have aE:y≠cf names g:=fun z=>by
       have:=Qd (by rw[hy,z])
       lia
      simp[eqV,aE]
     ·rw[<-cH];exact gV
    ·refine⟨D,rfl,_,.inl ⟨SqL.of Ab,fun l dE=>?_⟩⟩
     have sD:=(Same.new hD (o:=.lst ((row.map V.int).map fun x=>match x with | .int g=>.int (hm names R g)|_=>.non))).newT dE (o:=.tup ((row.map V.int).map fun x=>match x with | .int g=>.int (hm names R g)|_=>.non))
     refine⟨s6.trans sD,?_,_,rfl⟩
     rw[List.take_add_one,fV,Option.toList_some,List.map_append]
     refine (mv.mono (TK.of sD)).snoc ?_
     rw[Ab,List.map_map]
     unfold hrow
     rw[List.getD_eq_getElem?_getD,w1,Option.getD_some,List.map_map]
     rfl
   ·obtain⟨s6,mv,o,rfl⟩:=h'
    rw[List.length_map,List.take_length]at mv
    have s7:=s6.newT br (o:=.lst zs)
    have epw:upd H6 pw (.lst zs) pw=some (.lst zs):=Ab
    have i7:AF K (upd H6 pw (.lst zs)) zs _:=mv.mono (TK.new br)
    generalize upd H6 pw (.lst zs)=H7 at s7 epw i7 ⊢
    have sH7:=mj.trans s7
    obtain⟨oz,l7,g1,g2,g3⟩:=hh.mono sH7
    have hf7:=s7 _ _ mq
    refine⟨_,g1,_,rfl,⟨_,SqL.of hf7⟩,?_⟩
    refine HW (ah:=[some (.ref h)]) (fun x=>match x with | .int g=>.int (mkR aa g)|_=>.non) rfl (SqL.of hf7) (by rw[List.length_map];exact hFz) (fun x hx R' gV=>?_) (fun D hD=>?_)
    ·obtain⟨g,hg,rfl⟩:=List.mem_map.mp hx
     have cA:=jZ (bX g hg)
     walk_at "rd"
     refine⟨_,g1,_,rfl,oz,rfl,_,g2,_,Ed cA.1 (v:=V.int (mkR aa g)) ?_,gV⟩
     rw[List.getElem?_map,Sx s!""];rfl
    ·have sD:=s7.newT hD (o:=.lst ((F.map V.int).map fun x=>match x with | .int g=>.int (mkR aa g)|_=>.non))
     have eD:upd H7 D (.lst ((F.map V.int).map fun x=>match x with | .int g=>.int (mkR aa g)|_=>.non)) D=some (.lst ((F.map (mkR aa)).map V.int)):=by rw[Ab,List.map_map,List.map_map];rfl
     have gX:=Same.new hD (o:=.lst ((F.map V.int).map fun x=>match x with | .int g=>.int (mkR aa g)|_=>.non))
     generalize upd H7 D (.lst ((F.map V.int).map fun x=>match x with | .int g=>.int (mkR aa g)|_=>.non))=H8 at sD eD gX ⊢
     refine⟨D,rfl,_,.inl ⟨SqL.of eD,fun l dE=>?_⟩⟩
     have sl:=Same.new dE (o:=.tup ((F.map (mkR aa)).map V.int))
     have el:upd H8 l (.tup ((F.map (mkR aa)).map V.int)) l=some (.tup ((F.map (mkR aa)).map V.int)):=Ab
     generalize upd H8 l (.tup ((F.map (mkR aa)).map V.int))=H9 at sl el ⊢
     have epw9:=sl _ _ (gX _ _ epw)
     refine⟨pw,rfl,_,.inl ⟨SqL.of epw9,fun l1 bj=>⟨by lia,fun p hp=>?_⟩⟩⟩
     have hz9:=i7.mono (TK.of (gX.trans sl))
     have mw:=(Same.new bj (o:=.tup zs)).newT hp (o:=.tup [V.int L,V.ref l,V.ref l1])
     have e1:=Same.new hp (o:=.tup [V.int L,V.ref l,V.ref l1]) _ _ (Ab (H:=H9) (a:=l1) (o:=.tup zs))
     have e2:upd (upd H9 l1 (.tup zs)) p (.tup [V.int L,V.ref l,V.ref l1]) p=some (.tup [V.int L,V.ref l,V.ref l1]):=Ab
     have hz10:=hz9.mono (TK.of mw)
     generalize upd (upd H9 l1 (.tup zs)) p (.tup [V.int L,V.ref l,V.ref l1])=jl at mw e1 e2 hz10 ⊢
     refine k p jl (((mj.trans sD).trans sl).trans mw) ⟨l,l1,SqT.of e2,SqT.of (mw _ _ el),?_⟩
     obtain⟨os,x1,x2,x3⟩:=Lf hz10
     refine⟨os.map (·.1),?_,by rw[<-x2,List.length_map,List.length_map],fun i t row hi hrow=>?_⟩
     ·rw[List.map_map]
      rw[x1]at e1
      exact SqT.of e1
     ·rw[<-x2,List.getElem?_map]at hrow
      rw[List.getElem?_map]at hi
      cases ho:os[i]? with
      |none=>rw[ho]at hi;cases hi
      |some o=>
       rw[ho]at hi hrow
       cases hi;cases hrow
       exact SqT.of (x3 o (List.mem_of_getElem? ho))
theorem Qf:∀{os bx:List aA.Wd},aA.Srt os->aA.Srt bx->(os.map (·.2)).Perm (bx.map (·.2))->os.map (·.2)=bx.map (·.2)
 |[],bx,_,_,h=>by
  have:=h.length_eq
  rw[List.length_map,List.length_map]at this
  rw[List.length_eq_zero_iff.mp (show bx.length=0 by simpa using this.symm)]
 |a::os,[],_,_,h=>by simp at h
 |a::os,b::bx,h1,h2,h=>by
  have c1:=List.pairwise_cons.mp h1
  have c2:=List.pairwise_cons.mp h2
  have e:a.2=b.2:=by
   refine Classical.byContradiction fun aE=>?_
   have ha:a.2∈(b::bx).map (·.2):=h.mem_iff.mp (by simp)
   have hb:b.2∈(a::os).map (·.2):=h.mem_iff.mpr (by simp)
   rw[List.map_cons,List.mem_cons]at ha hb
   obtain⟨x,hx,ex⟩:=List.mem_map.mp (ha.resolve_left aE)
   obtain⟨y,hy,ey⟩:=List.mem_map.mp (hb.resolve_left (Ne.symm aE))
   have g1:=c2.1 x hx
   have g2:=c1.1 y hy
   have kx:aA.kw x=aA.kw a:=by unfold aA.kw;rw[ex]
   have ky:aA.kw y=aA.kw b:=by unfold aA.kw;rw[ey]
   rw[kx]at g1
   rw[ky]at g2
   have e3:=aA.pblt_total g1 g2
   exact aE (congrArg (fun p:Int×List Int=>p.2) e3)
  have hp:(os.map (·.2)).Perm (bx.map (·.2)):=by
   rw[List.map_cons,List.map_cons,e]at h
   exact List.Perm.cons_inv h
  rw[List.map_cons,List.map_cons,e,Qf c1.2 c2.2 hp]
theorem Ro {L:Nat}{m1 m2:List Int}{w1 w2:List (List Int)}(f1:Wf L m1 w1)(f2:Wf L m2 w2)(h:EH L m1 w1 m2 w2):sM L m1 w1=sM L m2 w2/\sW L m1 w1=sW L m2 w2:=
 Can.eq (sCan f1) (sCan f2) fun v hv=>by rw[Ab_ f1 hv,Ab_ f2 hv];exact h v hv
theorem T3 {L:Nat}{m1:List Int}{w1:List (List Int)}(f1:Wf L m1 w1):EH L (sM L m1 w1) (sW L m1 w1) m1 w1:=fun v hv=>Ab_ f1 hv
theorem eqWs {K:PySem.W.Frag}     (ha:SqL K H a xs)(hb:SqL K H b ys)(hx:AF K H xs ws)(hy:AF K H ys ws):EqD K H 8 (.ref a) (.ref b) true:=by
 refine .inr ⟨a,b,xs,ys,rfl,rfl,.inl ⟨ha,hb⟩,fun _=>true,fun i x y h1 h2=>?_,?_⟩
 ·obtain⟨t,u,hu,rfl,ht⟩:=hx.at h1
  obtain⟨t2,u2,ke,rfl,la⟩:=hy.at h2
  rw[hu]at ke
  cases ke
  have:=EqD.ints (K:=K) (xs:=u) (ys:=u) (.inr ⟨SqT.of ht,SqT.of la⟩) 6
  simpa using this
 ·rw[decide_eq_true (by rw[hx.1,hy.1])]
  simp
theorem WsT.monoT   {os:List aA.Wd}  (h:WsT H os)(s:BV T H H')(hT:H T=some (.tbl ps)):WsT H' os:=fun w hw=>s.ne (h w hw) (fun _ z=>by cases z) hT
theorem FD     (hD:H D=some (.lst xs))(hb:H b=some o)(ho:∀ys,o ≠ .lst ys):upd H D u b=some o:=by
 rw[Ah (fun z=>by rw[z,hD]at hb;cases hb;exact ho _ rfl)];exact hb
theorem SW      (h:LamT T lp qual H)(hD:H D=some (.lst xs)):LamT T lp qual (upd H D (.lst ys)):=by
 rcases h with g|⟨c',oc,vs,t,g1,g2,g3,g4⟩
 ·exact .inl (FD hD g (fun _ z=>by cases z))
 ·exact .inr ⟨c',oc,vs,t,FD hD g1 (fun _ z=>by cases z),FD hD g2 (fun _ z=>by cases z),g3,g4⟩
theorem SX {K:PySem.W.Frag}    (hD:H D=some (.lst xs)):TSq K H (upd H D (.lst ys)):=fun b zs q=>by
 rcases q with (q|⟨o,q⟩)|q
 ·exact .inl (.inl (FD hD q (fun _ z=>by cases z)))
 ·exact .inl (.inr ⟨o,FD hD q (fun _ z=>by cases z)⟩)
 ·exact .inr q
noncomputable def XD (K:PySem.W.Frag):Sp:=fun vs H Q _=>∃(a:Addr) (ns:List Int),vs=[.ref a]/\SqL K H a (ns.map V.int)/\ns.length<=63/\H (tabP K "in_order")=some (.tbl #[])/\∀H',Q (.bl true) H'
theorem Cy_   (F:Fun K "law" "law" NY f fd)(T:Txt mg)
  (Z:Exs K mg av aq)
   (Ls:FnOk P w K mg base CX0 6 Jl SY ["house","more"] (SR K)) (HJ:Fun K "suite" "suite" Hx Jl SY) (Lu:Bj K SY ["house","more"] []) (Lv:mg "suite"=some (.ref Jl))
   (Qg:FnOk P w K mg base CX0 6 Nd WH ["house","more"] (Wy K)) (Lw:Fun K "slim" "slim" K3 Nd WH) (Qh:Bj K WH ["house","more"] []) (Qi:mg "slim"=some (.ref Nd))
   (Ao:FnOk P w K mg base CX0 1 Az AR ["script","k"] (Ll K)) (An:Fun K "_law_cell_at" "_law_cell_at" A2 Az AR) (Ap:Bj K AR ["script","k"] []) (Aq:mg "_law_cell_at"=some (.ref Az))
   (C7:FnOk P w K mg base CX0 2 BF Dt ["house","number","rooms"] (Oa K)) (B3:Fun K "_law_blown" "_law_blown" BZ BF Dt) (C8:Bj K Dt ["house","number","rooms"] []) (C9:mg "_law_blown"=some (.ref BF))
   (Eu:FnOk P w K mg base CX0 3 BU F3 ["script"] (Na K)) (Cy:Fun K "_law_house_by" "_law_house_by" Br BU F3) (Ew:Bj K F3 ["script"] []) (Ex:mg "_law_house_by"=some (.ref BU))
   (ER:FnOk P w K mg base CX0 2 Ce GG ["script","house"] (Wz K)) (CL:Fun K "_law_more_by" "_law_more_by" BJ Ce GG) (ES:Bj K GG ["script","house"] []) (ET:mg "_law_more_by"=some (.ref Ce))
   (DR:FnOk P w K mg base CX0 1 By Fe ["house","number"] (Lo K)) (Cb:Fun K "_law_turned_by" "_law_turned_by" Bk By Fe) (DS:Bj K Fe ["house","number"] []) (DT:mg "_law_turned_by"=some (.ref By))
   (HK:FnOk P w K mg base CX0 2 DC JF ["house"] (SV K)) (Ey:Fun K "_law_base" "_law_base" CP DC JF) (HN:Bj K JF ["house"] []) (HR:mg "_law_base"=some (.ref DC))
  : FnOk P w K mg base CX0 7 f fd ["script"] (XD K):=by
 refine F.ok JA (fun vs H Q E h=>?_) (fun aB A outer s H vs Q E hr h=>?_)
 ·obtain⟨a,ns,rfl,_⟩:=h;rfl
 ·obtain⟨a,ns,rfl,hs,hz,hT,k⟩:=h
  have hl:=AA
  refine⟨_,(Ac (Aj (i:=1) JA.nd (Am Eu (hr.mono (by decide)) rfl Ex Cy.kp Ew .nil Be (Aa (pvD 0) Ad)))
   (Ac (Aj (i:=2) JA.nd (Am ER (hr.mono (by decide)) rfl ET CL.kp ES .nil Be (Aa (pvD 0) (Aa (pvD 1) Ad))))
   (Ac (Aj (i:=3) JA.nd (Am Ao (hr.mono (by decide)) rfl Aq An.kp Ap .nil Be (Aa (pvD 0) (Aa Ae Ad))))
   (Ac (Aj (i:=4) JA.nd (Am DR (hr.mono (by decide)) rfl DT Cb.kp DS .nil Be (Aa (Am C7 (hr.mono (by decide)) rfl C9 B3.kp C8 .nil Be (Aa (Am HK (hr.mono (by decide)) rfl HR Ey.kp HN .nil Be (Aa (pvD 1) Ad)) (Aa (pvD 3) (Aa (As (opD0 B8) (Av (lenD Ak) (by rfl) T.len PySem.boot_len (Aa (Ai (ixTD AI) (pvD 1) Ae) Ad)) (As (opD Bu) (pvD 3) Ae)) Ad)))) (Aa (As (opD Bu) (pvD 3) Ae) Ad))))
   (Sz (Aj (i:=5) JA.nd (Am Ls (hr.mono (by decide)) rfl Lv HJ.kp Lu .nil Be (Aa (pvD 1) (Aa (pvD 2) Ad))))
   (Sz (Aj (i:=6) JA.nd (Am Qg (hr.mono (by decide)) rfl Qi Lw.kp Qh .nil Be (Aa (pvD 1) (Aa (pvD 2) Ad))))
   (Ac (DE (PW.pt (Zr (ptT (AB (YN 8 (hu9 hr)) (Am Ls (hr.mono (by decide)) rfl Lv HJ.kp Lu .nil Be (Aa (pvD 4) (Aa (pvD 2) Ad))) (pvD 5) (AY _))) (UI (ptT (AB (YN 8 (hu9 hr)) (Am Qg (hr.mono (by decide)) rfl Qi Lw.kp Qh .nil Be (Aa (pvD 4) (Aa (pvD 2) Ad))) (pvD 6) (AY _))))))
   (Ag (A0 AI_))
   Bg)
   (Ac (Aj (i:=7) JA.nd (B9 (Aa (AZ Gd rfl T.list PyProof.Rows.boot_list (Aa (pvD 5) Ad)) (Aa (AZ Gd rfl T.list PyProof.Rows.boot_list (Aa (pvD 6) Ad)) Ad))))
   (Ac (Bv (Ym PySem.F.plainAttrs_list PySem.F.slot_list_clear PySem.F.type_list_clear R4 (pvD 5)))
   (Ac (Bv (Ym PySem.F.plainAttrs_list PySem.F.slot_list_clear PySem.F.type_list_clear R4 (pvD 6)))
   (Ag (A0 (AP_ (UP (Yq 8 (hu9 hr)) (Am Ls (hr.mono (by decide)) rfl Lv HJ.kp Lu .nil Be (Aa (pvD 1) (Aa (pvD 2) Ad))) (Ai (ixLD Bw) (pvD 7) Ae) (AY _)) (AO_ (UP (Yq 8 (hu9 hr)) (Am Qg (hr.mono (by decide)) rfl Qi Lw.kp Qh .nil Be (Aa (pvD 1) (Aa (pvD 2) Ad))) (Ai (ixLD Bw) (pvD 7) Ae) (AY _)))))))))))))))),?_⟩
  walk_at "rd"
  refine⟨a,ns,rfl,hs,fun h L0 aa ae H1 s1 hh wf hm15=>?_⟩
  obtain⟨L,rfl⟩:∃L:Nat,L0=(L:Int):=⟨L0.toNat,by have:=wf.l1;lia⟩
  obtain⟨mm,wv,q1,q2,q3⟩:=id hh
  refine⟨a,h,ns,L,aa,ae,rfl,s1.seq hs,hh,wf,fun m H2 hm aT s2=>?_⟩
  refine⟨a,ns,5,rfl,(s1.trans s2).seq hs,?_⟩
  have lK:=(s1.trans s2) _ _ hT
  dsimp only
  have mM:sM L aa ae=sM L aa ae:=rfl
  have cZ:=sWf wf
  have hsl:(sM L aa ae).length<=aa.length:=by
   rw[Jz]
   exact YT wf
  refine⟨h,L,aa,ae,rfl,hh.mono s2,wf,fun hb H3 s3 hhb=>?_⟩
  generalize cell ns 5=num
  have dY:=Int.emod_nonneg num (show (4:Int)≠0 by decide)
  have hm4:=Int.emod_lt_of_pos num (show (0:Int)<4 by decide)
  refine⟨h,rfl,_,(s2.trans s3).seqT q1,_,rfl,mm,rfl,_,.inr ((s2.trans s3).seqT q2),num,rfl,by decide,?_⟩
  rw[List.length_map]
  obtain⟨nb,ni,hnb18⟩:∃nb:Nat,(aa.length:Int)+num%4=(nb:Int)/\nb<=18:=⟨((aa.length:Int)+num%4).toNat,by lia,by lia⟩
  rw[ni]
  refine⟨hb,L,_,_,num,nb,rfl,hhb,cZ,by lia,fun h4 m4 w4 H4 s4 lY lZ _ al4=>?_⟩
  refine⟨num,rfl,by decide,h4,L,m4,w4,num%40,rfl,lY,lZ,fun ho mo wo H5 s5 hho oG _ al5=>?_⟩
  have gL:EH L mo wo aa ae:=(al5.trans al4).trans (T3 wf)
  obtain⟨eM,eW⟩:=Ro oG wf gL
  have eS:P7 L mo wo m=P7 L aa ae m:=by unfold P7;rw[eM,eW]
  have eT:Wx L mo wo m=Wx L aa ae m:=by unfold Wx;rw[eM,eW]
  have s25:=(s3.trans s4).trans s5
  have kP:=s25 _ _ lK
  have hh5:=(hh.mono s2).mono s25
  clear al4 al5 gL eM eW s3 s4 s5 hhb lY lZ mM cZ hsl ni hnb18
  refine⟨h,L,m,aa,ae,rfl,hh5,wf,hm,aT,.inl kP,fun D1 H6 di s6 cj hDn1 hD1 hos1 hpm1 hsrt1=>?_⟩
  have oH:=Bz.monoQ hh5 (BV.tsq2 (T:=tabP K "in_order") s6 kP)
  have hho6:=Bz.monoQ hho (BV.tsq2 (T:=tabP K "in_order") s6 kP)
  obtain⟨ps6,mx⟩:=cj.is
  refine Sy ?_
  walk_at "rd"
  refine⟨h,L,m,aa,ae,rfl,oH,wf,hm,aT,cj,fun D2 H7 bx s7 hL7 hDn2 hD2 hos2 d9 hsrt2=>?_⟩
  have hh7:=Bz.monoQ oH (BV.tsq2 (T:=tabP K "in_order") s7 mx)
  have jm:=Bz.monoQ hho6 (BV.tsq2 (T:=tabP K "in_order") s7 mx)
  obtain⟨ps7,lj⟩:=hL7.is
  have hD17:H7 D1=some (.lst (aA.wv di)):=BV.ne (T:=tabP K "in_order") s7 hD1 (fun _ z=>by cases z) mx
  have hos17:WsT H7 di:=WsT.monoT (T:=tabP K "in_order") hos1 s7 mx
  refine Sy ?_
  walk_at "rd"
  refine⟨ho,L,m,mo,wo,rfl,jm,oG,hm,aT,hL7,fun D3 H8 os3 s8 hL8 hDn3 mR hos3 gx hsrt3=>?_⟩
  have n8:∀{b:Addr} {o:HO},H7 b=some o->(∀ps,o ≠ .tbl ps)->H8 b=some o:=fun e ho=>BV.ne (T:=tabP K "in_order") s8 e ho lj
  have hh8:=Bz.monoQ hh7 (BV.tsq2 (T:=tabP K "in_order") s8 lj)
  have hho8:=Bz.monoQ jm (BV.tsq2 (T:=tabP K "in_order") s8 lj)
  obtain⟨ps8,my⟩:=hL8.is
  have hD18:=n8 hD17 (fun _ z=>by cases z)
  have hD28:=n8 hD2 (fun _ z=>by cases z)
  have hos18:WsT H8 di:=WsT.monoT (T:=tabP K "in_order") hos17 s8 lj
  have hos28:WsT H8 bx:=WsT.monoT (T:=tabP K "in_order") hos2 s8 lj
  rw[eS]at gx
  have e31:=Qf hsrt3 hsrt1 (gx.trans hpm1.symm)
  have iI:=DL (K:=K) hos3
  rw[e31]at iI
  refine⟨D3,rfl,true,eqWs (SqL.of mR) (SqL.of hD18) iI (DL hos18),?_⟩
  rw[if_neg (by decide)]
  refine⟨ho,L,m,mo,wo,rfl,hho8,oG,hm,aT,hL8,fun D4 H9 os4 s9 kW hDn4 hD4 hos4 fD hsrt4=>?_⟩
  have n9:∀{b:Addr} {o:HO},H8 b=some o->(∀ps,o ≠ .tbl ps)->H9 b=some o:=fun e ho=>BV.ne (T:=tabP K "in_order") s9 e ho my
  have lb:=Bz.monoQ hh8 (BV.tsq2 (T:=tabP K "in_order") s9 my)
  have jo:=n9 hD18 (fun _ z=>by cases z)
  have jq:=n9 hD28 (fun _ z=>by cases z)
  have hos19:WsT H9 di:=WsT.monoT (T:=tabP K "in_order") hos18 s9 my
  have hos29:WsT H9 bx:=WsT.monoT (T:=tabP K "in_order") hos28 s9 my
  rw[eT]at fD
  have e42:=Qf hsrt4 hsrt2 (fD.trans d9.symm)
  have dA:=DL (K:=K) hos4
  rw[e42]at dA
  have jr:D1≠D2:=fun z=>by rw[<-z,hD1]at hDn2;cases hDn2
  refine⟨D4,rfl,true,eqWs (SqL.of hD4) (SqL.of jq) dA (DL hos29),?_⟩
  rw[if_neg (by decide)]
  clear n8 n9 hh8 hho8 hh7 jm oH hho6 iI dA
  refine⟨_,.inl (SqL.of jo),fun l dE=>?_⟩
  have sl:=Same.new dE (o:=.lst (aA.wv di))
  have el:upd H9 l (.lst (aA.wv di)) l=some (.lst (aA.wv di)):=Ab
  have hh10:=lb.mono sl
  have hL10:=LamT.mono kW sl
  have dF:=sl _ _ jo
  have cF:=sl _ _ jq
  have nl1:l≠D1:=Ne.symm (Al jo dE)
  have nl2:l≠D2:=Ne.symm (Al jq dE)
  have ho110:WsT (upd H9 l (.lst (aA.wv di))) di:=fun w hw=>sl _ _ (hos19 w hw)
  have ho210:WsT (upd H9 l (.lst (aA.wv di))) bx:=fun w hw=>sl _ _ (hos29 w hw)
  generalize upd H9 l (.lst (aA.wv di))=jl at sl el hh10 hL10 dF cF ho110 ho210 ⊢
  refine⟨_,.inl (SqL.of cF),fun l1 bj=>⟨by lia,fun p hp=>?_⟩⟩
  have g8:=(Same.new bj (o:=.lst (aA.wv bx))).newT hp (o:=.lst [V.ref l,V.ref l1])
  have el1:=Same.new hp (o:=.lst [V.ref l,V.ref l1]) _ _ (Ab (H:=jl) (a:=l1) (o:=.lst (aA.wv bx)))
  have ep:upd (upd jl l1 (.lst (aA.wv bx))) p (.lst [V.ref l,V.ref l1]) p=some (.lst [V.ref l,V.ref l1]):=Ab
  have hh11:=hh10.mono g8
  have hL11:=LamT.mono hL10 g8
  have bH:=g8 _ _ dF
  have dG:=g8 _ _ cF
  have el11:=g8 _ _ el
  have nl11:l1≠D1:=Ne.symm (Al dF bj)
  have nl12:l1≠D2:=Ne.symm (Al cF bj)
  have np1:p≠D1:=Ne.symm (Al (Same.new bj _ _ dF) hp)
  have np2:p≠D2:=Ne.symm (Al (Same.new bj _ _ cF) hp)
  have ho111:WsT (upd (upd jl l1 (.lst (aA.wv bx))) p (.lst [V.ref l,V.ref l1])) di:=fun w hw=>g8 _ _ (ho110 w hw)
  have ho211:WsT (upd (upd jl l1 (.lst (aA.wv bx))) p (.lst [V.ref l,V.ref l1])) bx:=fun w hw=>g8 _ _ (ho210 w hw)
  generalize upd (upd jl l1 (.lst (aA.wv bx))) p (.lst [V.ref l,V.ref l1])=g9 at g8 el1 ep hh11 hL11 bH dG el11 ho111 ho211 ⊢
  refine⟨.inl ⟨rfl,_,SqL.of bH⟩,_,bH,.inl ⟨rfl,_,SqL.of (by rw[Ah (Ne.symm jr)];exact dG)⟩,_,by rw[Ah (Ne.symm jr)];exact dG,?_⟩
  have dH:upd g9 D1 (.lst []) D2=some (.lst (aA.wv bx)):=by rw[Ah (Ne.symm jr)];exact dG
  have js:LamH K (upd (upd g9 D1 (.lst [])) D2 (.lst [])):=SW (SW hL11 bH) dH
  have jt:=Bz.monoQ (Bz.monoQ hh11 (SX (ys:=[]) bH)) (SX (ys:=[]) dH)
  have el12:upd (upd g9 D1 (.lst [])) D2 (.lst []) l=some (.lst (aA.wv di)):=by rw[Ah nl2,Ah nl1];exact el11
  have el112:upd (upd g9 D1 (.lst [])) D2 (.lst []) l1=some (.lst (aA.wv bx)):=by rw[Ah nl12,Ah nl11];exact el1
  have ep12:upd (upd g9 D1 (.lst [])) D2 (.lst []) p=some (.lst [V.ref l,V.ref l1]):=by rw[Ah np2,Ah np1];exact ep
  have ho112:WsT (upd (upd g9 D1 (.lst [])) D2 (.lst [])) di:=fun w hw=>FD dH (FD bH (ho111 w hw) (fun _ z=>by cases z)) (fun _ z=>by cases z)
  have ho212:WsT (upd (upd g9 D1 (.lst [])) D2 (.lst [])) bx:=fun w hw=>FD dH (FD bH (ho211 w hw) (fun _ z=>by cases z)) (fun _ z=>by cases z)
  generalize upd (upd g9 D1 (.lst [])) D2 (.lst [])=H12 at js jt el12 el112 ep12 ho112 ho212 ⊢
  obtain⟨ps12,gD⟩:=js.is
  refine⟨h,L,m,aa,ae,rfl,jt,wf,hm,aT,js,fun D5 mz os5 mB hL13 hDn5 og hos5 hpm5 hsrt5=>?_⟩
  have oI:∀{b:Addr} {o:HO},H12 b=some o->(∀ps,o ≠ .tbl ps)->mz b=some o:=fun e ho=>BV.ne (T:=tabP K "in_order") mB e ho gD
  have hh13:=Bz.monoQ jt (BV.tsq2 (T:=tabP K "in_order") mB gD)
  obtain⟨ps13,hT13⟩:=hL13.is
  have el13:=oI el12 (fun _ z=>by cases z)
  have el113:=oI el112 (fun _ z=>by cases z)
  have ep13:=oI ep12 (fun _ z=>by cases z)
  have ho113:WsT mz di:=WsT.monoT (T:=tabP K "in_order") ho112 mB gD
  have ho213:WsT mz bx:=WsT.monoT (T:=tabP K "in_order") ho212 mB gD
  have e51:=Qf hsrt5 hsrt1 (hpm5.trans hpm1.symm)
  have fq:=DL (K:=K) hos5
  rw[e51]at fq
  refine⟨_,SqL.of ep13,_,rfl,?_⟩
  refine⟨D5,rfl,l,rfl,true,eqWs (SqL.of og) (SqL.of el13) fq (DL ho113),?_⟩
  rw[if_pos rfl]
  refine⟨h,L,m,aa,ae,rfl,hh13,wf,hm,aT,hL13,fun D6 H14 os6 s14 hL14 hDn6 hD6 hos6 hpm6 hsrt6=>?_⟩
  have n14:∀{b:Addr} {o:HO},mz b=some o->(∀ps,o ≠ .tbl ps)->H14 b=some o:=fun e ho=>BV.ne (T:=tabP K "in_order") s14 e ho hT13
  have el114:=n14 el113 (fun _ z=>by cases z)
  have ep14:=n14 ep13 (fun _ z=>by cases z)
  have ho214:WsT H14 bx:=WsT.monoT (T:=tabP K "in_order") ho213 s14 hT13
  have e62:=Qf hsrt6 hsrt2 (hpm6.trans d9.symm)
  have hW6:=DL (K:=K) hos6
  rw[e62]at hW6
  exact⟨_,SqL.of ep14,_,rfl,D6,rfl,l1,rfl,true,eqWs (SqL.of hD6) (SqL.of el114) hW6 (DL ho214),k _⟩
end
theorem all_mk {l:PySem.W.OpenLaw}{w:World}{K:PySem.W.Frag}{h:Heap}{mg:Str->Option Value}{fa E1 BC DA Ea IX CB CA E8 Dj D8 AE Dn C3 I0 Fw Eb AW CC AX BD Jl Nd Az A6 BR Cc BF BU Ce By BS Cd DC oJ:Addr}(X:K.In h)(G:h.Ns mainGlobals mg)(hfa:mg "law"=some (.ref fa))
  {av aq:Addr}
  {T4 T5:Option Addr} {T6:Array (Option Value)} {T7 T8 T9 Ua Nf Ub:Value}
  {Od Oe:Option Addr} {Of:Array (Option Value)} {Og Oh Oi Oj Iz Ol:Value}
  {Qj Qk:Option Addr} {Ql:Array (Option Value)} {Qm Qn Qo Qp JG Qq:Value}
  {Rp Rq:Option Addr} {Rr:Array (Option Value)} {Rt Ru Rv Rw Lx Rx:Value}
  {XE XF:Option Addr} {XG:Array (Option Value)} {XH XI XJ XM S0 XN:Value}
  {Mo Mp:Option Addr} {Mq:Array (Option Value)} {Mr Ms Mt Mu Hm Mv:Value}
  {Ry Rz:Option Addr} {RA:Array (Option Value)} {RC RD RE RG Lz RH:Value}
  {Uc Ud:Option Addr} {Ue:Array (Option Value)} {Ug Uh Ui Uj Ng Uk:Value}
  {Ul Um:Option Addr} {Uo:Array (Option Value)} {Uq Ur Us Ut Nh Uu:Value}
  {RI RJ:Option Addr} {RK:Array (Option Value)} {RL RM RO RP LA RQ:Value}
  {G2 G3:Option Addr} {G4:Array (Option Value)} {G8 G9 Ha Hb DV Hd:Value}
  {Uv Uw:Option Addr} {Ux:Array (Option Value)} {Uy Uz UA UB Ni UC:Value}
  {Om Oo:Option Addr} {Oq:Array (Option Value)} {Ot Ou Ov Ow IA Ox:Value}
  {XO XQ:Option Addr} {XR:Array (Option Value)} {XS XT XU XW S1 XX:Value}
  {XY XZ:Option Addr} {X0:Array (Option Value)} {X1 X2 X3 X4 S2 X5:Value}
  {RS RT:Option Addr} {RU:Array (Option Value)} {RV RW RX RY RZ:Value}
  {FE FF:Option Addr} {FG:Array (Option Value)} {FH FJ FK FL Du FN:Value}
  {Mw My:Option Addr} {Mz:Array (Option Value)} {MA MB MC ME Hn MF:Value}
  {FO FP:Option Addr} {FQ:Array (Option Value)} {FT FU FV FW Dv FX:Value}
  {Oy Oz:Option Addr} {OA:Array (Option Value)} {OB OC OD OE IB OF:Value}
  {X6 X7:Option Addr} {X8:Array (Option Value)} {X9 Ya Yb Yc S3 Yd:Value}
  {Au_ Av_:Option Addr} {Aw_:Array (Option Value)} {Ax_ Ay_ Az_ AA_ WI AB_:Value}
  {LB LC:Option Addr} {LD:Array (Option Value)} {LF LG LH LI GH LJ:Value}
  {OG OH:Option Addr} {OI:Array (Option Value)} {OJ OK OL OM IC ON:Value}
  {JV JW:Option Addr} {JX:Array (Option Value)} {JY JZ J1 J2 F4 J3:Value}
  {LK LL:Option Addr} {LM:Array (Option Value)} {LN LO LP LQ GI LR:Value}
  {OO OP:Option Addr} {OQ:Array (Option Value)} {OR OS OT OU ID OV:Value}
  {J4 J5:Option Addr} {J6:Array (Option Value)} {J7 J8 J9 Ka F5 Kb:Value}
  {LS LU:Option Addr} {LV:Array (Option Value)} {LW LX LY LZ GJ L1:Value}
  {Jm Jn:Option Addr} {Jo:Array (Option Value)} {Jp Jq Jr Js Ff Jt:Value}
  {Kc Kd:Option Addr} {Ke:Array (Option Value)} {Kf Kg Kh Ki F6 Kj:Value}
  {L3 L4:Option Addr} {L5:Array (Option Value)} {L6 L7 L8 L9 GK Ma:Value}
  {Qr Qs:Option Addr} {Qt:Array (Option Value)} {Qu Qv Qw Qx JH Qy:Value}
  {Cz_ Zk:Option Addr} {CA_:Array (Option Value)} {CB_ Zl Zm Zn WJ Zo:Value}
  (a_jq:PySem.W.nsIn K mainGlobals "is_word"=some (some (.ref E1)))
  (l_jq:K.lookup E1=some ⟨T7,T4,.func (PySem.W.fnOf "is_word" "is_word" (AD Ee) (Aw Ee) (Af Ee) .none T8 T9 Ua T5 Nf Ub),T6⟩)
  (c_jq:PySem.W.codeIn K Nf "is_word"=true)
  (k_jq:PySem.W.keepIn K (.ref E1)=true)
  (a_jg:PySem.W.nsIn K mainGlobals "check_word"=some (some (.ref BC)))
  (l_jg:K.lookup BC=some ⟨Og,Od,.func (PySem.W.fnOf "check_word" "check_word" (AD BX) (Aw BX) (Af BX) .none Oh Oi Oj Oe Iz Ol),Of⟩)
  (c_jg:PySem.W.codeIn K Iz "check_word"=true)
  (k_jg:PySem.W.keepIn K (.ref BC)=true)
  (a_jl:PySem.W.nsIn K mainGlobals "next_word"=some (some (.ref DA)))
  (l_jl:K.lookup DA=some ⟨Qm,Qj,.func (PySem.W.fnOf "next_word" "next_word" (AD CO) (Aw CO) (Af CO) .none Qn Qo Qp Qk JG Qq),Ql⟩)
  (c_jl:PySem.W.codeIn K JG "next_word"=true)
  (k_jl:PySem.W.keepIn K (.ref DA)=true)
  (a_jn:PySem.W.nsIn K mainGlobals "words_to"=some (some (.ref Ea)))
  (l_jn:K.lookup Ea=some ⟨Rt,Rp,.func (PySem.W.fnOf "words_to" "words_to" (AD Dy) (Aw Dy) (Af Dy) .none Ru Rv Rw Rq Lx Rx),Rr⟩)
  (c_jn:PySem.W.codeIn K Lx "words_to"=true)
  (k_jn:PySem.W.keepIn K (.ref Ea)=true)
  (a_ju:PySem.W.nsIn K mainGlobals "trail"=some (some (.ref IX)))
  (l_ju:K.lookup IX=some ⟨XH,XE,.func (PySem.W.fnOf "trail" "trail" (AD Ht) (Aw Ht) (Af Ht) .none XI XJ XM XF S0 XN),XG⟩)
  (c_ju:PySem.W.codeIn K S0 "trail"=true)
  (k_ju:PySem.W.keepIn K (.ref IX)=true)
  (a_je:PySem.W.nsIn K mainGlobals "room_behind"=some (some (.ref CB)))
  (l_je:K.lookup CB=some ⟨Mr,Mo,.func (PySem.W.fnOf "room_behind" "room_behind" (AD B5) (Aw B5) (Af B5) .none Ms Mt Mu Mp Hm Mv),Mq⟩)
  (c_je:PySem.W.codeIn K Hm "room_behind"=true)
  (k_je:PySem.W.keepIn K (.ref CB)=true)
  (a_jo:PySem.W.nsIn K mainGlobals "words_in"=some (some (.ref CA)))
  (l_jo:K.lookup CA=some ⟨RC,Ry,.func (PySem.W.fnOf "words_in" "words_in" (AD CS) (Aw CS) (Af CS) .none RD RE RG Rz Lz RH),RA⟩)
  (c_jo:PySem.W.codeIn K Lz "words_in"=true)
  (k_jo:PySem.W.keepIn K (.ref CA)=true)
  (a_jr:PySem.W.nsIn K mainGlobals "ways_in"=some (some (.ref E8)))
  (l_jr:K.lookup E8=some ⟨Ug,Uc,.func (PySem.W.fnOf "ways_in" "ways_in" (AD Ef) (Aw Ef) (Af Ef) .none Uh Ui Uj Ud Ng Uk),Ue⟩)
  (c_jr:PySem.W.codeIn K Ng "ways_in"=true)
  (k_jr:PySem.W.keepIn K (.ref E8)=true)
  (a_js:PySem.W.nsIn K mainGlobals "reached"=some (some (.ref Dj)))
  (l_js:K.lookup Dj=some ⟨Uq,Ul,.func (PySem.W.fnOf "reached" "reached" (AD DF) (Aw DF) (Af DF) .none Ur Us Ut Um Nh Uu),Uo⟩)
  (c_js:PySem.W.codeIn K Nh "reached"=true)
  (k_js:PySem.W.keepIn K (.ref Dj)=true)
  (a_jp:PySem.W.nsIn K mainGlobals "numbered"=some (some (.ref D8)))
  (l_jp:K.lookup D8=some ⟨RL,RI,.func (PySem.W.fnOf "numbered" "numbered" (AD Dz) (Aw Dz) (Af Dz) .none RM RO RP RJ LA RQ),RK⟩)
  (c_jp:PySem.W.codeIn K LA "numbered"=true)
  (k_jp:PySem.W.keepIn K (.ref D8)=true)
  (a_j5:PySem.W.nsIn K mainGlobals "words_and_classes"=some (some (.ref AE)))
  (l_j5:K.lookup AE=some ⟨G8,G2,.func (PySem.W.fnOf "words_and_classes" "words_and_classes" (AD AO) (Aw AO) (Af AO) .none G9 Ha Hb G3 DV Hd),G4⟩)
  (c_j5:PySem.W.codeIn K DV "words_and_classes"=true)
  (k_j5:PySem.W.keepIn K (.ref AE)=true)
  (a_jt:PySem.W.nsIn K mainGlobals "tellers"=some (some (.ref Dn)))
  (l_jt:K.lookup Dn=some ⟨Uy,Uv,.func (PySem.W.fnOf "tellers" "tellers" (AD DG) (Aw DG) (Af DG) .none Uz UA UB Uw Ni UC),Ux⟩)
  (c_jt:PySem.W.codeIn K Ni "tellers"=true)
  (k_jt:PySem.W.keepIn K (.ref Dn)=true)
  (a_jh:PySem.W.nsIn K mainGlobals "classes_of"=some (some (.ref C3)))
  (l_jh:K.lookup C3=some ⟨Ot,Om,.func (PySem.W.fnOf "classes_of" "classes_of" (AD Ct) (Aw Ct) (Af Ct) .none Ou Ov Ow Oo IA Ox),Oq⟩)
  (c_jh:PySem.W.codeIn K IA "classes_of"=true)
  (k_jh:PySem.W.keepIn K (.ref C3)=true)
  (a_jv:PySem.W.nsIn K mainGlobals "homes"=some (some (.ref I0)))
  (l_jv:K.lookup I0=some ⟨XS,XO,.func (PySem.W.fnOf "homes" "homes" (AD Hv) (Aw Hv) (Af Hv) .none XT XU XW XQ S1 XX),XR⟩)
  (c_jv:PySem.W.codeIn K S1 "homes"=true)
  (k_jv:PySem.W.keepIn K (.ref I0)=true)
  (a_jw:PySem.W.nsIn K mainGlobals "least"=some (some (.ref Fw)))
  (l_jw:K.lookup Fw=some ⟨X1,XY,.func (PySem.W.fnOf "least" "least" (AD Gm) (Aw Gm) (Af Gm) .none X2 X3 X4 XZ S2 X5),X0⟩)
  (c_jw:PySem.W.codeIn K S2 "least"=true)
  (k_jw:PySem.W.keepIn K (.ref Fw)=true)
  (a_j1:PySem.W.nsIn K mainGlobals "in_order"=some (some (.ref Eb)))
  {aF:Addr}
  (l_j1:K.lookup Eb=some ⟨RV,RS,.func (PySem.W.fnOf "in_order" "in_order" (AD CT) (Aw CT) (Af CT) .none RW RX RY RT (.ref aF) RZ),RU⟩)
  {aG:Addr} {oC_in_order:Value} {dC_in_order:Option Addr} {sC_in_order:Array (Option Value)} {vC_in_order:Array Value} (lc_in_order:K.lookup aF=some ⟨oC_in_order,dC_in_order,.fields vC_in_order,sC_in_order⟩) (hx_in_order:vC_in_order[11]?=some (.ref aG)) (kt_in_order:K.lookup aG=none) (ch_in_order:PySem.W.codeHdIn K aF aG=true) (tb_in_order:h.get? aG=some (PySem.W.tabObj #[]))
  (c_j1:PySem.W.codeIn K (.ref aF) "in_order"=true)
  (k_j1:PySem.W.keepIn K (.ref Eb)=true)
  (a_j3:PySem.W.nsIn K mainGlobals "marks_from_each_room"=some (some (.ref AW)))
  (l_j3:K.lookup AW=some ⟨FH,FE,.func (PySem.W.fnOf "marks_from_each_room" "marks_from_each_room" (AD AJ) (Aw AJ) (Af AJ) .none FJ FK FL FF Du FN),FG⟩)
  (c_j3:PySem.W.codeIn K Du "marks_from_each_room"=true)
  (k_j3:PySem.W.keepIn K (.ref AW)=true)
  (a_jf:PySem.W.nsIn K mainGlobals "own_tellers"=some (some (.ref CC)))
  (l_jf:K.lookup CC=some ⟨MA,Mw,.func (PySem.W.fnOf "own_tellers" "own_tellers" (AD B6) (Aw B6) (Af B6) .none MB MC ME My Hn MF),Mz⟩)
  (c_jf:PySem.W.codeIn K Hn "own_tellers"=true)
  (k_jf:PySem.W.keepIn K (.ref CC)=true)
  (a_j4:PySem.W.nsIn K mainGlobals "tellers_of_each_room"=some (some (.ref AX)))
  (l_j4:K.lookup AX=some ⟨FT,FO,.func (PySem.W.fnOf "tellers_of_each_room" "tellers_of_each_room" (AD AK) (Aw AK) (Af AK) .none FU FV FW FP Dv FX),FQ⟩)
  (c_j4:PySem.W.codeIn K Dv "tellers_of_each_room"=true)
  (k_j4:PySem.W.keepIn K (.ref AX)=true)
  (a_ji:PySem.W.nsIn K mainGlobals "words_with"=some (some (.ref BD)))
  (l_ji:K.lookup BD=some ⟨OB,Oy,.func (PySem.W.fnOf "words_with" "words_with" (AD BY) (Aw BY) (Af BY) .none OC OD OE Oz IB OF),OA⟩)
  (c_ji:PySem.W.codeIn K IB "words_with"=true)
  (k_ji:PySem.W.keepIn K (.ref BD)=true)
  (a_jx:PySem.W.nsIn K mainGlobals "suite"=some (some (.ref Jl)))
  (l_jx:K.lookup Jl=some ⟨X9,X6,.func (PySem.W.fnOf "suite" "suite" (AD Hx) (Aw Hx) (Af Hx) .none Ya Yb Yc X7 S3 Yd),X8⟩)
  (c_jx:PySem.W.codeIn K S3 "suite"=true)
  (k_jx:PySem.W.keepIn K (.ref Jl)=true)
  (a_jy:PySem.W.nsIn K mainGlobals "slim"=some (some (.ref Nd)))
  (l_jy:K.lookup Nd=some ⟨Ax_,Au_,.func (PySem.W.fnOf "slim" "slim" (AD K3) (Aw K3) (Af K3) .none Ay_ Az_ AA_ Av_ WI AB_),Aw_⟩)
  (c_jy:PySem.W.codeIn K WI "slim"=true)
  (k_jy:PySem.W.keepIn K (.ref Nd)=true)
  (a_ja:PySem.W.nsIn K mainGlobals "_law_cell_at"=some (some (.ref Az)))
  (l_ja:K.lookup Az=some ⟨LF,LB,.func (PySem.W.fnOf "_law_cell_at" "_law_cell_at" (AD A2) (Aw A2) (Af A2) .none LG LH LI LC GH LJ),LD⟩)
  (c_ja:PySem.W.codeIn K GH "_law_cell_at"=true)
  (k_ja:PySem.W.keepIn K (.ref Az)=true)
  (a_jj:PySem.W.nsIn K mainGlobals "_law_mixed"=some (some (.ref A6)))
  (l_jj:K.lookup A6=some ⟨OJ,OG,.func (PySem.W.fnOf "_law_mixed" "_law_mixed" (AD BB) (Aw BB) (Af BB) .none OK OL OM OH IC ON),OI⟩)
  (c_jj:PySem.W.codeIn K IC "_law_mixed"=true)
  (k_jj:PySem.W.keepIn K (.ref A6)=true)
  (a_j7:PySem.W.nsIn K mainGlobals "_law_marks_by"=some (some (.ref BR)))
  (l_j7:K.lookup BR=some ⟨JY,JV,.func (PySem.W.fnOf "_law_marks_by" "_law_marks_by" (AD Bq) (Aw Bq) (Af Bq) .none JZ J1 J2 JW F4 J3),JX⟩)
  (c_j7:PySem.W.codeIn K F4 "_law_marks_by"=true)
  (k_j7:PySem.W.keepIn K (.ref BR)=true)
  (a_jb:PySem.W.nsIn K mainGlobals "_law_ways_by"=some (some (.ref Cc)))
  (l_jb:K.lookup Cc=some ⟨LN,LK,.func (PySem.W.fnOf "_law_ways_by" "_law_ways_by" (AD BI) (Aw BI) (Af BI) .none LO LP LQ LL GI LR),LM⟩)
  (c_jb:PySem.W.codeIn K GI "_law_ways_by"=true)
  (k_jb:PySem.W.keepIn K (.ref Cc)=true)
  (a_jk:PySem.W.nsIn K mainGlobals "_law_blown"=some (some (.ref BF)))
  (l_jk:K.lookup BF=some ⟨OR,OO,.func (PySem.W.fnOf "_law_blown" "_law_blown" (AD BZ) (Aw BZ) (Af BZ) .none OS OT OU OP ID OV),OQ⟩)
  (c_jk:PySem.W.codeIn K ID "_law_blown"=true)
  (k_jk:PySem.W.keepIn K (.ref BF)=true)
  (a_j8:PySem.W.nsIn K mainGlobals "_law_house_by"=some (some (.ref BU)))
  (l_j8:K.lookup BU=some ⟨J7,J4,.func (PySem.W.fnOf "_law_house_by" "_law_house_by" (AD Br) (Aw Br) (Af Br) .none J8 J9 Ka J5 F5 Kb),J6⟩)
  (c_j8:PySem.W.codeIn K F5 "_law_house_by"=true)
  (k_j8:PySem.W.keepIn K (.ref BU)=true)
  (a_jc:PySem.W.nsIn K mainGlobals "_law_more_by"=some (some (.ref Ce)))
  (l_jc:K.lookup Ce=some ⟨LW,LS,.func (PySem.W.fnOf "_law_more_by" "_law_more_by" (AD BJ) (Aw BJ) (Af BJ) .none LX LY LZ LU GJ L1),LV⟩)
  (c_jc:PySem.W.codeIn K GJ "_law_more_by"=true)
  (k_jc:PySem.W.keepIn K (.ref Ce)=true)
  (a_j6:PySem.W.nsIn K mainGlobals "_law_turned_by"=some (some (.ref By)))
  (l_j6:K.lookup By=some ⟨Jp,Jm,.func (PySem.W.fnOf "_law_turned_by" "_law_turned_by" (AD Bk) (Aw Bk) (Af Bk) .none Jq Jr Js Jn Ff Jt),Jo⟩)
  (c_j6:PySem.W.codeIn K Ff "_law_turned_by"=true)
  (k_j6:PySem.W.keepIn K (.ref By)=true)
  (a_j9:PySem.W.nsIn K mainGlobals "_law_order_of"=some (some (.ref BS)))
  (l_j9:K.lookup BS=some ⟨Kf,Kc,.func (PySem.W.fnOf "_law_order_of" "_law_order_of" (AD Bs) (Aw Bs) (Af Bs) .none Kg Kh Ki Kd F6 Kj),Ke⟩)
  (c_j9:PySem.W.codeIn K F6 "_law_order_of"=true)
  (k_j9:PySem.W.keepIn K (.ref BS)=true)
  (a_jd:PySem.W.nsIn K mainGlobals "_law_classes"=some (some (.ref Cd)))
  (l_jd:K.lookup Cd=some ⟨L6,L3,.func (PySem.W.fnOf "_law_classes" "_law_classes" (AD BK) (Aw BK) (Af BK) .none L7 L8 L9 L4 GK Ma),L5⟩)
  (c_jd:PySem.W.codeIn K GK "_law_classes"=true)
  (k_jd:PySem.W.keepIn K (.ref Cd)=true)
  (a_jm:PySem.W.nsIn K mainGlobals "_law_base"=some (some (.ref DC)))
  (l_jm:K.lookup DC=some ⟨Qu,Qr,.func (PySem.W.fnOf "_law_base" "_law_base" (AD CP) (Aw CP) (Af CP) .none Qv Qw Qx Qs JH Qy),Qt⟩)
  (c_jm:PySem.W.codeIn K JH "_law_base"=true)
  (k_jm:PySem.W.keepIn K (.ref DC)=true)
  (a_jz:PySem.W.nsIn K mainGlobals "law"=some (some (.ref oJ)))
  (l_jz:K.lookup oJ=some ⟨CB_,Cz_,.func (PySem.W.fnOf "law" "law" (AD NY) (Aw NY) (Af NY) .none Zl Zm Zn Zk WJ Zo),CA_⟩)
  (c_jz:PySem.W.codeIn K WJ "law"=true)
  (k_jz:PySem.W.keepIn K (.ref oJ)=true)
  (z_all:PySem.W.nsIn K mainGlobals "all"=some none)
  (z_enumerate:PySem.W.nsIn K mainGlobals "enumerate"=some none)
  (z_len:PySem.W.nsIn K mainGlobals "len"=some none)
  (z_list:PySem.W.nsIn K mainGlobals "list"=some none)
  (z_max:PySem.W.nsIn K mainGlobals "max"=some none)
  (z_min:PySem.W.nsIn K mainGlobals "min"=some none)
  (z_range:PySem.W.nsIn K mainGlobals "range"=some none)
  (z_sorted:PySem.W.nsIn K mainGlobals "sorted"=some none)
  (z_tuple:PySem.W.nsIn K mainGlobals "tuple"=some none)
  (z_zip:PySem.W.nsIn K mainGlobals "zip"=some none)
  (m_j2:PySem.W.nsIn K mainGlobals "AskError"=some (some (.ref av)))
  (m_j0:PySem.W.nsIn K mainGlobals "BadWord"=some (some (.ref aq)))
  (x_j0:PySem.W.excIn K aq bmV "ValueError.__new__"=true)
  (ga_j0:PySem.W.findIn K (.ref aq) "__getattribute__"=some (some (.builtin "BaseException.__getattribute__")))
  (hk_j0:PySem.W.findIn K (.ref aq) "__getattr__"=some none)
  {cd_j0:ClassData}
  (cl_j0:PySem.W.clsIn K aq=some cd_j0)
  (ca_j0:PySem.W.findIn K (.ref aq) "__class__"=some (some (.builtin "object.__class__")))
  (mo_j0:PySem.W.mroIn K aq (.type "object")=some true)
  (mb_j0:PySem.W.mroIn K aq (.type "BaseException")=some true)
  (e_j0:PySem.W.exmOne K (.ref aq) (.ref av)=some true)
  (v_j0:PySem.W.kitOne K (.ref aq) (.type "ValueError")=some true)
  (k_j0_j2:PySem.W.kitOne K (.ref aq) (.ref av)=some true)
  (k_j0_j0:PySem.W.kitOne K (.ref aq) (.ref aq)=some true)
  (gs:PySem.W.specialIn K (.builtin "object.__class__") "__get__"=some (some (.builtin "getset_descriptor.__get__")))
  (tk:PySem.W.takesIn K (.builtin "object.__class__")=some true)
  : ∃(fd:FuncData) (c T:Addr),PySem.W.tabIn K "in_order"=some (c,T)/\K.lookup T=none/\PySem.W.CodeHd h c T/\h.get? T=some (PySem.W.tabObj #[])/\(∀(s:Shared) (v:Value),BindsTo s fd ⟨[v],[]⟩ [("script",v)])/\∀base:Heap,K.In base->base.Ns mainGlobals mg->PySem.W.CodeHd base c T->BmOk mg base->FnOk l.prog w K mg base CX0 7 fa fd ["script"] (XD K):=by
 have e:=hfa.symm.trans (PySem.W.mg_of X G a_jz)
 cases e
 have T:Txt mg:=⟨PySem.W.mg_none_of X G z_all,PySem.W.mg_none_of X G z_enumerate,PySem.W.mg_none_of X G z_len,PySem.W.mg_none_of X G z_list,PySem.W.mg_none_of X G z_max,PySem.W.mg_none_of X G z_min,PySem.W.mg_none_of X G z_range,PySem.W.mg_none_of X G z_sorted,PySem.W.mg_none_of X G z_tuple,PySem.W.mg_none_of X G z_zip⟩
 have Z:Exs K mg av aq:=⟨PySem.W.mg_of X G m_j2,PySem.W.mg_of X G m_j0,x_j0,⟨ga_j0,hk_j0,by rw[cl_j0];rfl,ca_j0,gs,tk,mo_j0,mb_j0⟩,e_j0,v_j0,k_j0_j2,k_j0_j0⟩
 have Gs:=Bi (st:=Ee) l_jq c_jq k_jq
 have K9:=Gs.binds (ps:=["letters","word"]) fun _ _ _ _ _ _ us hl=>(by obtain⟨y0,y1,rfl⟩:=len2 hl;rfl)
 have La:=PySem.W.mg_of X G a_jq
 have B0:=Bi (st:=BX) l_jg c_jg k_jg
 have C0:=B0.binds (ps:=["letters","word"]) fun _ _ _ _ _ _ us hl=>(by obtain⟨y0,y1,rfl⟩:=len2 hl;rfl)
 have C1:=PySem.W.mg_of X G a_jg
 have Ek:=Bi (st:=CO) l_jl c_jl k_jl
 have HH:=Ek.binds (ps:=["letters","word"]) fun _ _ _ _ _ _ us hl=>(by obtain⟨y0,y1,rfl⟩:=len2 hl;rfl)
 have HI:=PySem.W.mg_of X G a_jl
 have E7:=Bi (st:=Dy) l_jn c_jn k_jn
 have Jb:=E7.binds (ps:=["letters","most"]) fun _ _ _ _ _ _ us hl=>(by obtain⟨y0,y1,rfl⟩:=len2 hl;rfl)
 have Jc:=PySem.W.mg_of X G a_jn
 have Lb:=Bi (st:=Ht) l_ju c_ju k_ju
 have Rc:=Lb.binds (ps:=["house","word"]) fun _ _ _ _ _ _ us hl=>(by obtain⟨y0,y1,rfl⟩:=len2 hl;rfl)
 have Rf:=PySem.W.mg_of X G a_ju
 have Dk:=Bi (st:=B5) l_je c_je k_je
 have Fu:=Dk.binds (ps:=["house","word"]) fun _ _ _ _ _ _ us hl=>(by obtain⟨y0,y1,rfl⟩:=len2 hl;rfl)
 have Fv:=PySem.W.mg_of X G a_je
 have C2:=Bi (st:=CS) l_jo c_jo k_jo
 have D0:=C2.binds (ps:=["house"]) fun _ _ _ _ _ _ us hl=>(by obtain⟨y0,rfl⟩:=len1 hl;rfl)
 have D7:=PySem.W.mg_of X G a_jo
 have Gz:=Bi (st:=Ef) l_jr c_jr k_jr
 have Li:=Gz.binds (ps:=["house"]) fun _ _ _ _ _ _ us hl=>(by obtain⟨y0,rfl⟩:=len1 hl;rfl)
 have Lj:=PySem.W.mg_of X G a_jr
 have DI:=Bi (st:=DF) l_js c_js k_js
 have E5:=DI.binds (ps:=["house"]) fun _ _ _ _ _ _ us hl=>(by obtain⟨y0,rfl⟩:=len1 hl;rfl)
 have E6:=PySem.W.mg_of X G a_js
 have D9:=Bi (st:=Dz) l_jp c_jp k_jp
 have GU:=D9.binds (ps:=["row"]) fun _ _ _ _ _ _ us hl=>(by obtain⟨y0,rfl⟩:=len1 hl;rfl)
 have GV:=PySem.W.mg_of X G a_jp
 have AQ:=Bi (st:=AO) l_j5 c_j5 k_j5
 have Bc:=AQ.binds (ps:=["house"]) fun _ _ _ _ _ _ us hl=>(by obtain⟨y0,rfl⟩:=len1 hl;rfl)
 have Bd:=PySem.W.mg_of X G a_j5
 have DK:=Bi (st:=DG) l_jt c_jt k_jt
 have Fc:=DK.binds (ps:=["house"]) fun _ _ _ _ _ _ us hl=>(by obtain⟨y0,rfl⟩:=len1 hl;rfl)
 have Fd:=PySem.W.mg_of X G a_jt
 have DJ:=Bi (st:=Ct) l_jh c_jh k_jh
 have Gw:=DJ.binds (ps:=["house"]) fun _ _ _ _ _ _ us hl=>(by obtain⟨y0,rfl⟩:=len1 hl;rfl)
 have Gx:=PySem.W.mg_of X G a_jh
 have Le:=Bi (st:=Hv) l_jv c_jv k_jv
 have Rj:=Le.binds (ps:=["house"]) fun _ _ _ _ _ _ us hl=>(by obtain⟨y0,rfl⟩:=len1 hl;rfl)
 have Rk:=PySem.W.mg_of X G a_jv
 have GA:=Bi (st:=Gm) l_jw c_jw k_jw
 have Jh:=GA.binds (ps:=["house"]) fun _ _ _ _ _ _ us hl=>(by obtain⟨y0,rfl⟩:=len1 hl;rfl)
 have Ji:=PySem.W.mg_of X G a_jw
 have GX:=Bi (st:=CT) l_j1 c_j1 k_j1
 have Je:=GX.binds (ps:=["words"]) fun _ _ _ _ _ _ us hl=>(by obtain⟨y0,rfl⟩:=len1 hl;rfl)
 have Jf:=PySem.W.mg_of X G a_j1
 have A9:=Bi (st:=AJ) l_j3 c_j3 k_j3
 have Cj:=A9.binds (ps:=["house","word"]) fun _ _ _ _ _ _ us hl=>(by obtain⟨y0,y1,rfl⟩:=len2 hl;rfl)
 have Ck:=PySem.W.mg_of X G a_j3
 have Dr:=Bi (st:=B6) l_jf c_jf k_jf
 have FA:=Dr.binds (ps:=["words","marks_behind","room"]) fun _ _ _ _ _ _ us hl=>(by obtain⟨y0,y1,y2,rfl⟩:=len3 hl;rfl)
 have FC:=PySem.W.mg_of X G a_jf
 have Ba:=Bi (st:=AK) l_j4 c_j4 k_j4
 have Cn:=Ba.binds (ps:=["house"]) fun _ _ _ _ _ _ us hl=>(by obtain⟨y0,rfl⟩:=len1 hl;rfl)
 have Co:=PySem.W.mg_of X G a_j4
 have B2:=Bi (st:=BY) l_ji c_ji k_ji
 have C5:=B2.binds (ps:=["base","more","ends"]) fun _ _ _ _ _ _ us hl=>(by obtain⟨y0,y1,y2,rfl⟩:=len3 hl;rfl)
 have C6:=PySem.W.mg_of X G a_ji
 have HJ:=Bi (st:=Hx) l_jx c_jx k_jx
 have Lu:=HJ.binds (ps:=["house","more"]) fun _ _ _ _ _ _ us hl=>(by obtain⟨y0,y1,rfl⟩:=len2 hl;rfl)
 have Lv:=PySem.W.mg_of X G a_jx
 have Lw:=Bi (st:=K3) l_jy c_jy k_jy
 have Qh:=Lw.binds (ps:=["house","more"]) fun _ _ _ _ _ _ us hl=>(by obtain⟨y0,y1,rfl⟩:=len2 hl;rfl)
 have Qi:=PySem.W.mg_of X G a_jy
 have An:=Bi (st:=A2) l_ja c_ja k_ja
 have Ap:=An.binds (ps:=["script","k"]) fun _ _ _ _ _ _ us hl=>(by obtain⟨y0,y1,rfl⟩:=len2 hl;rfl)
 have Aq:=PySem.W.mg_of X G a_ja
 have AV:=Bi (st:=BB) l_jj c_jj k_jj
 have A7:=AV.binds (ps:=["number","k","many"]) fun _ _ _ _ _ _ us hl=>(by obtain⟨y0,y1,y2,rfl⟩:=len3 hl;rfl)
 have A8:=PySem.W.mg_of X G a_jj
 have Cv:=Bi (st:=Bq) l_j7 c_j7 k_j7
 have Eo:=Cv.binds (ps:=["number","rooms"]) fun _ _ _ _ _ _ us hl=>(by obtain⟨y0,y1,rfl⟩:=len2 hl;rfl)
 have Ep:=PySem.W.mg_of X G a_j7
 have CJ:=Bi (st:=BI) l_jb c_jb k_jb
 have EJ:=CJ.binds (ps:=["script","letters","rooms"]) fun _ _ _ _ _ _ us hl=>(by obtain⟨y0,y1,y2,rfl⟩:=len3 hl;rfl)
 have EK:=PySem.W.mg_of X G a_jb
 have B3:=Bi (st:=BZ) l_jk c_jk k_jk
 have C8:=B3.binds (ps:=["house","number","rooms"]) fun _ _ _ _ _ _ us hl=>(by obtain⟨y0,y1,y2,rfl⟩:=len3 hl;rfl)
 have C9:=PySem.W.mg_of X G a_jk
 have Cy:=Bi (st:=Br) l_j8 c_j8 k_j8
 have Ew:=Cy.binds (ps:=["script"]) fun _ _ _ _ _ _ us hl=>(by obtain⟨y0,rfl⟩:=len1 hl;rfl)
 have Ex:=PySem.W.mg_of X G a_j8
 have CL:=Bi (st:=BJ) l_jc c_jc k_jc
 have ES:=CL.binds (ps:=["script","house"]) fun _ _ _ _ _ _ us hl=>(by obtain⟨y0,y1,rfl⟩:=len2 hl;rfl)
 have ET:=PySem.W.mg_of X G a_jc
 have Cb:=Bi (st:=Bk) l_j6 c_j6 k_j6
 have DS:=Cb.binds (ps:=["house","number"]) fun _ _ _ _ _ _ us hl=>(by obtain⟨y0,y1,rfl⟩:=len2 hl;rfl)
 have DT:=PySem.W.mg_of X G a_j6
 have Cw:=Bi (st:=Bs) l_j9 c_j9 k_j9
 have Es:=Cw.binds (ps:=["house"]) fun _ _ _ _ _ _ us hl=>(by obtain⟨y0,rfl⟩:=len1 hl;rfl)
 have Et:=PySem.W.mg_of X G a_j9
 have CK:=Bi (st:=BK) l_jd c_jd k_jd
 have EM:=CK.binds (ps:=["house"]) fun _ _ _ _ _ _ us hl=>(by obtain⟨y0,rfl⟩:=len1 hl;rfl)
 have EO:=PySem.W.mg_of X G a_jd
 have Ey:=Bi (st:=CP) l_jm c_jm k_jm
 have HN:=Ey.binds (ps:=["house"]) fun _ _ _ _ _ _ us hl=>(by obtain⟨y0,rfl⟩:=len1 hl;rfl)
 have HR:=PySem.W.mg_of X G a_jm
 have CC_:=Bi (st:=NY) l_jz c_jz k_jz
 have CU_:=CC_.binds (ps:=["script"]) fun _ _ _ _ _ _ us hl=>(by obtain⟨y0,rfl⟩:=len1 hl;rfl)
 have CV_:=PySem.W.mg_of X G a_jz
 have ti_in_order:=Xt a_j1 l_j1 rfl lc_in_order hx_in_order
 refine⟨PySem.W.fnOf "law" "law" (AD NY) (Aw NY) (Af NY) .none Zl Zm Zn Zk WJ Zo,aF,aG,ti_in_order,kt_in_order,PySem.W.codeHd_of_K X ch_in_order,tb_in_order,fun s v=>.of_eq rfl,fun base _ _ hC_ hB_=>?_⟩
 have FL_in_order:=Am_ (st:=CT) ti_in_order l_j1 c_j1 hC_ hB_
 have K8:=TU (P:=l.prog) (w:=w) (base:=base) Gs T Z
 have CZ:=N0 (P:=l.prog) (w:=w) (base:=base) B0 T Z K8 Gs K9 La
 have HE:=P5 (P:=l.prog) (w:=w) (base:=base) Ek T Z CZ B0 C0 C1
 have Ja:=Ra (P:=l.prog) (w:=w) (base:=base) E7 T Z HE Ek HH HI
 have Rb:=Xv (P:=l.prog) (w:=w) (base:=base) Lb T Z CZ B0 C0 C1
 have Ft:=Mm (P:=l.prog) (w:=w) (base:=base) Dk T Z Rb Lb Rc Rf
 have DZ:=Rg (P:=l.prog) (w:=w) (base:=base) C2 T Z
 have Lh:=TV (P:=l.prog) (w:=w) (base:=base) Gz T Z DZ C2 D0 D7
 have E3:=TX (P:=l.prog) (w:=w) (base:=base) DI T Z DZ C2 D0 D7
 have GS:=Rh (P:=l.prog) (w:=w) (base:=base) D9 T Z
 have Bb:=G0 (P:=l.prog) (w:=w) (base:=base) AQ T Z GS D9 GU GV
 have E9:=TY (P:=l.prog) (w:=w) (base:=base) DK T Z Bb AQ Bc Bd
 have Gv:=N3 (P:=l.prog) (w:=w) (base:=base) DJ T Z Bb AQ Bc Bd
 have Ri:=Xx (P:=l.prog) (w:=w) (base:=base) Le T Z E3 DI E5 E6 Gv DJ Gw Gx
 have Jg:=Xy (P:=l.prog) (w:=w) (base:=base) GA T Z E3 DI E5 E6 Ri Le Rj Rk
 have Jd:=Rl (P:=l.prog) (w:=w) (base:=base) FL_in_order T Z
 have Ci:=Fx (P:=l.prog) (w:=w) (base:=base) A9 T Z
 have Fz:=Mn (P:=l.prog) (w:=w) (base:=base) Dr T Z
 have Cm:=Fy (P:=l.prog) (w:=w) (base:=base) Ba T Z E9 DK Fc Fd Ci A9 Cj Ck Fz Dr FA FC
 have C4:=N7 (P:=l.prog) (w:=w) (base:=base) B2 T Z Ja E7 Jb Jc Ft Dk Fu Fv Lh Gz Li Lj Jd GX Je Jf
 have Ls:=Xz (P:=l.prog) (w:=w) (base:=base) HJ T Z E9 DK Fc Fd Jg GA Jh Ji C4 B2 C5 C6
 have Qg:=Ap_ (P:=l.prog) (w:=w) (base:=base) Lw T Z Jg GA Jh Ji Cm Ba Cn Co C4 B2 C5 C6
 have Ao:=Lm (P:=l.prog) (w:=w) (base:=base) An T Z
 have A5:=N9 (P:=l.prog) (w:=w) (base:=base) AV T Z
 have Em:=JS (P:=l.prog) (w:=w) (base:=base) Cv T Z A5 AV A7 A8
 have EI:=Ln (P:=l.prog) (w:=w) (base:=base) CJ T Z Ao An Ap Aq A5 AV A7 A8
 have C7:=Ob (P:=l.prog) (w:=w) (base:=base) B3 T Z A5 AV A7 A8
 have Eu:=JT (P:=l.prog) (w:=w) (base:=base) Cy T Z Ao An Ap Aq Em Cv Eo Ep EI CJ EJ EK C7 B3 C8 C9
 have ER:=Lp (P:=l.prog) (w:=w) (base:=base) CL T Z Ao An Ap Aq
 have DR:=Jj (P:=l.prog) (w:=w) (base:=base) Cb T Z
 have Er:=JU (P:=l.prog) (w:=w) (base:=base) Cw T Z
 have EL:=Lr (P:=l.prog) (w:=w) (base:=base) CK T Z
 have HK:=Qe (P:=l.prog) (w:=w) (base:=base) Ey T Z Er Cw Es Et EL CK EM EO
 have CT_:=Cy_ (P:=l.prog) (w:=w) (base:=base) CC_ T Z Ls HJ Lu Lv Qg Lw Qh Qi Ao An Ap Aq C7 B3 C8 C9 Eu Cy Ew Ex ER CL ES ET DR Cb DS DT HK Ey HN HR
 exact CT_
theorem walk {l:PySem.W.OpenLaw}{q:Program}{bQ:List Str}{XP:(Str->Option Value)->Heap->Prop}{YP:World->Heap->Prop}{d:DefRec}{K:Params->PySem.W.Frag}(hn:l.most=some 63)(j6:d.params.defaults=[])
  (hY:∀(w:World) (h:Heap),YP w h->(K w.params).In h)
  (F:∀(w:World) (mg:Str->Option Value) (fa:Addr) (h:Heap),YP w h->(K w.params).In h->h.Ns mainGlobals mg->mg d.name=some (.ref fa) ->
   ∃(fd:FuncData) (c T:Addr),PySem.W.tabIn (K w.params) "in_order"=some (c,T)/\(K w.params).lookup T=none/\PySem.W.CodeHd h c T/\h.get? T=some (PySem.W.tabObj #[])/\(∀(s:Shared) (u:Value),BindsTo s fd ⟨[u],[]⟩ [("script",u)])/\∀base:Heap,(K w.params).In base->base.Ns mainGlobals mg->PySem.W.CodeHd base c T->BmOk mg base->FnOk l.prog w (K w.params) mg base CX0 7 fa fd ["script"] (XD (K w.params))):
  PySem.W.WalkO q bQ XP YP l.row.toRowW d [] (fun f vs=>PySem.call f vs):=
 L2.walk_ofT (xT := "in_order") (n:=63) (k:=7) (x := "script") (CX:=fun _=>CX0) (sp:=fun w=>XD (K w.params)) hn (by decide) j6 ⟨rfl,by decide,by decide⟩ hY F (fun _ _ a _ _ ns hl ti hT hS=>⟨a,ns,rfl,hS,hl,by rw[Wm ti];exact hT,fun _=>rfl⟩) fun _ _ _ _ _ z=>z
end Mine
structure PySem.W.Fast:Prop where (tw11832692254154111246 tw10821363123368268495 tw4798976121724101535 tw11104998353435763448 tw4563339626060843036 tw3732563751665674501 tw5296801301025921447 tw7847222306075743674 tw7100658434748697807 tw17788370418555073567 tw9989414921894379563 tw13206863417039008419 tw12391450466062237484 tw7288611055373499754 tw6449448800123813132 tw3246333473324301098 tw17446843607617937942 tw1583034569135012133 tw5689306355497287518 tw12622957350519106003 tw1914621672365190028 tw5456580297797053064 tw11775777458134966823 tw7891515103409409876 tw5617390564746047969 tw1408323564524320098 tw18115065919213235250 tw5342714057141280260 tw8204707668227123693 tw4510193514032641534 tw2201821829850830017 tw17037081587173489914 tw18252601302117847638 tw17904330753434432430 tw9992359017244831208 tw7356458063084427775 tw5605405070676905751 tw17721738055299945720 tw17237348967831453178 tw4128000784316799090 tw13301507057499491787 tw1029132357126844484 tw12475167167289227471 tw15737625670294905941 tw14189728426581879579 tw4090918463006964012 tw14932338595091957581 tw13033844635473145862 tw14070146058095949399 tw14507620200407609259 tw2685655378340897822 tw5765500513520695160 tw5016378426853366904 tw6014374161693756796 tw5024711166381222203 tw16232140858900301979 tw9562522042039132708 tw8434803375406020874 tw10546081431619631917 tw16975328013271211632 tw10882700518159973524 tw4004533246785487029 tw4546032979698114744 tw12842110647628775192 tw13081769487688081467 tw13138196488987336002 tw1285069500090179780 tw6293302015434110491 tw10176056883133678503 tw12032051968256843185 tw17724782125724539085 tw8250557214527945866 tw391532070144100190 tw1827588372902307328 tw16090308889716182270 tw13172563078955304271 tw6709830897382492345 tw5684458865933885102 tw7469241960564370067 tw13263787381395235187 tw7557036374403057589 tw12205859331904833229 tw1238003549924876632 tw11655924913292020183 tw15209624096292684634 tw1405284136005767306 tw10199122400428570515 tw9806343954227815473 tw7091054228319052769 tw6086107081096983771 tw10637274653122017874 tw49190613553367471 tw9502688363500378898 tw13086684046967507217 tw3515462283989778904 tw10378982452588732610 tw17579424208105944011 tw7587451987259038208 tw4058424811758213135 tw14539336101829931284 tw7205096319301824817 tw15205976004085362299 tw2413119953839904388 tw14814283767192550644 tw4137272031084368820 tw16854164019349561056 tw18035894149777018114 tw7145855903002537772 tw8387607196355965041 tw16235879213812971337 tw11901179232485330419 tw4500289393267729469 tw2535355053174500232 tw15849354203332795379 tw2075302273211584196 tw8241858430624928969 tw8323385065228339370 tw8069406519943420126 tw11440097250451306685 tw4266153617585599427 tw17667634828017874820 tw9230371317026493392 tw12412077680420482966 tw8197889445114381271 tw2301190943268689403 tw17681863695966956301 tw3492577594167921058 tw220787806901908941 tw15390442272681499545 tw224774509725534626 tw2053999623992789199 tw1320592077490963327 tw14133866844556117879 tw1067976611221226800 tw17714152714542777707 tw7162354008647552428 tw15348266042966329925 tw3200620783629483227 tw18275041044624335787 tw14883195108322940958 tw3323826863576767881 tw9248223760867284645 tw18058617145633854557 tw2386392534315921873 tw1231417903922880189 tw4743321214786230952 tw7580550652841753378 tw1267476111038647861 tw6893287493401228647 tw18288782731693907306 tw4154384586908580560 tw3612173271133033967 tw8062525368992630919 tw11027239867494763899 tw2053247773578327576 tw1330436214605464127 tw12812461941804390928 tw10383057550281374832 tw12392498952153422890 tw1859122405879781866 tw15537580770478148709 tw10946114531431725531 tw18429703321745676121 tw10526573395998910953 tw17758092008388318372 tw9374045387528294288 tw9818019643935207443 tw10787987271398979551 tw14335206763852234396 tw1384447172664178076 tw7320932625040772014 tw13884309035022640069 tw13152058856523118232 tw15962466511861619531 tw1003337400522012553 tw4626010204895253396 tw9716692856132466738 tw5101760826422321936 tw1070879810678767842 tw9163071071056071792 tw4027326689636840490 tw3278896000243113326 tw1468080555307932961 tw8088689576617067978 tw10963414818554328719 tw13854059521538942136 tw2059515449429569642 tw1412169285492045055 tw7916252074189747987 tw6249223142605342013 tw663800670114808115 tw12023727229230027944 tw7467376362521027652 tw16339233294079478903 tw2923505958170954345 tw9154204308347042645 tw8640009436760513757 tw8301748863928493246 tw18281258357997291137 tw4437783237061379389 tw2991874682033397940 tw11514448134391656890 tw14037910079086051140 tw12543309728256910409 tw14623854416837853139 tw8142513053439687081 tw2625400884186919945 tw5737099373127285615 tw10455383402842212616 tw10778850561601526002 tw4358010894990919658 tw9809904979820276516 tw9960638166137617882 tw16351463720670339112 tw11419103261449135595 tw2904333656817442393 tw17397022494609316394 tw839319538470612292 tw8186335844075045133 tw1078660111618840470 tw12654093304036623067 tw2356874596819183215 tw8640194535109036754 tw6404076325729982356 tw14326556182381030109 tw4336172405787851249 tw15011963886543244933 tw16473805653702822513 tw7380025447580219402 tw7919865998326334713 tw2456931989391182850 tw14318340230286611334 tw6478325091490996369 tw5393895104465554464 tw13526381921689135068 tw4696697406275404870 tw377951539962033081 tw9846895502927554200 tw14126231819050898953 tw187196294916052227 tw357370340648048031 tw9836023133625188030 tw14522728109204262102 tw4564682744704092297 tw2880720465334400707 tw16164274623415663771 tw12788840379954032967 tw5003461418564399370 tw12965750274187386377 tw4175507186768012199 tw15126925175622087940 tw1124633790785559721 tw1566948358615637187 tw18433145330214242546 tw16977497085676113867 tw15494322995955292158 tw12510296700537208327 tw15361893948792081316 tw13768850580428316977 tw10339449569047773854 tw12136498077568664553 tw6833988065259158815 tw15578478652244210810 tw12975633531107517012 tw2237474467922972970 tw9175585741961944071 tw14134222453980147675 tw7946336919977949010 tw6755744619627980565:True)
open PySem PySem.W PyProof.Rows
set_option maxRecDepth 100000 in
set_option maxHeartbeats 0 in
theorem PySem.Challenge.cw_guessroom_k31_suites_of_alike_houses_holds : PySem.Challenge.rw_guessroom_k31_suites_of_alike_houses.Holds := by
  w_on; o_law; k_head; (case hw => w_witness2)
  k_fill
  refine Mine.walk (l := PySem.Challenge.rw_guessroom_k31_suites_of_alike_houses) rfl rfl (fun w h Y => PySem.W.km_in_of Y) ?F
  case F =>
    intro w mg fa h Y KX G hmg
    refine' Mine.all_mk KX G hmg ?a_jq ?l_jq ?c_jq ?k_jq ?a_jg ?l_jg ?c_jg ?k_jg ?a_jl ?l_jl ?c_jl ?k_jl ?a_jn ?l_jn ?c_jn ?k_jn ?a_ju ?l_ju ?c_ju ?k_ju ?a_je ?l_je ?c_je ?k_je ?a_jo ?l_jo ?c_jo ?k_jo ?a_jr ?l_jr ?c_jr ?k_jr ?a_js ?l_js ?c_js ?k_js ?a_jp ?l_jp ?c_jp ?k_jp ?a_j5 ?l_j5 ?c_j5 ?k_j5 ?a_jt ?l_jt ?c_jt ?k_jt ?a_jh ?l_jh ?c_jh ?k_jh ?a_jv ?l_jv ?c_jv ?k_jv ?a_jw ?l_jw ?c_jw ?k_jw ?a_j1 ?l_j1 ?lc_in_order ?hx_in_order ?kt_in_order ?ch_in_order ?tb_in_order ?c_j1 ?k_j1 ?a_j3 ?l_j3 ?c_j3 ?k_j3 ?a_jf ?l_jf ?c_jf ?k_jf ?a_j4 ?l_j4 ?c_j4 ?k_j4 ?a_ji ?l_ji ?c_ji ?k_ji ?a_jx ?l_jx ?c_jx ?k_jx ?a_jy ?l_jy ?c_jy ?k_jy ?a_ja ?l_ja ?c_ja ?k_ja ?a_jj ?l_jj ?c_jj ?k_jj ?a_j7 ?l_j7 ?c_j7 ?k_j7 ?a_jb ?l_jb ?c_jb ?k_jb ?a_jk ?l_jk ?c_jk ?k_jk ?a_j8 ?l_j8 ?c_j8 ?k_j8 ?a_jc ?l_jc ?c_jc ?k_jc ?a_j6 ?l_j6 ?c_j6 ?k_j6 ?a_j9 ?l_j9 ?c_j9 ?k_j9 ?a_jd ?l_jd ?c_jd ?k_jd ?a_jm ?l_jm ?c_jm ?k_jm ?a_jz ?l_jz ?c_jz ?k_jz ?z_all ?z_enumerate ?z_len ?z_list ?z_max ?z_min ?z_range ?z_sorted ?z_tuple ?z_zip ?m_j2 ?m_j0 ?x_j0 ?ga_j0 ?hk_j0 ?cl_j0 ?ca_j0 ?mo_j0 ?mb_j0 ?e_j0 ?v_j0 ?k_j0_j2 ?k_j0_j0 ?gs ?tk
    (case a_jq => k_is)
    (case l_jq => k_is)
    (case c_jq => k_is)
    (case k_jq => k_is)
    (case a_jg => k_is)
    (case l_jg => k_is)
    (case c_jg => k_is)
    (case k_jg => k_is)
    (case a_jl => k_is)
    (case l_jl => k_is)
    (case c_jl => k_is)
    (case k_jl => k_is)
    (case a_jn => k_is)
    (case l_jn => k_is)
    (case c_jn => k_is)
    (case k_jn => k_is)
    (case a_ju => k_is)
    (case l_ju => k_is)
    (case c_ju => k_is)
    (case k_ju => k_is)
    (case a_je => k_is)
    (case l_je => k_is)
    (case c_je => k_is)
    (case k_je => k_is)
    (case a_jo => k_is)
    (case l_jo => k_is)
    (case c_jo => k_is)
    (case k_jo => k_is)
    (case a_jr => k_is)
    (case l_jr => k_is)
    (case c_jr => k_is)
    (case k_jr => k_is)
    (case a_js => k_is)
    (case l_js => k_is)
    (case c_js => k_is)
    (case k_js => k_is)
    (case a_jp => k_is)
    (case l_jp => k_is)
    (case c_jp => k_is)
    (case k_jp => k_is)
    (case a_j5 => k_is)
    (case l_j5 => k_is)
    (case c_j5 => k_is)
    (case k_j5 => k_is)
    (case a_jt => k_is)
    (case l_jt => k_is)
    (case c_jt => k_is)
    (case k_jt => k_is)
    (case a_jh => k_is)
    (case l_jh => k_is)
    (case c_jh => k_is)
    (case k_jh => k_is)
    (case a_jv => k_is)
    (case l_jv => k_is)
    (case c_jv => k_is)
    (case k_jv => k_is)
    (case a_jw => k_is)
    (case l_jw => k_is)
    (case c_jw => k_is)
    (case k_jw => k_is)
    (case a_j1 => k_is)
    (case l_j1 => k_is)
    (case lc_in_order => k_is)
    (case hx_in_order => exact rfl)
    (case kt_in_order => first | k_is | kernel_rfl | exact rfl)
    (case ch_in_order => first | k_is | kernel_rfl)
    (case tb_in_order => exact PySem.W.km_tabs_of Y _ (.head _))
    (case c_j1 => k_is)
    (case k_j1 => k_is)
    (case a_j3 => k_is)
    (case l_j3 => k_is)
    (case c_j3 => k_is)
    (case k_j3 => k_is)
    (case a_jf => k_is)
    (case l_jf => k_is)
    (case c_jf => k_is)
    (case k_jf => k_is)
    (case a_j4 => k_is)
    (case l_j4 => k_is)
    (case c_j4 => k_is)
    (case k_j4 => k_is)
    (case a_ji => k_is)
    (case l_ji => k_is)
    (case c_ji => k_is)
    (case k_ji => k_is)
    (case a_jx => k_is)
    (case l_jx => k_is)
    (case c_jx => k_is)
    (case k_jx => k_is)
    (case a_jy => k_is)
    (case l_jy => k_is)
    (case c_jy => k_is)
    (case k_jy => k_is)
    (case a_ja => k_is)
    (case l_ja => k_is)
    (case c_ja => k_is)
    (case k_ja => k_is)
    (case a_jj => k_is)
    (case l_jj => k_is)
    (case c_jj => k_is)
    (case k_jj => k_is)
    (case a_j7 => k_is)
    (case l_j7 => k_is)
    (case c_j7 => k_is)
    (case k_j7 => k_is)
    (case a_jb => k_is)
    (case l_jb => k_is)
    (case c_jb => k_is)
    (case k_jb => k_is)
    (case a_jk => k_is)
    (case l_jk => k_is)
    (case c_jk => k_is)
    (case k_jk => k_is)
    (case a_j8 => k_is)
    (case l_j8 => k_is)
    (case c_j8 => k_is)
    (case k_j8 => k_is)
    (case a_jc => k_is)
    (case l_jc => k_is)
    (case c_jc => k_is)
    (case k_jc => k_is)
    (case a_j6 => k_is)
    (case l_j6 => k_is)
    (case c_j6 => k_is)
    (case k_j6 => k_is)
    (case a_j9 => k_is)
    (case l_j9 => k_is)
    (case c_j9 => k_is)
    (case k_j9 => k_is)
    (case a_jd => k_is)
    (case l_jd => k_is)
    (case c_jd => k_is)
    (case k_jd => k_is)
    (case a_jm => k_is)
    (case l_jm => k_is)
    (case c_jm => k_is)
    (case k_jm => k_is)
    (case a_jz => k_is)
    (case l_jz => k_is)
    (case c_jz => k_is)
    (case k_jz => k_is)
    (case z_all => k_is)
    (case z_enumerate => k_is)
    (case z_len => k_is)
    (case z_list => k_is)
    (case z_max => k_is)
    (case z_min => k_is)
    (case z_range => k_is)
    (case z_sorted => k_is)
    (case z_tuple => k_is)
    (case z_zip => k_is)
    (case m_j2 => k_is)
    (case m_j0 => k_is)
    (case x_j0 => k_exc)
    (case ga_j0 => k_is)
    (case hk_j0 => k_is)
    (case cl_j0 => k_is)
    (case ca_j0 => k_is)
    (case mo_j0 => k_is)
    (case mb_j0 => k_is)
    (case e_j0 => kts_exm)
    (case v_j0 => kit_is)
    (case k_j0_j2 => kit_is)
    (case k_j0_j0 => kit_is)
    (case gs => k_is)
    (case tk => k_is)
