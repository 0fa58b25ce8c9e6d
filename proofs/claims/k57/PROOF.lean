import PyProof.Rows.All
import Wide.All
import OpenK.AllK
import Wide.FinOn
import Lean
import PyProof.EqAt
import PyProof.EqKinds
import PyProof.TupleCall
import KE.KRevIter
import PyProof.ListRange
import PyProof.TupleOfGen
import PyProof.Draws
import PyProof.EnumMake
import PyProof.EnumFor
import PyProof.NeKinds
import KE.KDictList
import PyProof.Rows.TupDisplay
import PyProof.ZipIter
import PyProof.Rows.ZipGen
import KE.KItemsList
import PyProof.Rows.SumAny
import PyProof.StrWalks
import PyProof.StrCalls
import PyProof.StrCalls3
import PyProof.StrLawsFirst
import PyProof.StrLawsIn
import PyProof.SliceStr2
import PyProof.StrBlockI
import PyProof.Rows.StrWeight2
import PyProof.ListNew
import PyProof.DictRoadsH
import PyProof.WalkInts
import PyProof.Rows.MinMaxN
import KE.KDictLaws
import PyProof.StrCalls2
import PyProof.StrLawsChain
import KE.KIntText
import KE.KxText
import KE.KMinKey
import KE.KPairComp
import PyProof.MaxThree
import PyProof.DictWalks
import OpenK.KCls
import PyProof.Rows.SortShellK
import KE.KSortTup
import KE.KLam
import KE.KNestM
import PyProof.AttrMissHeap
import KE.KDictOf
import PyProof.TupleKey
import PyProof.SetKind
import PyProof.IsRules
import PyProof.Rows.SetFrom
import PySem.Challenge.RW_guessroom_k57_say_asker_refuses
set_option Elab.async false
set_option linter.all false
set_option maxRecDepth 100000
namespace L2
open PySem PySem.Spec PyProof.Rows
abbrev Key:=Sum Int Str
def CR_:Key->Value->Bool
 |.inl k,v=>Value.isInt k v
 |.inr x,v=>Value.isStrOf x v
def keyH (w:World):Key->Int
 |.inl k=>hashInt k
 |.inr x=>hashStr w x
theorem Eb:∀{k:Key} {v:Value},CR_ k v=true->(∃i t,k=Sum.inl i/\v=Value.int i t)\/(∃x t,k=Sum.inr x/\v=Value.str x t)
 |.inl i,v,h=>by
  obtain⟨t,e⟩:=Value.isInt_shape (k:=i) (v:=v) h
  exact .inl ⟨i,t,rfl,e⟩
 |.inr x,v,h=>by
  obtain⟨t,e⟩:=Value.isStrOf_shape (x:=x) (v:=v) h
  exact .inr ⟨x,t,rfl,e⟩
theorem DP_ (i:Int)(t:Tok):CR_ (.inl i) (.int i t)=true:=by simp[CR_,Value.isInt]
theorem DQ_ (x:Str)(t:Tok):CR_ (.inr x) (.str x t)=true:=by simp[CR_,Value.isStrOf]
theorem Jc_ (a b:Int):decide ((Sum.inl a:Key)=Sum.inl b)=(a==b):=by
 by_cases e:a=b
 ·subst e;simp
 ·have h:¬ (Sum.inl a:Key)=Sum.inl b:=fun q=>e (Sum.inl.inj q)
  rw[decide_eq_false h]
  exact (beq_eq_false_iff_ne.mpr e).symm
theorem Jd_ (a b:Str):decide ((Sum.inr a:Key)=Sum.inr b)=decide (a=b):=by
 by_cases e:a=b
 ·subst e;simp
 ·have h:¬ (Sum.inr a:Key)=Sum.inr b:=fun q=>e (Sum.inr.inj q)
  rw[decide_eq_false h,decide_eq_false e]
theorem Je_ (a:Int)(b:Str):decide ((Sum.inl a:Key)=Sum.inr b)=false:=decide_eq_false (fun q=>nomatch q)
theorem Jf_ (a:Str)(b:Int):decide ((Sum.inr a:Key)=Sum.inl b)=false:=decide_eq_false (fun q=>nomatch q)
def Ec (prog:Program)(w:World):PySem.KeyKind prog w Key where
 is:=CR_
 hash:=keyH w
 inj:=fun v a b ha hb=>by
  rcases Eb ha with ⟨i,t,rfl,rfl⟩|⟨x,t,rfl,rfl⟩
  ·rcases Eb hb with ⟨j,u,rfl,e⟩|⟨y,u,rfl,e⟩
   ·injection e with e1 _;rw[e1]
   ·exact nomatch e
  ·rcases Eb hb with ⟨j,u,rfl,e⟩|⟨y,u,rfl,e⟩
   ·exact nomatch e
   ·injection e with e1 _;rw[e1]
 byValue:=fun k v h=>by
  rcases Eb h with ⟨i,t,rfl,rfl⟩|⟨x,t,rfl,rfl⟩<;>rfl
 pyHash:=fun hv h=>by
  rcases Eb hv with ⟨i,t,rfl,rfl⟩|⟨x,t,rfl,rfl⟩
  ·exact wpAny_pyHash_int h
  ·exact wpAny_pyHash_str h
 eqBool:=fun hu hv h=>by
  rcases Eb hu with ⟨i,t,rfl,rfl⟩|⟨x,t,rfl,rfl⟩
  ·rcases Eb hv with ⟨j,u,rfl,rfl⟩|⟨y,u,rfl,rfl⟩
   ·rw[Jc_]at h;exact wpAny_eqBool_int h
   ·rw[Je_]at h;exact SeqAt.EqAt.int_str i t y u _ _ _ _ h
  ·rcases Eb hv with ⟨j,u,rfl,rfl⟩|⟨y,u,rfl,rfl⟩
   ·rw[Jf_]at h;exact SeqAt.EqAt.str_int x t j u _ _ _ _ h
   ·rw[Jd_]at h;exact wpAny_eqBool_str h
 «strs» := fun k x t v h=>by
  rcases Eb h with ⟨i,u,rfl,e⟩|⟨y,u,rfl,e⟩
  ·exact nomatch e
  ·injection e with e1 _
   subst e1
   cases v<;>rfl
theorem AH_ (prog:Program)(w:World)(i:Int)(t:Tok):(Ec prog w).is (.inl i) (.int i t)=true:=DP_ i t
theorem AI_ (prog:Program)(w:World)(x:Str)(t:Tok):(Ec prog w).is (.inr x) (.str x t)=true:=DQ_ x t
inductive V where
 | non|bl (b:Bool)|int (i:Int)|str (x:Str)|byt (b:Array UInt8)|flt (b:UInt64)|ref (a:Addr)|ty (n:String)
 deriving DecidableEq
def RelV:V->Value->Prop
 |.non,u=>u=Value.none
 |.bl b,u=>u=Value.bool b
 |.int i,u=>∃t,u=Value.int i t
 |.str x,u=>∃t,u=Value.str x t
 |.byt b,u=>∃t,u=Value.bytes b t
 |.flt b,u=>∃t,u=Value.float b t
 |.ref a,u=>u=Value.ref a
 |.ty n,u=>u=Value.type n
abbrev Vals:List V->List Value->Prop:=Paired RelV
theorem Vals.length   (r:Vals xs us):xs.length=us.length:=Paired.length r
theorem Vals.get:∀{xs:List V} {us:List Value} {i:Nat} {x:V},Vals xs us->xs[i]?=some x->∃u,us[i]?=some u/\RelV x u
 |_,_,_,_,.nil,e=>by simp at e
 |_,_,0,_,.cons r _,e=>by simp at e;subst e;exact⟨_,rfl,r⟩
 |_,_,i+1,x,.cons _ t,e=>by
  obtain⟨u,h1,h2⟩:=Vals.get (i:=i) (x:=x) t (by simpa using e)
  exact⟨u,by simpa using h1,h2⟩
theorem Vals.append:∀{xs ys:List V} {us ws:List Value},Vals xs us->Vals ys ws->Vals (xs++ys) (us++ws)
 |_,_,_,_,.nil,s=>s
 |_,_,_,_,.cons r t,s=>.cons r (Vals.append t s)
theorem Vals.take:∀{xs:List V} {us:List Value} (n:Nat),Vals xs us->Vals (xs.take n) (us.take n)
 |_,_,0,_=>.nil
 |_,_,_+1,.nil=>.nil
 |_,_,n+1,.cons r t=>.cons r (Vals.take n t)
theorem Vals.drop:∀{xs:List V} {us:List Value} (n:Nat),Vals xs us->Vals (xs.drop n) (us.drop n)
 |_,_,0,r=>r
 |_,_,_+1,.nil=>.nil
 |_,_,n+1,.cons _ t=>Vals.drop n t
def RelO:Option V->Option Value->Prop
 |some v,some u=>RelV v u
 |none,none=>True
 |_,_=>False
def KV {κ:Type}:List (κ×V)->List (κ×Value)->Prop:=Paired fun (p:κ×V) (q:κ×Value)=>p.1=q.1/\RelV p.2 q.2
def kV:Key->V
 |.inl i=>.int i
 |.inr x=>.str x
inductive HO where
 | lst (xs:List V)
 | tup (xs:List V)
 | dK (kvs:List (Key×V))|dT (kvs:List (List Key×V))
 | set (S:Int->Bool) (n:Nat)
 | ins (C dx:Addr) (fs:List (Str×V))
 | own (x:Addr)
 | xd (fs:List (Str×V))
 | met (f x:Addr)
 | rng (lo hi:Int)
 | frz (o:Obj) (u:HO)
 | tbl (ps:Array Value)
 | ext (φ:Heap->Prop)
abbrev Hp:=Addr->Option HO
def upd (H:Hp)(a:Addr)(o:HO):Hp:=fun b=>if b=a then some o else H b
theorem Ae    : upd H a o a=some o:=by unfold upd;rw[if_pos rfl]
theorem Ah    (h:b≠a):upd H a o b=H b:=by unfold upd;rw[if_neg h]
theorem KC_ {H:Hp}{a b:Addr}{o u:HO}(h:H a=some o)(h':H b=some u)(d:o≠u):a≠b:=by
 intro e;subst e;rw[h]at h';exact d (Option.some.inj h')
theorem B8 {H:Hp}{a b:Addr}{o:HO}(h:H a=some o)(h':H b=none):a≠b:=by
 intro e;subst e;rw[h]at h';cases h'
section
variable (P:Program) (w:World)
def C4 (H:Hp)(h:Heap)(a:Addr):HO->Prop
 |.lst xs=>xs.length<=sizeLine/\∃(its:List Value) (n:Nat),Vals xs its/\h.get? a=some {cls:=.type "list",data:=.seq its.toArray n}
 |.tup xs=>xs.length<=sizeLine/\∃its:List Value,Vals xs its/\IsTup h a its.toArray
 |.dK kvs=>kvs.length<=sizeLine/\(a==sysModules)=false/\∃vs,KV kvs vs/\h.DictOf (Ec P w) a vs
 |.dT kvs=>kvs.length<=sizeLine/\(a==sysModules)=false/\∃xs:List (List Key×Addr×Value),
   Paired (fun (p:List Key×V) (q:List Key×Addr×Value)=>p.1=q.1/\H q.2.1=some (.tup (p.1.map kV))/\RelV p.2 q.2.2) kvs xs /\
   ∃o es ep,h.get? a=some o/\o.ExactDict/\o.data=.dict es ep/\es.toList=xs.map (entryOfKey (tupleKind (Ec P w)))/\(xs.map (·.1)).Nodup
 |.set S n=>h.SetOf (intKind P w) a S n
 |.ins C dx fs=>H dx=some (.own a)/\fs.length<=1000/\dx≠a/\h.get? a=some (PySem.W.instObj C dx) /\
   ∃mA,h.Ns1 dx mA/\(∀f,RelO (fs.lookup f) (mA f))/\PySem.Within mA (fs.map (·.1))
 |.own _=>∃o,h.get? a=some o
 |.xd fs=>∃mA,h.Ns1 a mA/\∀f,RelO (fs.lookup f) (mA f)
 |.rng lo hi=>∃t u v,h.get? a=some {cls:=.type "range",data:=.fields #[.int lo t,.int hi u,.int 1 v]}
 |.frz o u=>h.get? a=some o/\C4 H h a u
 |.tbl ps=>h.get? a=some {cls:=.none,data:=.fields ps}
 |.met f x=>h.get? a=some (PySem.W.methodObj (.ref f) (.ref x))
 |.ext φ=>φ h/\(∃o,h.get? a=some o)/\∀h1 h2:Heap,φ h1->(∀o,h1.get? a=some o->h2.get? a=some o)->φ h2
def HOk (H:Hp)(h:Heap):Prop:=∀a o,H a=some o->C4 P w H h a o
end
section
variable {P:Program} {w:World} {H H':Hp} {h h':Heap} {a:Addr} {o:HO}
theorem C4.lt (x:C4 P w H h a o):a<h.objs.size:=by
 cases o with
 |lst xs=>obtain⟨_,_,_,_,e⟩:=x;exact Heap.lt_size e
 |tup xs=>obtain⟨_,_,_,p⟩:=x;exact p.lt
 |dK kvs=>obtain⟨_,_,_,_,o,_,_,e,_⟩:=x;exact Heap.lt_size e
 |dT kvs=>obtain⟨_,_,_,_,o,_,_,e,_⟩:=x;exact Heap.lt_size e
 |set S n=>obtain⟨o,_,_,_,e,_⟩:=x;exact Heap.lt_size e
 |ins C dx fs=>obtain⟨_,_,_,e,_⟩:=x;exact Heap.lt_size e
 |own y=>obtain⟨_,e⟩:=x;exact Heap.lt_size e
 |xd fs=>obtain⟨_,⟨_,_,_,e,_⟩,_⟩:=x;exact Heap.lt_size e
 |rng lo hi=>obtain⟨_,_,_,e⟩:=x;exact Heap.lt_size e
 |frz ob u=>obtain⟨e,_⟩:=x;exact Heap.lt_size e
 |tbl ps=>exact Heap.lt_size (show h.get? a=some _ from x)
 |met f y=>exact Heap.lt_size (show h.get? a=some _ from x)
 |ext φ=>obtain⟨_,⟨_,e⟩,_⟩:=x;exact Heap.lt_size e
theorem Paired.mapP {α β:Type}{F G:α->β->Prop}:∀{l₁:List α} {l₂:List β},Paired F l₁ l₂->(∀a b,F a b->G a b)->Paired G l₁ l₂
 |_,_,.nil,_=>.nil
 |_,_,.cons r t,f=>.cons (f _ _ r) (Paired.mapP t f)
theorem C4.stay (x:C4 P w H h a o)(k:∀b u,(b=a\/H b=some (.own a))->h.get? b=some u->h'.get? b=some u)
  (ho:∀b,H b=some (.own a)->H' b=some (.own a)) (ht:∀b xs,H b=some (.tup xs)->H' b=some (.tup xs)):C4 P w H' h' a o:=by
 induction o with
 |lst xs=>obtain⟨z,its,n,r,e⟩:=x;exact⟨z,its,n,r,k _ _ (.inl rfl) e⟩
 |tup xs=>obtain⟨z,its,r,ob,e,c⟩:=x;exact⟨z,its,r,ob,k _ _ (.inl rfl) e,c⟩
 |dK kvs=>obtain⟨z,y,vs,r,ob,es,ep,e,c⟩:=x;exact⟨z,y,vs,r,ob,es,ep,k _ _ (.inl rfl) e,c⟩
 |dT kvs=>
  obtain⟨z,y,xs,r,ob,es,ep,e,c⟩:=x
  exact⟨z,y,xs,Paired.mapP r fun p q z=>⟨z.1,ht _ _ z.2.1,z.2.2⟩,ob,es,ep,k _ _ (.inl rfl) e,c⟩
 |set S n=>obtain⟨ob,es,ep,t,e,c⟩:=x;exact⟨ob,es,ep,t,k _ _ (.inl rfl) e,c⟩
 |ins C dx fs=>
  obtain⟨d,z,ne,e,mA,⟨od,es,ep,e2,c⟩,r⟩:=x
  exact⟨ho _ d,z,ne,k _ _ (.inl rfl) e,mA,⟨od,es,ep,k _ _ (.inr d) e2,c⟩,r⟩
 |own y=>obtain⟨ob,e⟩:=x;exact⟨ob,k _ _ (.inl rfl) e⟩
 |xd fs=>obtain⟨mA,⟨od,es,ep,e,c⟩,r⟩:=x;exact⟨mA,⟨od,es,ep,k _ _ (.inl rfl) e,c⟩,r⟩
 |rng lo hi=>obtain⟨t,u,v,e⟩:=x;exact⟨t,u,v,k _ _ (.inl rfl) e⟩
 |frz ob u ih=>obtain⟨e,q⟩:=x;exact⟨k _ _ (.inl rfl) e,ih q⟩
 |tbl ps=>
  have e:h.get? a=some {cls:=.none,data:=.fields ps}:=x
  show h'.get? a=some {cls:=.none,data:=.fields ps}
  exact k a _ (.inl rfl) e
 |met f y=>
  have e:h.get? a=some (PySem.W.methodObj (.ref f) (.ref y)):=x
  show h'.get? a=some (PySem.W.methodObj (.ref f) (.ref y))
  exact k a _ (.inl rfl) e
 |ext φ=>obtain⟨p,⟨o,e⟩,st⟩:=x;exact⟨st _ _ p fun o q=>k _ _ (.inl rfl) q,⟨o,k _ _ (.inl rfl) e⟩,st⟩
theorem HOk.lt (x:HOk P w H h)(e:H a=some o):a<h.objs.size:=(x a o e).lt
theorem HOk.fresh (x:HOk P w H h)(e:h.objs.size<=a):H a=none:=by
 cases q:H a with
 |none=>rfl
 |some u=>exact absurd (Nat.lt_of_lt_of_le (x.lt q) e) (Nat.lt_irrefl _)
theorem HOk.kept (x:HOk P w H h)(k:∀b u,h.get? b=some u->h'.get? b=some u):HOk P w H h':=fun a o e=>
 (x a o e).stay (fun b u _ q=>k b u q) (fun _ q=>q) fun _ _ q=>q
theorem HOk.laid (x:HOk P w H h)(k:∀b u,h.get? b=some u->h'.get? b=some u)(hp:h.objs.size<=a)(new:C4 P w (upd H a o) h' a o):HOk P w (upd H a o) h':=fun b u e=>by
 have hn:=x.fresh hp
 by_cases hb:b=a
 ·subst hb;rw[Ae]at e;cases e;exact new
 ·rw[Ah hb]at e
  exact (x b u e).stay (fun c v _ q=>k c v q) (fun c q=>by rw[Ah (B8 q hn)];exact q) fun c xs q=>by rw[Ah (B8 q hn)];exact q
end
def Rd (H:Hp)(a:Addr)(u:HO):Prop:=H a=some u \/ ∃o,H a=some (.frz o u)
theorem Rd.ok       (r:Rd H a u)(x:HOk P w H h):C4 P w H h a u:=by
 rcases r with r|⟨o,r⟩
 ·exact x a u r
 ·obtain⟨_,q⟩:=x a _ r
  exact q
def Mut:Option HO->Prop
 |some (.lst _)=>True
 |some (.dK _)=>True
 |some (.dT _)=>True
 |some (.set _ _)=>True
 |some (.ins _ _ _)=>True
 |some (.ext _)=>True
 |_=>False
section
variable {P:Program} {w:World} {H:Hp} {h h':Heap} {x e:Addr} {o':HO}
theorem HOk.write (ok:HOk P w H h)(mu:Mut (H x))(he:e=x\/H e=some (.own x))(k:∀b u,b≠e->h.get? b=some u->h'.get? b=some u)(heo:∃u,h'.get? e=some u)
  (new:C4 P w (upd H x o') h' x o'):HOk P w (upd H x o') h':=fun b u q=>by
 have nown:∀c y,H c=some (.own y)->c≠x:=fun c y r z=>by subst z;rw[r]at mu;exact mu
 have ntup:∀c xs,H c=some (.tup xs)->c≠x:=fun c xs r z=>by subst z;rw[r]at mu;exact mu
 by_cases hb:b=x
 ·subst hb;rw[Ae]at q;cases q;exact new
 ·rw[Ah hb]at q
  by_cases hbe:b=e
  ·have q':H b=some (.own x):=by
    rcases he with z|z
    ·exact absurd (hbe.trans z) hb
    ·rw[hbe];exact z
   rw[q]at q';cases q'
   obtain⟨v,hv⟩:=heo
   exact⟨v,by rw[hbe];exact hv⟩
  ·refine (ok b u q).stay (fun c v hc r=>k c v ?_ r) (fun c r=>by rw[Ah (nown c b r)];exact r) fun c xs r=>by rw[Ah (ntup c xs r)];exact r
   rcases hc with rfl|hc
   ·exact hbe
   ·rintro rfl
    rcases he with z|z
    ·exact nown c b hc z
    ·rw[hc]at z;cases z;exact hb rfl
end
structure Un (fs ex:List Addr)(H H':Hp)(h h':Heap):Prop where
 keep:∀b o,h.get? b=some o->H b=none->b∉fs->b∉ex->h'.get? b=some o
 slot:∀b o,h.get? b=some o->H b=none->b∈fs->b∉ex->∃sl,h'.get? b=some {o with slots:=sl}
 free:∀b o,h.get? b=some o->H b=none->b∉ex->H' b=none
 there:∀b o,h.get? b=some o->b∉ex->∃o',h'.get? b=some o'
 tups:∀b xs,H b=some (.tup xs)->H' b=some (.tup xs)
 frzs:∀b o u,H b=some (.frz o u)->H' b=some (.frz o u)
 tbls:∀b ps,H b=some (.tbl ps)->∃more,H' b=some (.tbl (ps++more))
section
variable {fs fs' ex ex':List Addr} {H H1 H2:Hp} {h h1 h2 h':Heap} {a x e:Addr} {o:HO}
theorem Un.any (u:Un fs ex H H1 h h1)   (q:h.get? b=some ob)(n:H b=none)(hx:b∉ex):∃sl,h1.get? b=some {ob with slots:=sl}:=by
 by_cases hb:b∈fs
 ·exact u.slot b ob q n hb hx
 ·exact⟨ob.slots,u.keep b ob q n hb hx⟩
theorem Un.kept (k:∀b u,h.get? b=some u->h'.get? b=some u):Un fs ex H H h h' :=
 ⟨fun b ob q _ _ _=>k b ob q,fun b ob q _ _ _=>⟨ob.slots,k b ob q⟩,fun _ _ _ n _=>n,fun b ob q _=>⟨ob,k b ob q⟩,fun _ _ q=>q,fun _ _ _ q=>q,fun _ ps q=>⟨#[],by rw[q];simp⟩⟩
theorem Un.refl:Un fs ex H H h h:=Un.kept fun _ _ q=>q
theorem Un.laid (k:∀b u,h.get? b=some u->h'.get? b=some u)(hp:h.objs.size<=a)(hn:H a=none):Un fs ex H (upd H a o) h h' where
 keep:=fun b u q _ _ _=>k b u q
 slot:=fun b u q _ _ _=>⟨u.slots,k b u q⟩
 free:=fun b u q n _=>by rw[Ah (Nat.ne_of_lt (Nat.lt_of_lt_of_le (Heap.lt_size q) hp))];exact n
 there:=fun b u q _=>⟨u,k b u q⟩
 tups:=fun b xs q=>by rw[Ah (B8 q hn)];exact q
 frzs:=fun b u xs q=>by rw[Ah (B8 q hn)];exact q
 tbls:=fun b ps q=>⟨#[],by rw[Ah (B8 q hn),q];simp⟩
theorem Un.write (mu:Mut (H x))(he:e=x\/H e=some (.own x))(k:∀b u,b≠e->h.get? b=some u->h'.get? b=some u)(heo:∃u,h'.get? e=some u):Un fs ex H (upd H x o) h h':=by
 have hx:∀b,H b=none->b≠x:=fun b n z=>by subst z;rw[n]at mu;exact mu
 have hb:∀b,H b=none->b≠e:=fun b n z=>by
  subst z
  rcases he with r|r
  ·exact hx b n r
  ·rw[n]at r;cases r
 have hm:∀b u,H b=some u->¬ Mut (some u)->b≠x:=fun b u q nm z=>by subst z;rw[q]at mu;exact nm mu
 refine⟨fun b u q n _ _=>k b u (hb b n) q,fun b u q n _ _=>⟨u.slots,k b u (hb b n) q⟩,fun b u q n _=>by rw[Ah (hx b n)];exact n,fun b u q _=>?_,
  fun b xs q=>by rw[Ah (hm b _ q fun z=>z)];exact q,fun b u xs q=>by rw[Ah (hm b _ q fun z=>z)];exact q,fun b ps q=>⟨#[],by rw[Ah (hm b _ q fun z=>z),q];simp⟩⟩
 by_cases hbe:b=e
 ·subst hbe;exact heo
 ·exact⟨u,k b u hbe q⟩
end
def trk (h:Heap)(H:Hp):List Addr:=(List.range h.objs.size).filter fun a=>(H a).isSome
def hidT (h:Heap)(H:Hp):Heap:=PySem.W.hideAll h (trk h H)
theorem DR_ (h:Heap)(H:Hp):(hidT h H).objs.size=h.objs.size:=PySem.W.hideAll_size _ _
theorem FN_     (e:h.get? b=some o)(n:H b=none):(hidT h H).get? b=some o:=
 PySem.W.hideAll_get _ e fun hm=>by
  have q:(H b).isSome=true:=(List.mem_filter.mp hm).2
  rw[n]at q;simp at q
theorem HZ_     (e:(hidT h H).get? b=some o):h.get? b=some o/\H b=none:=by
 have e':h.get? b=some o:=PySem.W.of_hideAll (trk h H) e
 refine⟨e',?_⟩
 cases q:H b with
 |none=>rfl
 |some x=>
  have hm:b∈trk h H:=List.mem_filter.mpr ⟨List.mem_range.mpr (Heap.lt_size e'),by simp[q]⟩
  have z:(hidT h H).get? b=none:=PySem.W.hideAll_none (trk h H) hm
  rw[z]at e;cases e
def Ia_ (g h:Heap)(L:Addr):List (Addr×Obj):=(List.range h.objs.size).filterMap fun a=>if a=L\/(g.get? a).isSome=true then none else (h.get? a).map fun o=>(a,o)
def rest (g h:Heap)(L d:Addr):List (Addr×Obj):=(Ia_ g h L).filter fun p=>decide (p.1≠d)
end L2
namespace L2
open PySem PySem.Spec PyProof.Rows
structure Mod (K:PySem.W.Frag)(mg:Str->Option Value)(base:Heap):Prop where
 kin:K.In base
 glob:base.Ns mainGlobals mg
 blt:∃mb,base.Ns builtinsNs mb/\∀x:Str,x ≠ "__name__" -> mb x=bootBuiltins x
 nolimit:base.NoLimit
structure Cx where
 prog:Program
 w:World
 K:PySem.W.Frag
 mg:Str->Option Value
 base:Heap
 A:Around
 N:List Str
 s₀:Shared
 H₀:Hp
 env:Env
 outer:List Env
 stack:List Env
 ex:List Addr
 fn:Str->Bool
 calm:Bool
 pn:List (Addr×Obj)
 xe:Value->Shared->Prop
def frs (l:List Env):List Addr:=l.filterMap (·.frame)
abbrev Cx.fs (X:Cx):List Addr:=frs X.outer
def Vis (sc:Scope)(x:Str):Prop:=sc.names.lookup x=some .local\/sc.names.lookup x=some .cell\/sc.names.lookup x=some .free
def Loc (sc:Scope)(x:Str):Prop:=sc.names.lookup x=some .local\/sc.names.lookup x=some .cell
def Look (env:Env)(h:Heap)(m:Str->Option Value)(x:Str)(u:Value):Prop:=
 (env.kindOf x=some .local/\m x=some u)\/((env.kindOf x=some .cell\/env.kindOf x=some .free)/\∃c,env.cells.lookup x=some c/\h.IsCell c (some u))
structure Cx.Ok (X:Cx):Prop where
 mod:Mod X.K X.mg X.base
 kind:X.env.scope.kind=.function
 glob:X.env.globals=mainGlobals
 blt:X.env.builtins=builtinsNs
 above:X.s₀.heap.objs.size<=X.env.locals
 inj:∀x y c,X.env.cells.lookup x=some c->X.env.cells.lookup y=some c->x=y
 has:∀x,(X.env.kindOf x=some .cell\/X.env.kindOf x=some .free)->∃c,X.env.cells.lookup x=some c
 cab:∀x c,X.fn x=true->X.env.cells.lookup x=some c->X.s₀.heap.objs.size<=c
 hd:X.calm=true->X.A.handled=none
 frames:X.A.frames=some X.stack
 stk:X.stack=X.outer\/(X.stack=X.env::X.outer/\X.env.frame=some X.env.locals)
 exf:∀b∈X.ex,b≠X.env.locals/\∀x c,X.env.cells.lookup x=some c->c≠b
 bs:∀b o,X.base.get? b=some o->X.s₀.heap.get? b=some o/\X.H₀ b=none
 bsz:X.base.objs.size<=X.s₀.heap.objs.size
 noex:∀b o,X.base.get? b=some o->b∉X.ex
 exfs:∀b∈X.ex,b∉X.fs
 funs:X.s₀.heap.FunFrames X.base X.outer
 frf:∀b∈X.fs,X.H₀ b=none
structure Inv (X:Cx)(pins:List (Addr×Obj))(σ:List (Option V))(H:Hp)(s:Shared):Prop where
 ok:X.Ok
 os:s.os=X.s₀.os
 bare:AllBare s.gens
 base:Un X.fs X.ex X.H₀ H X.s₀.heap s.heap
 loc:∃m,s.heap.Ns X.env.locals m/\∀(i:Nat) (x:Str) (v:V),X.N[i]?=some x->σ[i]?=some (some v)->Vis X.env.scope x->∃u,RelV v u/\Look X.env s.heap m x u
 cell:∀x c,X.env.cells.lookup x=some c->∃v,s.heap.IsCell c v
 free:H X.env.locals=none
 freeC:∀x c,X.env.cells.lookup x=some c->H c=none
 pin:∀p∈X.pn++pins,s.heap.get? p.1=some p.2/\H p.1=none/\p.1≠X.env.locals/\p.1∉X.fs/\∀v,p.2.data ≠ .cell v
 hok:HOk X.prog X.w H s.heap
 len:σ.length=X.N.length
section
variable {X:Cx} {pins:List (Addr×Obj)} {σ:List (Option V)} {H H':Hp} {s:Shared} {h':Heap}
theorem Cx.Ok.nofr (ok:X.Ok)   (e:X.base.get? b=some o):b∉X.fs:=fun hb=>by
 have:=(ok.funs.mem hb).1
 rw[e]at this;cases this
theorem Inv.bs (I:Inv X pins σ H s):∀b o,X.base.get? b=some o->s.heap.get? b=some o/\H b=none:=fun b o e=>
 ⟨I.base.keep b o (I.ok.bs b o e).1 (I.ok.bs b o e).2 (I.ok.nofr e) (I.ok.noex b o e),I.base.free b o (I.ok.bs b o e).1 (I.ok.bs b o e).2 (I.ok.noex b o e)⟩
theorem Inv.bk (I:Inv X pins σ H s):∀b o,X.base.get? b=some o->s.heap.get? b=some o:=fun b o e=>(I.bs b o e).1
theorem Inv.mod (I:Inv X pins σ H s):Mod X.K X.mg X.base:=I.ok.mod
theorem Inv.kIn (I:Inv X pins σ H s):X.K.In s.heap:=I.ok.mod.kin.keeps I.bk
theorem Inv.lt (I:Inv X pins σ H s):X.env.locals<s.heap.objs.size:=let ⟨_,hn,_⟩:=I.loc;hn.lt
theorem Inv.sz (I:Inv X pins σ H s):X.s₀.heap.objs.size<=s.heap.objs.size:=Nat.le_trans I.ok.above (Nat.le_of_lt I.lt)
theorem Inv.nofs (I:Inv X pins σ H s)  (h:s.heap.objs.size<=a):a∉X.fs:=fun hb=>by
 obtain⟨_,o,ho,_⟩:=I.ok.funs.mem hb
 exact absurd (Nat.lt_of_lt_of_le (Heap.lt_size ho) (Nat.le_trans I.sz h)) (Nat.lt_irrefl _)
theorem Inv.cne (I:Inv X pins σ H s):∀x c,X.env.cells.lookup x=some c->c≠X.env.locals:=fun x c e z=>by
 obtain⟨v,o,ho,hd⟩:=I.cell x c e
 obtain⟨m,⟨o',es,ep,ho',hd',_⟩,_⟩:=I.loc
 rw[z,ho']at ho;cases ho;rw[hd']at hd;cases hd
theorem Inv.funs (I:Inv X pins σ H s):s.heap.FunFrames X.base X.outer:=by
 have all:∀(l:List Env),(∀b∈frs l,b∈X.fs)->X.s₀.heap.FunFrames X.base l->s.heap.FunFrames X.base l:=by
  intro l
  induction l with
  |nil=>intro _ _;trivial
  |cons env r ih=>
   intro hs hl
   obtain⟨hk,⟨L,o,hf,hn,ho,hd⟩,hr⟩:=hl
   have hL:L∈X.fs:=hs L (by unfold frs;rw[List.filterMap_cons,hf];exact List.mem_cons_self)
   obtain⟨sl,e⟩:=I.base.slot L o ho (I.ok.frf L hL) hL fun z=>I.ok.exfs L z hL
   exact⟨hk,⟨L,_,hf,hn,e,hd⟩,ih (fun b hb=>hs b (by unfold frs;rw[List.filterMap_cons,hf];exact List.mem_cons_of_mem _ hb)) hr⟩
 exact all X.outer (fun _ hb=>hb) I.ok.funs
theorem Inv.stack (I:Inv X pins σ H s):s.heap.FunFrames X.base X.stack:=by
 rcases I.ok.stk with e|⟨e,hf⟩
 ·rw[e];exact I.funs
 ·rw[e]
  obtain⟨m,hn,_⟩:=I.loc
  refine .cons (by rw[I.ok.kind];decide) hf hn ?_ I.funs
  exact Heap.get?_none_of_le (Nat.le_trans I.ok.bsz I.ok.above)
theorem Inv.stkSub (I:Inv X pins σ H s):∀b∈frs X.stack,b∈X.env.locals::X.fs:=fun b hb=>by
 rcases I.ok.stk with e|⟨e,hf⟩
 ·rw[e]at hb;exact List.mem_cons_of_mem _ hb
 ·rw[e]at hb
  unfold frs at hb
  rw[List.filterMap_cons,hf]at hb
  exact hb
theorem Inv.stkFree (I:Inv X pins σ H s):∀b∈frs X.stack,H b=none:=fun b hb=>by
 rcases List.mem_cons.mp (I.stkSub b hb) with e|hb
 ·rw[e];exact I.free
 ·obtain⟨_,o,ho,_⟩:=I.ok.funs.mem hb
  exact I.base.free b o ho (I.ok.frf b hb) fun z=>I.ok.exfs b z hb
theorem Inv.step {g':Array GenState}{t':Nat}{d':Drawn}{ch:List Addr}(I:Inv X pins σ H s)
  (hch:∀b∈ch,(b∈X.ex\/X.s₀.heap.objs.size<=b)/\b≠X.env.locals/\(∀x c,X.env.cells.lookup x=some c->c≠b)/\∀p∈X.pn++pins,p.1≠b)
  (keep:∀b o,b≠X.env.locals->b∉X.fs->b∉ch->s.heap.get? b=some o->H b=none->h'.get? b=some o)
  (slot:∀b o,b≠X.env.locals->b∈X.fs->b∉ch->s.heap.get? b=some o->H b=none->∃sl,h'.get? b=some {o with slots:=sl}) (free:∀b o,b∉ch->s.heap.get? b=some o->H b=none->H' b=none)
  (there:∀b o,b∉ch->s.heap.get? b=some o->∃o',h'.get? b=some o')
  (tups:∀b xs,H b=some (.tup xs)->H' b=some (.tup xs)) (frzs:∀b o u,H b=some (.frz o u)->H' b=some (.frz o u)) (tbls:∀b ps,H b=some (.tbl ps)->∃more,H' b=some (.tbl (ps++more)))
  (ns:∀m,s.heap.Ns X.env.locals m->h'.Ns X.env.locals m) (hok:HOk X.prog X.w H' h') (hg:AllBare g'):
  Inv X pins σ H' {s with heap:=h',gens:=g',drawn:=d',toks:=t' }:=by
 have neL:∀b o,X.s₀.heap.get? b=some o->b≠X.env.locals:=fun b o e=>Nat.ne_of_lt (Nat.lt_of_lt_of_le (Heap.lt_size e) I.ok.above)
 have neC:∀b o,X.s₀.heap.get? b=some o->b∉X.ex->b∉ch:=fun b o e hx hb=>by
  rcases (hch b hb).1 with z|z
  ·exact hx z
  ·exact absurd (Nat.lt_of_lt_of_le (Heap.lt_size e) z) (Nat.lt_irrefl _)
 have cellK:∀x c,X.env.cells.lookup x=some c->∀v,s.heap.IsCell c v->h'.IsCell c v:=fun x c e v ⟨o,ho,hd⟩=>by
  have nch:c∉ch:=fun z=>(hch c z).2.2.1 x c e rfl
  by_cases hc:c∈X.fs
  ·obtain⟨sl,q⟩:=slot c o (I.cne x c e) hc nch ho (I.freeC x c e)
   exact⟨_,q,hd⟩
  ·exact⟨o,keep c o (I.cne x c e) hc nch ho (I.freeC x c e),hd⟩
 refine⟨I.ok,I.os,hg,⟨fun b o e n hb hx=>?_,fun b o e n hb hx=>?_,fun b o e n hx=>?_,fun b o e hx=>?_,fun b xs e=>tups b xs (I.base.tups b xs e),fun b o xs e=>frzs b o xs (I.base.frzs b o xs e),fun b ps e=>?_⟩,?_,fun x c e=>?_,?_,fun x c e=>?_,fun p hp=>?_,hok,I.len⟩
 ·exact keep b o (neL b o e) hb (neC b o e hx) (I.base.keep b o e n hb hx) (I.base.free b o e n hx)
 ·obtain⟨sl,e1⟩:=I.base.slot b o e n hb hx
  obtain⟨sl',e2⟩:=slot b _ (neL b o e) hb (neC b o e hx) e1 (I.base.free b o e n hx)
  exact⟨sl',e2⟩
 ·obtain⟨o',e1⟩:=I.base.there b o e hx
  exact free b o' (neC b o e hx) e1 (I.base.free b o e n hx)
 ·obtain⟨o',e1⟩:=I.base.there b o e hx
  exact there b o' (neC b o e hx) e1
 ·obtain⟨m1,e1⟩:=I.base.tbls b ps e
  obtain⟨m2,e2⟩:=tbls b _ e1
  exact⟨m1++m2,by rw[e2,Array.append_assoc]⟩
 ·obtain⟨m,hn,hl⟩:=I.loc
  refine⟨m,ns m hn,fun i x v e1 e2 e3=>?_⟩
  obtain⟨u,r,l⟩:=hl i x v e1 e2 e3
  refine⟨u,r,?_⟩
  rcases l with l|⟨k,c,e,z⟩
  ·exact .inl l
  ·exact .inr ⟨k,c,e,cellK x c e _ z⟩
 ·obtain⟨v,z⟩:=I.cell x c e
  exact⟨v,cellK x c e v z⟩
 ·obtain⟨m,⟨o,_,_,ho,_⟩,_⟩:=I.loc
  exact free _ o (fun z=>(hch _ z).2.1 rfl) ho I.free
 ·obtain⟨v,o,ho,hd⟩:=I.cell x c e
  exact free c o (fun z=>(hch c z).2.2.1 x c e rfl) ho (I.freeC x c e)
 ·obtain⟨e,n,ne,nf,d⟩:=I.pin p hp
  have nch:p.1∉ch:=fun z=>(hch p.1 z).2.2.2 p hp rfl
  exact⟨keep p.1 p.2 ne nf nch e n,free p.1 p.2 nch e n,ne,nf,d⟩
theorem Inv.un  (I:Inv X pins σ H s)(u:Un X.fs [] H H' s.heap h')(hok:HOk X.prog X.w H' h'):Inv X pins σ H' {s with heap:=h',toks:=t' }:=by
 obtain⟨m,⟨o,es,ep,ho,r⟩,_⟩:=id I.loc
 obtain⟨sl,hL⟩:=u.any ho I.free (by simp)
 exact I.step (g':=s.gens) (d':=s.drawn) (ch:=[]) (fun _ z=>nomatch z) (fun b o _ hb _ e n=>u.keep b o e n hb (by simp)) (fun b o _ hb _ e n=>u.slot b o e n hb (by simp)) (fun b o _ e n=>u.free b o e n (by simp)) (fun b o _ e=>u.there b o e (by simp)) u.tups u.frzs u.tbls (fun m' hm=>by
  obtain⟨o',es',ep',ho',r'⟩:=hm
  rw[ho]at ho';cases ho'
  exact⟨_,es',ep',hL,r'⟩) hok I.bare
theorem Inv.call     (I:Inv X pins σ H s)(u:Un (frs X.stack) ch H H' s.heap h')(hok:HOk X.prog X.w H' h')(hg:AllBare g')
  (hch:∀b∈ch,(b∈X.ex\/X.s₀.heap.objs.size<=b)/\b≠X.env.locals/\(∀x c,X.env.cells.lookup x=some c->c≠b)/\∀p∈X.pn++pins,p.1≠b):
  Inv X pins σ H' {s with heap:=h',gens:=g',drawn:=d',toks:=t' }:=by
 obtain⟨m,⟨o,es,ep,ho,r⟩,_⟩:=id I.loc
 obtain⟨sl,hL⟩:=u.any ho I.free fun z=>(hch _ z).2.1 rfl
 exact I.step (ch:=ch) hch (fun b o hL hb hc e n=>u.keep b o e n (fun z=>(List.mem_cons.mp (I.stkSub b z)).elim hL hb) hc) (fun b o _ _ hc e n=>u.any e n hc) (fun b o hc e n=>u.free b o e n hc) (fun b o hc e=>u.there b o e hc) u.tups u.frzs u.tbls (fun m' hm=>by
  obtain⟨o',es',ep',ho',r'⟩:=hm
  rw[ho]at ho';cases ho'
  exact⟨_,es',ep',hL,r'⟩) hok hg
theorem Inv.turned  {it:Addr}(I:Inv X pins σ H s)(k:∀b o,b≠it->s.heap.get? b=some o->h'.get? b=some o)(hn:H it=none)(hL:it≠X.env.locals)
  (h1:it∈X.ex\/X.s₀.heap.objs.size<=it) (h2:∀x c,X.env.cells.lookup x=some c->c≠it) (h3:∀p∈X.pn++pins,p.1≠it):Inv X pins σ H {s with heap:=h',toks:=t' }:=by
 have nit:∀b u,H b=some u->b≠it:=fun b u e z=>by rw[z,hn]at e;cases e
 refine I.step (g':=s.gens) (d':=s.drawn) (ch:=[it]) (fun b hb=>?_) (fun b o _ _ hc e _=>k b o (fun z=>hc (by simp[z])) e) (fun b o _ _ hc e _=>⟨o.slots,k b o (fun z=>hc (by simp[z])) e⟩) (fun _ _ _ _ n=>n)
  (fun b o hc e=>⟨o,k b o (fun z=>hc (by simp[z])) e⟩) (fun _ _ e=>e) (fun _ _ _ e=>e) (fun b ps e=>⟨#[],by rw[e];simp⟩) (fun m hm=>?_) (fun b u e=>?_) I.bare
 ·have e:b=it:=by simpa using hb
  subst e
  exact⟨h1,hL,h2,h3⟩
 ·obtain⟨o,es,ep,ho,r⟩:=hm
  exact⟨o,es,ep,k _ o (Ne.symm hL) ho,r⟩
 ·refine (I.hok b u e).stay (fun c v hc q=>k c v ?_ q) (fun _ q=>q) fun _ _ q=>q
  rcases hc with z|z
  ·rw[z];exact nit b u e
  ·exact nit c _ z
theorem Inv.tok (I:Inv X pins σ H s)(t:Nat):Inv X pins σ H {s with toks:=t}:=I.un (h':=s.heap) (t':=t) Un.refl I.hok
theorem Inv.kept  (I:Inv X pins σ H s)(k:∀b u,s.heap.get? b=some u->h'.get? b=some u):Inv X pins σ H {s with heap:=h',toks:=t' }:=I.un (Un.kept k) (I.hok.kept k)
theorem Inv.laid    (I:Inv X pins σ H s)(k:∀b u,s.heap.get? b=some u->h'.get? b=some u)(hp:s.heap.objs.size<=a)(new:C4 X.prog X.w (upd H a o) h' a o):
  Inv X pins σ (upd H a o) {s with heap:=h',toks:=t' }:=I.un (Un.laid k hp (I.hok.fresh hp)) (I.hok.laid k hp new)
theorem Inv.write    (I:Inv X pins σ H s)(mu:Mut (H x))(he:e=x\/H e=some (.own x))(k:∀b u,b≠e->s.heap.get? b=some u->h'.get? b=some u)(heo:∃u,h'.get? e=some u)
  (new:C4 X.prog X.w (upd H x o) h' x o):Inv X pins σ (upd H x o) {s with heap:=h',toks:=t' }:=I.un (Un.write mu he k heo) (I.hok.write mu he k heo new)
theorem Inv.pins_of  (I:Inv X pins σ H s)(h:∀p∈pins',s.heap.get? p.1=some p.2/\H p.1=none/\p.1≠X.env.locals/\p.1∉X.fs/\∀v,p.2.data ≠ .cell v):Inv X pins' σ H s:=
 ⟨I.ok,I.os,I.bare,I.base,I.loc,I.cell,I.free,I.freeC,fun p hp=>(List.mem_append.mp hp).elim (fun z=>I.pin p (List.mem_append_left _ z)) (h p),I.hok,I.len⟩
theorem Ws {N:List Str}(hN:N.Nodup){i j:Nat}{x:Str}(a:N[i]?=some x)(b:N[j]?=some x):i=j:=by
 obtain⟨h1,e1⟩:=List.getElem?_eq_some_iff.mp a
 obtain⟨h2,e2⟩:=List.getElem?_eq_some_iff.mp b
 exact (List.getElem_inj hN).mp (e1.trans e2.symm)
theorem YG         (I:Inv X pins σ H s)(hN:X.N.Nodup)(hi:X.N[i]?=some x)(hx:Loc X.env.scope x)(r:RelV v u)
  (h:∀s',Inv X pins (σ.set i (some v)) H s'->(∃a,Heap.SameBut a s.heap s'.heap/\(a=X.env.locals\/X.env.cells.lookup x=some a))->Q () s') (hf:X.fn x=true\/X.env.scope.names.lookup x=some .local:=by first|exact .inl rfl|exact .inr rfl|assumption):wpAny M A (storeName X.env x u) Q E s:=by
 obtain⟨m,hn,hl⟩:=id I.loc
 have hcls:(X.env.scope.kind == .class||(X.env.scope.kind == .module&&X.env.locals != X.env.globals))=false:=by rw[I.ok.kind];rfl
 have hiσ:i<σ.length:=by rw[I.len];exact (List.getElem?_eq_some_iff.mp hi).1
 have cne:=I.cne
 have tracked:∀{a:Addr} {h':Heap},(∃o,s.heap.get? a=some o/\H a=none)->Heap.SameBut a s.heap h'->HOk X.prog X.w H h':=fun {a h'} ha hs b ob e=>by
  obtain⟨_,_,hfree⟩:=ha
  refine (I.hok b ob e).stay (fun c w' hc q=>(hs.2 c ?_).trans q) (fun _ q=>q) fun _ _ q=>q
  rintro rfl
  rcases hc with rfl|hc
  ·rw[hfree]at e;cases e
  ·rw[hfree]at hc;cases hc
 rcases hx with hk|hk
 ·refine wpAny_storeName_local hk hn (fun h' hn' hs=>?_) hcls
  obtain⟨oL,_,_,hoL,_⟩:=id hn
  refine h _ ⟨I.ok,I.os,I.bare,⟨fun b o e n hb hx=>?_,fun b o e n hb hx=>?_,I.base.free,fun b o e hx=>?_,I.base.tups,I.base.frzs,I.base.tbls⟩,⟨_,hn',fun j y v' e1 e2 e3=>?_⟩,fun y c e=>?_,I.free,I.freeC,fun p hp=>?_,tracked ⟨oL,hoL,I.free⟩ hs,by simpa using I.len⟩ ⟨_,hs,.inl rfl⟩
  ·exact (hs.2 b (Nat.ne_of_lt (Nat.lt_of_lt_of_le (Heap.lt_size e) I.ok.above))).trans (I.base.keep b o e n hb hx)
  ·obtain⟨sl,e1⟩:=I.base.slot b o e n hb hx
   exact⟨sl,(hs.2 b (Nat.ne_of_lt (Nat.lt_of_lt_of_le (Heap.lt_size e) I.ok.above))).trans e1⟩
  ·obtain⟨o',e1⟩:=I.base.there b o e hx
   exact⟨o',(hs.2 b (Nat.ne_of_lt (Nat.lt_of_lt_of_le (Heap.lt_size e) I.ok.above))).trans e1⟩
  ·by_cases hj:j=i
   ·subst hj
    rw[hi]at e1;cases e1
    rw[List.getElem?_set_self hiσ]at e2
    cases e2
    exact⟨u,r,.inl ⟨hk,by simp⟩⟩
   ·rw[List.getElem?_set_ne (Ne.symm hj)]at e2
    obtain⟨u',r',q⟩:=hl j y v' e1 e2 e3
    refine⟨u',r',?_⟩
    rcases q with ⟨k,e⟩|⟨k,c,e,z⟩
    ·refine .inl ⟨k,?_⟩
     have:y≠x:=fun e=>hj (Ws hN e1 (e ▸ hi))
     simp[this,e]
    ·exact .inr ⟨k,c,e,z.sameBut hs (cne y c e)⟩
  ·obtain⟨w',z⟩:=I.cell y c e
   exact⟨w',z.sameBut hs (cne y c e)⟩
  ·obtain⟨e,n,ne,nf,d⟩:=I.pin p hp
   exact⟨(hs.2 p.1 ne).trans e,n,ne,nf,d⟩
 ·have hfn:X.fn x=true:=by
   rcases hf with z|z
   ·exact z
   ·rw[z]at hk;cases hk
  obtain⟨c,hc⟩:=I.ok.has x (.inl hk)
  obtain⟨w',z⟩:=I.cell x c hc
  refine wpAny_storeName_cell I.ok.kind hk hc z (fun h' hc' hs=>?_)
  obtain⟨oc,hoc,hocd⟩:=id z
  refine h {s with heap:=h' } ⟨I.ok,I.os,I.bare,⟨fun b o e n hb hx=>?_,fun b o e n hb hx=>?_,I.base.free,fun b o e hx=>?_,I.base.tups,I.base.frzs,I.base.tbls⟩,⟨m,hn.sameBut hs (Ne.symm (cne x c hc)),fun j y v' e1 e2 e3=>?_⟩,fun y c' e=>?_,I.free,I.freeC,fun p hp=>?_,tracked ⟨oc,hoc,I.freeC x c hc⟩ hs,by simpa using I.len⟩ ⟨c,hs,.inr hc⟩
  ·exact (hs.2 b (Nat.ne_of_lt (Nat.lt_of_lt_of_le (Heap.lt_size e) (I.ok.cab x c hfn hc)))).trans (I.base.keep b o e n hb hx)
  ·obtain⟨sl,e1⟩:=I.base.slot b o e n hb hx
   exact⟨sl,(hs.2 b (Nat.ne_of_lt (Nat.lt_of_lt_of_le (Heap.lt_size e) (I.ok.cab x c hfn hc)))).trans e1⟩
  ·obtain⟨o',e1⟩:=I.base.there b o e hx
   exact⟨o',(hs.2 b (Nat.ne_of_lt (Nat.lt_of_lt_of_le (Heap.lt_size e) (I.ok.cab x c hfn hc)))).trans e1⟩
  ·by_cases hj:j=i
   ·subst hj
    rw[hi]at e1;cases e1
    rw[List.getElem?_set_self hiσ]at e2
    cases e2
    exact⟨u,r,.inr ⟨.inl hk,c,hc,hc'⟩⟩
   ·rw[List.getElem?_set_ne (Ne.symm hj)]at e2
    obtain⟨u',r',q⟩:=hl j y v' e1 e2 e3
    refine⟨u',r',?_⟩
    rcases q with q|⟨k,c',e,z'⟩
    ·exact .inl q
    ·refine .inr ⟨k,c',e,z'.sameBut hs ?_⟩
     rintro rfl
     exact hj (Ws hN e1 (I.ok.inj _ _ _ e hc ▸ hi))
  ·by_cases hcc:c'=c
   ·subst hcc;exact⟨_,hc'⟩
   ·obtain⟨w2,z2⟩:=I.cell y c' e
    exact⟨w2,z2.sameBut hs hcc⟩
  ·obtain⟨e,n,ne,nf,d⟩:=I.pin p hp
   refine⟨(hs.2 p.1 ?_).trans e,n,ne,nf,d⟩
   intro q
   rw[q,hoc]at e
   have q':oc=p.2:=Option.some.inj e
   exact d w' (by rw[<-q'];exact hocd)
theorem Wt         (I:Inv X pins σ H s)(hN:X.N.Nodup)(hi:X.N[i]?=some x)(hx:Loc X.env.scope x)(r:RelV v u)
  (h:∀s',Inv X pins (σ.set i (some v)) H s'->Q () s') (hf:X.fn x=true\/X.env.scope.names.lookup x=some .local:=by first|exact .inl rfl|exact .inr rfl|assumption):wpAny M A (storeName X.env x u) Q E s:=
 YG I hN hi hx r (fun s' I' _=>h s' I') hf
theorem Inv.call'   (I:Inv X pins σ H s)(ho:s'.os=s.os)(u:Un (frs X.stack) ch H H' s.heap s'.heap)(hok:HOk X.prog X.w H' s'.heap)(hg:AllBare s'.gens)
  (hch:∀b∈ch,(b∈X.ex\/X.s₀.heap.objs.size<=b)/\b≠X.env.locals/\(∀x c,X.env.cells.lookup x=some c->c≠b)/\∀p∈X.pn++pins,p.1≠b):Inv X pins σ H' s':=by
 obtain⟨h',g',d',t',o'⟩:=s'
 have e:o'=s.os:=ho
 subst e
 exact I.call (g':=g') (t':=t') (d':=d') u hok hg hch
end
abbrev XK:=Value->Option Addr->Hp->Prop
abbrev St:=List (Option V)
abbrev VK:=V->Hp->Prop
abbrev TE:=St->Hp->VK->Prop
abbrev TT:=St->Hp->(Bool->Hp->Prop)->Prop
abbrev TA:=St->Hp->(List V->Hp->Prop)->Prop
structure Ends where
 nx:St->Hp->Prop
 rt:VK
 bk:St->Hp->Prop:=fun _ _=>False
 ct:St->Hp->Prop:=fun _ _=>False
abbrev TS:=Ends->St->Hp->Prop
def EP (X:Cx)(pins:List (Addr×Obj))(σ:St)(Q:VK)(u:Value)(s':Shared):Prop:=∃v H',Inv X pins σ H' s'/\RelV v u/\Q v H'
def TP (X:Cx)(pins:List (Addr×Obj))(σ:St)(Q:Bool->Hp->Prop)(b:Bool)(s':Shared):Prop:=∃H',Inv X pins σ H' s'/\Q b H'
def AP (X:Cx)(pins:List (Addr×Obj))(σ:St)(Q:List V->Hp->Prop)(us:List Value)(s':Shared):Prop:=∃vs H',Inv X pins σ H' s'/\Vals vs us/\Q vs H'
def SP (X:Cx)(pins:List (Addr×Obj))(D:Ends)(f:Flow)(s':Shared):Prop:=
 match f with
 |.next=>∃σ' H',Inv X pins σ' H' s'/\D.nx σ' H'
 |.brk=>∃σ' H',Inv X pins σ' H' s'/\D.bk σ' H'
 |.cont=>∃σ' H',Inv X pins σ' H' s'/\D.ct σ' H'
 |.ret u=>∃v σ' H',Inv X pins σ' H' s'/\RelV v u/\D.rt v H'
def PE (X:Cx)(e:Expr)(t:TE):Prop:=
 ∀(pins:List (Addr×Obj)) (s:Shared) (σ:St) (H:Hp) (Q:VK),Inv X pins σ H s->t σ H Q->wpAny (model X.prog X.w) X.A (eval e X.env) (EP X pins σ Q) X.xe s
def PT (X:Cx)(e:Expr)(t:TT):Prop:=
 ∀(pins:List (Addr×Obj)) (s:Shared) (σ:St) (H:Hp) (Q:Bool->Hp->Prop),Inv X pins σ H s->t σ H Q->wpAny (model X.prog X.w) X.A (isTrue e X.env (eval e X.env)) (TP X pins σ Q) X.xe s
def PW (X:Cx)(e:Expr)(t:TT):Prop:=
 ∀(whole:Sem Value) (pins:List (Addr×Obj)) (s:Shared) (σ:St) (H:Hp) (Q:Bool->Hp->Prop),Inv X pins σ H s->t σ H Q->wpAny (model X.prog X.w) X.A (isTrue e X.env whole) (TP X pins σ Q) X.xe s
theorem PW.pt    (h:PW X e t):PT X e t:=h _
def PA (X:Cx)(es:List Expr)(t:TA):Prop:=
 ∀(pos:Pos) (pins:List (Addr×Obj)) (s:Shared) (σ:St) (H:Hp) (Q:List V->Hp->Prop),Inv X pins σ H s->t σ H Q->wpAny (model X.prog X.w) X.A (spliced (backTo pos (starEach es X.env))) (AP X pins σ Q) X.xe s
def PS (X:Cx)(st:Stmt)(t:TS):Prop:=
 ∀(pins:List (Addr×Obj)) (s:Shared) (σ:St) (H:Hp) (D:Ends),Inv X pins σ H s->t D σ H->wpAny (model X.prog X.w) X.A (exec st X.env) (SP X pins D) X.xe s
def PSs (X:Cx)(st:List Stmt)(t:TS):Prop:=
 ∀(pins:List (Addr×Obj)) (s:Shared) (σ:St) (H:Hp) (D:Ends),Inv X pins σ H s->t D σ H->wpAny (model X.prog X.w) X.A (execs st X.env) (SP X pins D) X.xe s
theorem thn        (h:wpAny M A t Q E s)(hQ:∀a s,Q a s->Q' a s):wpAny M A t Q' E s:=wpAny_mono h hQ fun _ _ x=>x
end L2
namespace L2
open PySem PySem.Spec PyProof.Rows
section
variable {X:Cx}
def tVar (i:Nat):TE:=fun σ H Q=>∃v,σ[i]?=some (some v)/\Q v H
def tC (v:V):TE:=fun _ H Q=>Q v H
theorem Jg_    (hN:X.N[i]?=some x)(hv:Vis X.env.scope x)(hd:(x==("__debug__" : Str))=false:=by decide)(hcd:(x==("__classdict__" : Str))=false:=by decide):PE X (.Name x pos) (tVar i):=by
 intro pins s σ H Q I h
 obtain⟨v,e,h⟩:=h
 obtain⟨m,hn,hl⟩:=I.loc
 obtain⟨u,r,l⟩:=hl i x v hN e hv
 have fin:EP X pins σ Q u s:=⟨v,H,I,r,h⟩
 rcases l with ⟨hk,hm⟩|⟨hk,c,hc,hcell⟩
 ·exact wpAny_Name (wpAny_loadName_local I.ok.kind hk hn hm fin) hd
 ·rcases hk with hk|hk
  ·exact wpAny_Name (wpAny_loadName_cell I.ok.kind hk hc hcell fin) hd
  ·exact wpAny_Name (wpAny_loadName_free I.ok.kind hk hc hcell fin hcd) hd
theorem Ai {i j pos}:PE X (.Constant (.int i) j pos) (tC (.int i)):=fun _ _ _ H _ I h=>wpAny_Constant_int ⟨.int i,H,I.tok _,⟨_,rfl⟩,h⟩
theorem Jj {b j pos}:PE X (.Constant (.bool b) j pos) (tC (.bl b)):=fun _ _ _ H _ I h=>Constant_bool ⟨.bl b,H,I,rfl,h⟩
theorem F3 {j pos}:PE X (.Constant .none j pos) (tC .non):=fun _ _ _ H _ I h=>Constant_none ⟨.non,H,I,rfl,h⟩
theorem Bm {x j pos}:PE X (.Constant (.str x) j pos) (tC (.str x)):=fun _ _ _ H _ I h=>Calls.Constant_str ⟨.str x,H,I.tok _,⟨_,rfl⟩,h⟩
def Gl (X:Cx)(x:Str):Prop:=X.env.kindOf x=some .globalImplicit
theorem PY          (I:Inv X pins σ H s)(hg:Gl X x)(hm:X.mg x=some u)(h:Q u s)
  (hd:(x==("__debug__" : Str))=false:=by decide):wpAny (model X.prog X.w) X.A (eval (.Name x pos) X.env) Q E s:=
 Calls.Name_function_global I.ok.kind hg (Calls.loadGlobal_global (by rw[I.ok.glob];exact I.mod.glob.keeps I.bk) hm h) hd
theorem SM          (I:Inv X pins σ H s)(hg:Gl X x)(hm:X.mg x=none)(hv:bootBuiltins x=some u)(h:Q u s)
  (hn:x ≠ "__name__" := by decide) (hd:(x==("__debug__" : Str))=false:=by decide):wpAny (model X.prog X.w) X.A (eval (.Name x pos) X.env) Q E s:=by
 obtain⟨mb,h1,h2⟩:=I.mod.blt
 exact Calls.Name_function_global I.ok.kind hg (Calls.loadGlobal_builtin (by rw[I.ok.glob];exact I.mod.glob.keeps I.bk) hm (by rw[I.ok.blt];exact h1.keeps I.bk) ((h2 x hn).trans hv) h) hd
theorem Li     (hg:Gl X x)(hm:X.mg x=some u)(r:RelV v u)(hd:(x==("__debug__" : Str))=false:=by decide):PE X (.Name x pos) (tC v):=
 fun _ _ _ H _ I h=>PY I hg hm ⟨v,H,I,r,h⟩ hd
theorem Ib_     (hg:Gl X x)(hm:X.mg x=none)(hv:bootBuiltins x=some u)(r:RelV v u)(hn:x ≠ "__name__" := by decide)(hd:(x==("__debug__" : Str))=false:=by decide):PE X (.Name x pos) (tC v):=
 fun _ _ _ H _ I h=>SM I hg hm hv ⟨v,H,I,r,h⟩ hn hd
variable {a b:Expr} {ta tb:TE} {pos:Pos}
def PC (X:Cx)(op:CmpOp)(a b:Expr)(t:TE):Prop:=
 ∀(pins:List (Addr×Obj)) (s:Shared) (σ:St) (H:Hp) (Q:VK),Inv X pins σ H s->t σ H Q ->
  wpAny (model X.prog X.w) X.A (eval a X.env) (fun v s₁=>wpAny (model X.prog X.w) X.A (eval b X.env) (fun u s₂=>wpAny (model X.prog X.w) X.A (compareOp op v u) (EP X pins σ Q) X.xe s₂) X.xe s₁) X.xe s
def tB (t:TE):TT:=fun σ H Q=>t σ H fun x H1=>∃c,x=.bl c/\Q c H1
theorem NB   (h:PE X e t)(he:∀whole,isTrue e X.env whole=(do let v <- whole;standAt e.pos;holding [v] (truthy v)):=by intro _;rfl):PT X e (tB t):=by
 intro pins s σ H Q I hw
 refine isTrue_plain (thn (h pins s σ H _ I hw) fun v s1 ⟨x,H1,I1,r1,q1⟩=>?_) (he _)
 obtain⟨d,rfl,q⟩:=q1
 cases r1
 exact wpAny_truthy_bool ⟨H1,I1,q⟩
variable {tA tB':TT} {rest:List Expr}
def tAnd (t u:TT):TT:=fun σ H Q=>t σ H fun c H1=>if c=true then u σ H1 Q else Q false H1
def tOr (t u:TT):TT:=fun σ H Q=>t σ H fun c H1=>if c=true then Q true H1 else u σ H1 Q
def tNot (t:TT):TT:=fun σ H Q=>t σ H fun c H1=>Q (!c) H1
theorem Ic_ (ha:PT X a tA):PW X (.BoolOp .And [a] pos) tA:=by
 intro wh pins s σ H Q I h
 refine isTrue_and (thn (ha pins s σ H Q I h) fun c s1 e=>?_)
 cases c with
 |true=>exact isTrue_and_nil e
 |false=>exact e
theorem Ro (ha:PT X a tA):PW X (.BoolOp .Or [a] pos) tA:=by
 intro wh pins s σ H Q I h
 refine isTrue_or (thn (ha pins s σ H Q I h) fun c s1 e=>?_)
 cases c with
 |false=>exact isTrue_or_nil e
 |true=>exact e
theorem Jh_ (ha:PT X a tA)(hb:PW X (.BoolOp .And (b::rest) pos) tB'):PW X (.BoolOp .And (a::b::rest) pos) (tAnd tA tB'):=by
 intro wh pins s σ H Q I h
 refine isTrue_and (thn (ha pins s σ H _ I h) fun c s1 ⟨H1,I1,q1⟩=>?_)
 cases c with
 |true=>exact hb wh pins s1 σ H1 Q I1 q1
 |false=>exact⟨H1,I1,q1⟩
theorem YH (ha:PT X a tA)(hb:PW X (.BoolOp .Or (b::rest) pos) tB'):PW X (.BoolOp .Or (a::b::rest) pos) (tOr tA tB'):=by
 intro wh pins s σ H Q I h
 refine isTrue_or (thn (ha pins s σ H _ I h) fun c s1 ⟨H1,I1,q1⟩=>?_)
 cases c with
 |true=>exact⟨H1,I1,q1⟩
 |false=>exact hb wh pins s1 σ H1 Q I1 q1
theorem DS_ (ha:PT X a tA):PT X (.UnaryOp .Not a pos) (tNot tA):=by
 intro pins s σ H Q I h
 exact isTrue_not (ha pins s σ H (fun c H1=>Q (!c) H1) I h)
def Ji_ (ta tb:TE):TE:=fun σ H Q=>ta σ H fun x H1=>∃c,x=.bl c/\if c=true then tb σ H1 Q else Q (.bl false) H1
theorem Jj_ {op}  (h:PE X a t):PE X (.BoolOp op [a] pos) t:=fun pins s σ H Q I hw=>BoolOp_one (h pins s σ H Q I hw)
theorem Jk_ (ha:PE X a ta)(hb:PE X (.BoolOp .And (b::rest) pos) tb):PE X (.BoolOp .And (a::b::rest) pos) (Ji_ ta tb):=by
 intro pins s σ H Q I h
 refine BoolOp_and (thn (ha pins s σ H _ I h) fun v s1 ⟨x,H1,I1,r1,q1⟩=>?_)
 obtain⟨c,rfl,q1⟩:=q1
 cases r1
 refine wpAny_truthy_bool ?_
 cases c with
 |true=>exact hb pins s1 σ H1 Q I1 q1
 |false=>exact⟨.bl false,H1,I1,rfl,q1⟩
end
end L2
namespace L2
open PySem PySem.Spec PyProof.Rows
def SqL (K:PySem.W.Frag)(H:Hp)(a:Addr)(xs:List V):Prop:=
 Rd H a (.lst xs) \/
  ∃(o:Obj) (its:Array Value) (n:Nat),K.lookup a=some o/\o.cls=.type "list" /\ o.dict=none/\o.data=.seq its n/\its.size<=sizeLine/\Vals xs its.toList
def SqT (K:PySem.W.Frag)(H:Hp)(a:Addr)(xs:List V):Prop:=
 Rd H a (.tup xs) \/
  ∃(o:Obj) (its:Array Value) (n:Nat),K.lookup a=some o/\o.cls=.type "tuple" /\ o.data=.seq its n/\its.size<=sizeLine/\Vals xs its.toList
def absV:Value->Option V
 |.none=>some .non
 |.bool b=>some (.bl b)
 |.int i _=>some (.int i)
 |.str x _=>some (.str x)
 |.bytes b _=>some (.byt b)
 |.float b _=>some (.flt b)
 |.ref a=>some (.ref a)
 |.type n=>some (.ty n)
 |_=>none
theorem RelV.abs   (r:RelV x u):absV u=some x:=by
 cases x with
 |non=>cases r;rfl
 |bl _=>cases r;rfl
 |int _=>obtain⟨t,rfl⟩:=r;rfl
 |str _=>obtain⟨t,rfl⟩:=r;rfl
 |byt _=>obtain⟨t,rfl⟩:=r;rfl
 |flt _=>obtain⟨t,rfl⟩:=r;rfl
 |ref _=>cases r;rfl
 |ty _=>cases r;rfl
theorem RelV.inj   (r:RelV x u)(q:RelV y u):x=y:=Option.some.inj (r.abs.symm.trans q.abs)
theorem Vals.inj:∀{xs ys:List V} {us:List Value},Vals xs us->Vals ys us->xs=ys
 |_,_,_,.nil,.nil=>rfl
 |_,_,_,.cons r t,.cons r' t'=>by rw[r.inj r',Vals.inj t t']
section
variable {X:Cx} {pins:List (Addr×Obj)} {σ:St} {H:Hp} {s:Shared} {a:Addr} {xs ys:List V}
theorem SqL.of {K:PySem.W.Frag}(h:H a=some (.lst xs)):SqL K H a xs:=.inl (.inl h)
theorem SqT.of {K:PySem.W.Frag}(h:H a=some (.tup xs)):SqT K H a xs:=.inl (.inl h)
theorem Inv.list (I:Inv X pins σ H s)(h:SqL X.K H a xs):∃its:List Value,Vals xs its/\PlainL s.heap a its.toArray/\xs.length<=sizeLine:=by
 rcases h with h|⟨o,its,n,hk,hc,hd,hs,hz,r⟩
 ·obtain⟨z,its,n,r,e⟩:=h.ok I.hok
  exact⟨its,r,⟨_,n,e,rfl,rfl,rfl⟩,z⟩
 ·refine⟨its.toList,r,⟨o,n,I.kIn a o hk,hc,hd,by simpa using hs⟩,?_⟩
  have e:=r.length
  simp only[Array.length_toList]at e
  omega
theorem Inv.tuple (I:Inv X pins σ H s)(h:SqT X.K H a xs):∃its:List Value,Vals xs its/\IsTup s.heap a its.toArray/\xs.length<=sizeLine:=by
 rcases h with h|⟨o,its,n,hk,hc,hs,hz,r⟩
 ·obtain⟨z,its,r,p⟩:=h.ok I.hok
  exact⟨its,r,p,z⟩
 ·refine⟨its.toList,r,⟨o,I.kIn a o hk,hc,n,by simpa using hs⟩,?_⟩
  have e:=r.length
  simp only[Array.length_toList]at e
  omega
theorem Inv.list_inj (I:Inv X pins σ H s)(h:SqL X.K H a xs)(h':SqL X.K H a ys):xs=ys:=by
 obtain⟨its,r,⟨o,n,e,_,_,d⟩,_⟩:=I.list h
 obtain⟨its',r',⟨o',n',e',_,_,d'⟩,_⟩:=I.list h'
 rw[e]at e';cases e'
 rw[d]at d'
 injection d' with d1 _
 have:its=its':=by simpa using congrArg Array.toList d1
 subst this
 exact r.inj r'
theorem Inv.tuple_inj (I:Inv X pins σ H s)(h:SqT X.K H a xs)(h':SqT X.K H a ys):xs=ys:=by
 obtain⟨its,r,⟨o,e,_,n,d⟩,_⟩:=I.tuple h
 obtain⟨its',r',⟨o',e',_,n',d'⟩,_⟩:=I.tuple h'
 rw[e]at e';cases e'
 rw[d]at d'
 injection d' with d1 _
 have:its=its':=by simpa using congrArg Array.toList d1
 subst this
 exact r.inj r'
end
abbrev Cx.wish (X:Cx)(E:Value->Shared->Prop):Cx:={X with xe:=E}
abbrev Cx.nox (X:Cx):Cx:=X.wish fun _ _=>False
theorem Cx.Ok.wish {X:Cx}(ok:X.Ok)(E:Value->Shared->Prop):(X.wish E).Ok:=
 ⟨ok.mod,ok.kind,ok.glob,ok.blt,ok.above,ok.inj,ok.has,ok.cab,ok.hd,ok.frames,ok.stk,ok.exf,ok.bs,ok.bsz,ok.noex,ok.exfs,ok.funs,ok.frf⟩
theorem Cx.Ok.unwish {X:Cx}{E:Value->Shared->Prop}(ok:(X.wish E).Ok):X.Ok:=
 ⟨ok.mod,ok.kind,ok.glob,ok.blt,ok.above,ok.inj,ok.has,ok.cab,ok.hd,ok.frames,ok.stk,ok.exf,ok.bs,ok.bsz,ok.noex,ok.exfs,ok.funs,ok.frf⟩
section
variable {X:Cx} {pins:List (Addr×Obj)} {σ:St} {H:Hp} {s:Shared} {E:Value->Shared->Prop}
theorem Inv.wish (I:Inv X pins σ H s)(E:Value->Shared->Prop):Inv (X.wish E) pins σ H s:=⟨I.ok.wish E,I.os,I.bare,I.base,I.loc,I.cell,I.free,I.freeC,I.pin,I.hok,I.len⟩
theorem Inv.unwish (I:Inv (X.wish E) pins σ H s):Inv X pins σ H s:=⟨I.ok.unwish,I.os,I.bare,I.base,I.loc,I.cell,I.free,I.freeC,I.pin,I.hok,I.len⟩
theorem SP.unwish    (h:SP (X.wish E) pins D f s'):SP X pins D f s':=by
 cases f with
 |next=>obtain⟨σ',H',I,q⟩:=h;exact⟨σ',H',I.unwish,q⟩
 |brk=>obtain⟨σ',H',I,q⟩:=h;exact⟨σ',H',I.unwish,q⟩
 |cont=>obtain⟨σ',H',I,q⟩:=h;exact⟨σ',H',I.unwish,q⟩
 |ret u=>obtain⟨v,σ',H',I,r,q⟩:=h;exact⟨v,σ',H',I.unwish,r,q⟩
theorem PSs.nox {st:List Stmt}  (h:PSs X.nox st t):PSs X st t:=fun pins s σ H D I hw=>
 wpAny_mono (h pins s σ H D (I.wish _) hw) (fun _ _ q=>q.unwish) fun _ _ z=>False.elim z
end
section
variable {X:Cx} {st:Stmt} {rest:List Stmt} {t u:TS} {e:Expr} {te:TE} {pos:Pos}
def Jl_:TS:=fun D σ H=>D.nx σ H
def tSeq (t u:TS):TS:=fun D σ H=>t {D with nx:=u D} σ H
theorem AQ:PSs X [] Jl_:=fun _ _ σ H _ I h=>wpAny_execs_nil ⟨σ,H,I,h⟩
theorem Ad (h1:PS X st t)(h2:PSs X rest u):PSs X (st::rest) (tSeq t u):=by
 intro pins s σ H D I h
 refine wpAny_execs_cons (thn (h1 pins s σ H {D with nx:=u D} I h) fun f s1 q=>?_)
 cases f with
 |next=>
  obtain⟨σ',H',I',q⟩:=q
  exact h2 pins s1 σ' H' D I' q
 |ret v=>exact q
 |brk=>exact q
 |cont=>exact q
theorem Ac (h1:PS X st t):PSs X [st] t:=by
 intro pins s σ H D I h
 refine wpAny_execs_cons (thn (h1 pins s σ H D I h) fun f s1 q=>?_)
 cases f with
 |next=>exact wpAny_execs_nil q
 |ret v=>exact q
 |brk=>exact q
 |cont=>exact q
theorem Inv.quiet     (I:Inv X pins σ H s):interactive X.env=false:=by simp[interactive,I.ok.kind]
def Jm_ (te:TE):TS:=fun D σ H=>te σ H fun _ H1=>D.nx σ H1
theorem A9 (he:PE X e te)(hs:swapsWith e none pos.line X.env=pure false:=by rfl):PS X (.Expr e pos) (Jm_ te):=by
 intro pins s σ H D I h
 exact wpAny_Expr_any (thn (he pins s σ H _ I h) fun v s1 ⟨x,H1,I1,r1,q1⟩=>⟨σ,H1,I1,q1⟩) I.quiet hs
def tRet (te:TE):TS:=fun D σ H=>te σ H D.rt
theorem Ar (he:PE X e te):PS X (.Return (some e) pos) (tRet te):=by
 intro pins s σ H D I h
 exact wpAny_Return_some (thn (he pins s σ H _ I h) fun v s1 ⟨x,H1,I1,r1,q1⟩=>⟨x,σ,H1,I1,r1,q1⟩)
def tIfS (c:TT)(t u:TS):TS:=fun D σ H=>c σ H fun b H1=>if b=true then t D σ H1 else u D σ H1
theorem Cu    (hc:PT X c tc)(ha:PSs X a t)(hb:PSs X b u):PS X (.If c a b pos) (tIfS tc t u):=by
 intro pins s σ H D I h
 refine wpAny_If (thn (hc pins s σ H _ I h) fun d s1 ⟨H1,I1,q1⟩=>?_)
 cases d with
 |true=>exact ha pins s1 σ H1 D I1 q1
 |false=>exact hb pins s1 σ H1 D I1 q1
end
abbrev TG:=V->St->Hp->(St->Hp->Prop)->Prop
abbrev TGs:=List V->St->Hp->(St->Hp->Prop)->Prop
def PG (X:Cx)(target:Expr)(t:TG):Prop:=
 ∀(pins:List (Addr×Obj)) (s:Shared) (σ:St) (H:Hp) (v:V) (u:Value) (Q:St->Hp->Prop),Inv X pins σ H s->RelV v u->t v σ H Q ->
  wpAny (model X.prog X.w) X.A (assign target X.env u) (fun _ s'=>∃σ' H',Inv X pins σ' H' s'/\Q σ' H') X.xe s
def PGs (X:Cx)(ts:List Expr)(t:TGs):Prop:=
 ∀(pins:List (Addr×Obj)) (s:Shared) (σ:St) (H:Hp) (vs:List V) (us:List Value) (Q:St->Hp->Prop),Inv X pins σ H s->Vals vs us->t vs σ H Q ->
  wpAny (model X.prog X.w) X.A (assignInOrder ((assignEach ts X.env).map (·.2)) us) (fun _ s'=>∃σ' H',Inv X pins σ' H' s'/\Q σ' H') X.xe s
section
variable {X:Cx} {pos:Pos}
def AJ_ (i:Nat):TG:=fun v σ H Q=>Q (σ.set i (some v)) H
theorem B3   (hN:X.N.Nodup)(hi:X.N[i]?=some x)(hx:Loc X.env.scope x)(hf:X.fn x=true\/X.env.scope.names.lookup x=some .local:=by first|exact .inl rfl|exact .inr rfl|assumption):PG X (.Name x pos) (AJ_ i):=by
 intro pins s σ H v u Q I r h
 exact wpAny_assign_Name (Wt I hN hi hx r (fun s' I'=>⟨_,H,I',h⟩) hf)
def gNil:TGs:=fun vs σ H Q=>vs=[]/\Q σ H
def Jn_ (t:TG)(u:TGs):TGs:=fun vs σ H Q=>∃v r,vs=v::r/\t v σ H fun σ' H'=>u r σ' H' Q
theorem AK_:PGs X [] gNil:=by
 intro pins s σ H vs us Q I r h
 obtain⟨e,h⟩:=h
 subst e
 cases r
 exact assignInOrder_nil ⟨σ,H,I,h⟩
theorem MY     (h1:PG X e t)(h2:PGs X es u)
  (hs:(assignEach (e::es) X.env).map (·.2)=assign e X.env::(assignEach es X.env).map (·.2):=by rfl):PGs X (e::es) (Jn_ t u):=by
 intro pins s σ H vs us Q I r h
 obtain⟨v,vr,e1,h⟩:=h
 subst e1
 cases r with
 |cons r rr=>
  rw[hs]
  refine assignInOrder_cons (thn (h1 pins s σ H _ _ _ I r h) fun _ s1 ⟨σ1,H1,I1,q1⟩=>?_)
  exact h2 pins s1 σ1 H1 _ _ Q I1 rr q1
def gTup (K:PySem.W.Frag)(n:Nat)(t:TGs):TG:=fun v σ H Q=>∃a xs,v=.ref a/\SqT K H a xs/\xs.length=n/\t xs σ H Q
theorem DT_     (hc:X.calm=true)(h:PGs X es t)
  (hn:(assignEach es X.env).length=n:=by rfl) (hst:(assignEach es X.env).findIdx? (·.1)=none:=by rfl):PG X (.Tuple es k pos) (gTup X.K n t):=by
 intro pins s σ H v u Q I r hw
 obtain⟨a,xs,e1,hq,hl,hw⟩:=hw
 subst e1
 cases r
 obtain⟨its,rv,ht,hz⟩:=I.tuple hq
 refine assign_Tuple_tuple (I.ok.hd hc) ht (by simp[hn,<-hl,rv.length]) hst fun h' hx=>?_
 have I1:Inv X pins σ H {s with heap:=h' }:=I.kept (t':=s.toks) fun b o e=>hx b o (Nat.ne_of_lt (Heap.lt_size e)) e
 exact h pins _ σ H xs _ Q I1 (by simpa using rv) hw
def tAsg (te:TE)(g:TG):TS:=fun D σ H=>te σ H fun x H1=>g x σ H1 D.nx
theorem Rp      (hN:X.N.Nodup)(hi:X.N[i]?=some x)(hx:Loc X.env.scope x)(he:PE X e te)(hs:swapsWith e (some (.Name x pos')) pos.line X.env=pure false:=by rfl)(hf:X.fn x=true\/X.env.scope.names.lookup x=some .local:=by first|exact .inl rfl|exact .inr rfl|assumption):
  PS X (.Assign [.Name x pos'] e pos) (tAsg te (AJ_ i)):=by
 intro pins s σ H D I h
 refine wpAny_Assign_Name (thn (he pins s σ H _ I h) fun v s1 ⟨y,H1,I1,r1,q1⟩=>?_) hs
 exact Wt I1 hN hi hx r1 (fun s2 I2=>⟨_,H1,I2,q1⟩) hf
end
section
variable {X:Cx} {pos:Pos}
def GT_ (c:TT)(tb:TS):TS:=fun D σ H=>∃W:Nat->St->Hp->Prop,(∃m,W m σ H)/\∀m σ H,W m σ H ->
 c σ H fun b H1=>if b=true then ∃N:St->Hp->Prop,(∀σ' H',N σ' H'->∃m',m'<m/\W m' σ' H')/\tb {D with nx:=N,ct:=N,bk:=D.nx} σ H1 else D.nx σ H1
theorem Wu     (hp:PassesOwn (model X.prog X.w) X.A X.env X.xe)(hc:PT X c tc)(hb:PSs X body tb):PS X (.While c body [] pos) (GT_ tc tb):=by
 intro pins s σ H D I h
 obtain⟨W,⟨m0,w0⟩,turn⟩:=h
 refine wpAny_While (codeAny_whileLoop (fun n s'=>∃σ' H',Inv X pins σ' H' s'/\W n σ' H') ?_ m0 ⟨σ,H,I,w0⟩)
 rintro n s1 ⟨σ1,H1,I1,w1⟩
 refine wpAny_passesOwn hp (thn (hc pins s1 σ1 H1 _ I1 (turn n σ1 H1 w1)) fun b s2 ⟨H2,I2,q2⟩=>?_)
 cases b with
 |true=>
  obtain⟨N,hN,q2⟩:=q2
  rw[if_pos rfl]
  refine wpAny_passesOwn hp (thn (hb pins s2 σ1 H2 _ I2 q2) fun f s3 q3=>?_)
  cases f with
  |next=>
   obtain⟨σ3,H3,I3,n3⟩:=q3
   obtain⟨m',hm,w3⟩:=hN σ3 H3 n3
   exact⟨m',hm,σ3,H3,I3,w3⟩
  |cont=>
   obtain⟨σ3,H3,I3,n3⟩:=q3
   obtain⟨m',hm,w3⟩:=hN σ3 H3 n3
   exact⟨m',hm,σ3,H3,I3,w3⟩
  |brk=>exact q3
  |ret v=>exact q3
 |false=>
  rw[if_neg Bool.false_ne_true]
  exact wpAny_execs_nil ⟨σ1,H2,I2,q2⟩
end
structure It where
 go:Nat->Hp->Prop
 yld:Nat->Hp->V->Hp->Prop
 stop:Nat->Hp->Prop
def FpOk (X:Cx)(pins:List (Addr×Obj))(H:Hp)(b:Addr):Prop:=
 H b=none/\b≠X.env.locals/\b∉X.fs/\(b∈X.ex\/X.s₀.heap.objs.size<=b)/\(∀x c,X.env.cells.lookup x=some c->c≠b)/\∀p∈X.pn++pins,p.1≠b
theorem Inv.fpOk       (I:Inv X pins σ H s)(hb:s.heap.objs.size<=b)(hn:H' b=none):FpOk X pins H' b:=by
 refine⟨hn,Nat.ne_of_gt (Nat.lt_of_lt_of_le I.lt hb),I.nofs hb,.inr (Nat.le_trans I.sz hb),fun x c e z=>?_,fun p hp z=>?_⟩
 ·obtain⟨v,q⟩:=I.cell x c e
  exact absurd (Nat.lt_of_lt_of_le q.lt (by rw[z];exact hb)) (Nat.lt_irrefl _)
 ·exact absurd (Nat.lt_of_lt_of_le (Heap.lt_size (I.pin p hp).1) (by rw[z];exact hb)) (Nat.lt_irrefl _)
structure Turn (P:Program)(w:World)(K:PySem.W.Frag)(tg:Expr)(J:It)(fp:List Addr)(it:Addr)(tn:Nat->Heap->Prop):Prop where
 mem:it∈fp
 obj:∀i h,tn i h->∀b∈fp,∃o,h.get? b=some o/\∀v,o.data ≠ .cell v
 keep:∀i h h',tn i h->(∀b∈fp,∀o,h.get? b=some o->h'.get? b=some o)->tn i h'
 item:∀(X:Cx),X.prog=P->X.w=w->X.K=K->X.calm=true->∀(i:Nat) (pins:List (Addr×Obj)) (s:Shared) (σ:St) (H:Hp) (E:Value->Shared->Prop),Inv X pins σ H s->(∀b∈fp,FpOk X pins H b)->tn i s.heap->J.go i H ->
  wpAny (model P w) X.A (pyNext (.ref it)) (fun r s1=>∃u,r=some u /\
   wpAny (model P w) X.A (letOwnedTupleGo tg (.ref it) u) (fun _ s2=>∃x H',Inv X pins σ H' s2/\RelV x u/\J.yld i H x H'/\tn (i+1) s2.heap/\∀b∈fp,H' b=none) E s1) E s
 done:∀(X:Cx),X.prog=P->X.w=w->X.K=K->X.calm=true->∀(i:Nat) (pins:List (Addr×Obj)) (s:Shared) (σ:St) (H:Hp) (E:Value->Shared->Prop),Inv X pins σ H s->(∀b∈fp,FpOk X pins H b)->tn i s.heap->J.stop i H ->
  wpAny (model P w) X.A (pyNext (.ref it)) (fun r s1=>r=none/\Inv X pins σ H s1) E s
 self:∀(A:Around) (i:Nat) (s:Shared) (Q:Value->Shared->Prop) (E:Value->Shared->Prop),tn i s.heap->Q (.ref it) s->wpAny (model P w) A (pyIter (.ref it)) Q E s
abbrev TI:=St->Hp->(It->Hp->Prop)->Prop
def PIE (X:Cx)(pins:List (Addr×Obj))(σ:St)(tg:Expr)(R:It->Hp->Prop)(itv:Value)(s2:Shared):Prop:=
 ∃(it:Addr) (fp:List Addr) (tn:Nat->Heap->Prop) (J:It) (H':Hp),itv=.ref it/\Inv X pins σ H' s2/\Turn X.prog X.w X.K tg J fp it tn/\tn 0 s2.heap/\(∀b∈fp,FpOk X pins H' b)/\R J H'
def PI (X:Cx)(tg iter:Expr)(wi:TI):Prop:=
 ∀(pins:List (Addr×Obj)) (s:Shared) (σ:St) (H:Hp) (R:It->Hp->Prop),Inv X pins σ H s->wi σ H R ->
  wpAny (model X.prog X.w) X.A (eval iter X.env) (fun v s1=>wpAny (model X.prog X.w) X.A (pyIter v) (PIE X pins σ tg R) X.xe s1) X.xe s
theorem FO_      {it:Addr}      (ho:s.heap.get? it=some o)(hc:o.cls=.type n)(hd:o.data=.fields vs)
    (hn:["enumerate","zip","dict_itemiterator","dict_reverseitemiterator","odict_iterator","itertools.zip_longest","itertools.pairwise"].contains n=false) (hQ:Q () s):wpAny M A (letOwnedTupleGo tg (.ref it) u) Q E s:=by
  unfold letOwnedTupleGo
  cases tg<;>first
    | exact wpAny_pure hQ
    | (cases u<;>first
        | exact wpAny_pure hQ
        | (refine wpAny_bind (wpAny_load ho ?_)
           rw[hc,hd]
           show wpAny M A (if (["enumerate","zip","dict_itemiterator","dict_reverseitemiterator","odict_iterator","itertools.zip_longest","itertools.pairwise"].contains n&&vs[0]? == some (rawInt _))=true then _ else _) Q E s
           rw[if_neg (by intro h;rw[hn,Bool.false_and]at h;cases h)]
           exact wpAny_pure hQ))
def Itl (K:PySem.W.Frag)(a:Addr):It:=
 ⟨fun i H=>∃xs x,SqL K H a xs/\xs[i]?=some x,fun i H x H'=>H'=H/\∀xs,SqL K H a xs->xs[i]?=some x,fun i H=>∃xs,SqL K H a xs/\xs.length<=i⟩
def Itt (K:PySem.W.Frag)(a:Addr):It:=
 ⟨fun i H=>∃xs x,SqT K H a xs/\xs[i]?=some x,fun i H x H'=>H'=H/\∀xs,SqT K H a xs->xs[i]?=some x,fun i H=>∃xs,SqT K H a xs/\xs.length<=i⟩
def Itr (lo:Int)(n:Nat):It:=⟨fun i _=>i<n,fun i H x H'=>H'=H/\x=.int (lo+i),fun i _=>n<=i⟩
theorem DU_ {P:Program}{w:World}{K:PySem.W.Frag}{tg:Expr}(a it:Addr):Turn P w K tg (Itl K a) [it] it (fun i h=>h.IsListIter it a i) where
 mem:=by simp
 obj:=fun i h st b hb=>by
  have e:b=it:=by simpa using hb
  subst e
  obtain⟨o,e,c,d⟩:=st
  exact⟨o,e,fun v z=>by rw[d]at z;cases z⟩
 keep:=fun i h h' st k=>st.at fun o e=>k it (by simp) o e
 item:=by
  intro X hP hw hK hc i pins s σ H E I hf st hg
  subst hP hw hK
  obtain⟨xs,x,hq,hx⟩:=hg
  obtain⟨its,rv,p,hz⟩:=I.list hq
  obtain⟨u,hu,ru⟩:=rv.get hx
  obtain⟨f0,f1,f2,f3,f4,f5⟩:=hf it (by simp)
  refine wpAny_pyNext_list_item st p.isList (x:=u) (by simpa using hu) fun h' st' sb=>?_
  have I1:Inv X pins σ H {s with heap:=h' }:=I.turned (t':=s.toks) (fun b o hb e=>(sb.2 b hb).trans e) f0 f1 f3 f4 f5
  obtain⟨o,e,c,d⟩:=id st'
  exact⟨u,rfl,FO_ (s:={s with heap:=h' }) e c d (by decide) ⟨x,H,I1,ru,⟨rfl,fun ys hy=>by rw[I.list_inj hy hq];exact hx⟩,st',fun b hb=>(hf b hb).1⟩⟩
 done:=by
  intro X hP hw hK hc i pins s σ H E I hf st hg
  subst hP hw hK
  obtain⟨xs,hq,hx⟩:=hg
  obtain⟨its,rv,p,hz⟩:=I.list hq
  obtain⟨f0,f1,f2,f3,f4,f5⟩:=hf it (by simp)
  have hl:=rv.length
  exact wpAny_pyNext_list_end (I.ok.hd hc) st p.isList (by simp;omega) fun h' eb=>⟨rfl,I.turned (t':=s.toks) (fun b o hb e=>eb b o hb e) f0 f1 f3 f4 f5⟩
 self:=fun _ _ _ _ _ st h=>wpAny_pyIter_listiter st h
theorem CS_ {P:Program}{w:World}{K:PySem.W.Frag}{tg:Expr}(a it:Addr):Turn P w K tg (Itt K a) [it] it (fun i h=>h.IsTupleIter it a i) where
 mem:=by simp
 obj:=fun i h st b hb=>by
  have e:b=it:=by simpa using hb
  subst e
  obtain⟨o,e,c,d⟩:=st
  exact⟨o,e,fun v z=>by rw[d]at z;cases z⟩
 keep:=fun i h h' st k=>st.at fun o e=>k it (by simp) o e
 item:=by
  intro X hP hw hK hc i pins s σ H E I hf st hg
  subst hP hw hK
  obtain⟨xs,x,hq,hx⟩:=hg
  obtain⟨its,rv,p,hz⟩:=I.tuple hq
  obtain⟨u,hu,ru⟩:=rv.get hx
  obtain⟨f0,f1,f2,f3,f4,f5⟩:=hf it (by simp)
  refine wpAny_pyNext_tuple_item st (show s.heap.IsTuple a its.toArray from p) (x:=u) (by simpa using hu) fun h' st' sb=>?_
  have I1:Inv X pins σ H {s with heap:=h' }:=I.turned (t':=s.toks) (fun b o hb e=>(sb.2 b hb).trans e) f0 f1 f3 f4 f5
  obtain⟨o,e,c,d⟩:=id st'
  exact⟨u,rfl,FO_ (s:={s with heap:=h' }) e c d (by decide) ⟨x,H,I1,ru,⟨rfl,fun ys hy=>by rw[I.tuple_inj hy hq];exact hx⟩,st',fun b hb=>(hf b hb).1⟩⟩
 done:=by
  intro X hP hw hK hc i pins s σ H E I hf st hg
  subst hP hw hK
  obtain⟨xs,hq,hx⟩:=hg
  obtain⟨its,rv,p,hz⟩:=I.tuple hq
  obtain⟨f0,f1,f2,f3,f4,f5⟩:=hf it (by simp)
  have hl:=rv.length
  exact wpAny_pyNext_tuple_end (I.ok.hd hc) st (show s.heap.IsTuple a its.toArray from p) (by simp;omega) fun h' eb=>⟨rfl,I.turned (t':=s.toks) (fun b o hb e=>eb b o hb e) f0 f1 f3 f4 f5⟩
 self:=fun _ _ _ _ _ st h=>wpAny_pyIter_tupleiter st h
theorem CT_ {P:Program}{w:World}{K:PySem.W.Frag}{tg:Expr}(it:Addr)(lo:Int)(n:Nat):Turn P w K tg (Itr lo n) [it] it (fun i h=>IsRangeIter h it (lo+(i:Nat)*1) ((n:Int)-(i:Nat)) 1) where
 mem:=by simp
 obj:=fun i h st b hb=>by
  have e:b=it:=by simpa using hb
  subst e
  exact⟨_,st,fun v z=>by
   have z':Data.fields _=Data.cell v:=z
   cases z'⟩
 keep:=fun i h h' st k=>k it (by simp) _ st
 item:=by
  intro X hP hw hK hc i pins s σ H E I hf st hg
  subst hP hw hK
  obtain⟨f0,f1,f2,f3,f4,f5⟩:=hf it (by simp)
  have W:=Walks.range (prog:=X.prog) (w:=X.w) (I.ok.hd hc) it lo 1 n
  refine W.item i s _ _ hg st fun v h' tk hv st' kk=>?_
  obtain⟨t,rfl⟩:=hv
  have I1:Inv X pins σ H {s with heap:=h',toks:=tk}:=I.turned (fun b o hb e=>kk b o (by simpa using hb) e) f0 f1 f3 f4 f5
  refine⟨_,rfl,FO_ (s:={s with heap:=h',toks:=tk}) (n := "range_iterator") st' rfl rfl (by decide) ⟨.int (lo+i),H,I1,⟨t,?_⟩,⟨rfl,rfl⟩,st',fun b hb=>(hf b hb).1⟩⟩
  rw[Int.mul_one]
 done:=by
  intro X hP hw hK hc i pins s σ H E I hf st hg
  subst hP hw hK
  obtain⟨f0,f1,f2,f3,f4,f5⟩:=hf it (by simp)
  exact wpAny_pyNext_range_end (I.ok.hd hc) st (by have:n<=i:=hg;omega) fun h' eb=>⟨rfl,I.turned (t':=s.toks) (fun b o hb e=>eb b o hb e) f0 f1 f3 f4 f5⟩
 self:=fun _ _ _ _ _ st h=>wpAny_pyIter_rangeiter st h
end L2
namespace L2
open PySem PySem.Spec PyProof.Rows
section
variable {X:Cx} {tg:Expr}
def Jo_ (K:PySem.W.Frag)(tl:TE):TI:=fun σ H R=>tl σ H fun x H1=>∃a,x=.ref a/\(∃xs,SqL K H1 a xs)/\R (Itl K a) H1
def iTup (K:PySem.W.Frag)(tl:TE):TI:=fun σ H R=>tl σ H fun x H1=>∃a,x=.ref a/\(∃xs,SqT K H1 a xs)/\R (Itt K a) H1
theorem Gq   (hl:PE X l tl):PI X tg l (Jo_ X.K tl):=by
 intro pins s σ H R I h
 refine thn (hl pins s σ H _ I h) fun v s1 ⟨x,H1,I1,r1,q1⟩=>?_
 obtain⟨a,e,⟨xs,hq⟩,q⟩:=q1
 subst e
 cases r1
 obtain⟨its,rv,p,hz⟩:=I1.list hq
 refine wpAny_pyIter_list p.isList ?_
 refine⟨s1.heap.objs.size,[s1.heap.objs.size],_,_,H1,rfl,I1.kept (t':=s1.toks) fun b o e=>Heap.get?_push_of_some _ e,DU_ a _,⟨_,Heap.get?_push_size _ rfl,rfl,rfl⟩,fun b hb=>?_,q⟩
 have e:b=s1.heap.objs.size:=by simpa using hb
 subst e
 exact I1.fpOk (Nat.le_refl _) (I1.hok.fresh (Nat.le_refl _))
theorem DV_   (hl:PE X l tl):PI X tg l (iTup X.K tl):=by
 intro pins s σ H R I h
 refine thn (hl pins s σ H _ I h) fun v s1 ⟨x,H1,I1,r1,q1⟩=>?_
 obtain⟨a,e,⟨xs,hq⟩,q⟩:=q1
 subst e
 cases r1
 obtain⟨its,rv,p,hz⟩:=I1.tuple hq
 refine wpAny_pyIter_tuple (show s1.heap.IsTuple a its.toArray from p) ?_
 refine⟨s1.heap.objs.size,[s1.heap.objs.size],_,_,H1,rfl,I1.kept (t':=s1.toks) fun b o e=>Heap.get?_push_of_some _ e,CS_ a _,⟨_,Heap.get?_push_size _ rfl,rfl,rfl⟩,fun b hb=>?_,q⟩
 have e:b=s1.heap.objs.size:=by simpa using hb
 subst e
 exact I1.fpOk (Nat.le_refl _) (I1.hok.fresh (Nat.le_refl _))
theorem Ck_       {lo hi:Int}   (I:Inv X pins σ H s)(h1 : -(2 ^ 62)<=lo)(h2:lo<2 ^ 62)(h3 : -(2 ^ 62)<=hi)(h4:hi<2 ^ 62)
  (q:R (Itr lo (hi-lo).toNat) H):wpAny (model X.prog X.w) X.A (pyIter (.ref s.heap.objs.size)) (PIE X pins σ tg R) E {s with heap:=s.heap.push {cls:=.type "range",data:=.fields #[.int lo t,.int hi u,.int 1 v]},toks:=tk}:=by
 refine wpAny_pyIter_range (IsRange.new ..) (small_one h1 h2 h3 h4) ?_
 have I1:Inv X pins σ H {s with heap:=s.heap.push {cls:=.type "range",data:=.fields #[.int lo t,.int hi u,.int 1 v]},toks:=tk}:=I.kept fun b o e=>Heap.get?_push_of_some _ e
 refine⟨(s.heap.push {cls:=.type "range",data:=.fields #[.int lo t,.int hi u,.int 1 v]}).objs.size,[(s.heap.push {cls:=.type "range",data:=.fields #[.int lo t,.int hi u,.int 1 v]}).objs.size],_,_,H,rfl,
  I1.kept (t':=tk) fun b o e=>Heap.get?_push_of_some _ e,CT_ _ lo (hi-lo).toNat,?_,fun b hb=>?_,q⟩
 ·have e1:lo+((0:Nat):Int)*1=lo:=by simp
  have e2:(((hi-lo).toNat:Nat):Int)-((0:Nat):Int)=Builtin.Range.rangeSize lo hi 1:=by rw[rangeSize_one];split<;>omega
  show IsRangeIter _ _ (lo+((0:Nat):Int)*1) ((((hi-lo).toNat:Nat):Int)-((0:Nat):Int)) 1
  rw[e1,e2]
  exact Heap.get?_push_size _ rfl
 ·have e:b=(s.heap.push {cls:=.type "range",data:=.fields #[.int lo t,.int hi u,.int 1 v]}).objs.size:=by simpa using hb
  subst e
  exact I1.fpOk (Nat.le_refl _) (I1.hok.fresh (Nat.le_refl _))
def Jp_ (ta:TA):TI:=fun σ H R=>ta σ H fun vs H1=>∃j:Int,vs=[.int j] /\ -(2 ^ 62)<=j/\j<2 ^ 62/\R (Itr 0 j.toNat) H1
def Jq_ (ta:TA):TI:=fun σ H R=>ta σ H fun vs H1=>∃i j:Int,vs=[.int i,.int j]/\(-(2 ^ 62)<=i/\i<2 ^ 62 /\ -(2 ^ 62)<=j/\j<2 ^ 62)/\R (Itr i (j-i).toNat) H1
theorem Lj    (hg:Gl X "range")(hm:X.mg "range"=none)(ha:PA X [a] ta)(hs:starEach [a] X.env=[(false,eval a X.env)]:=by rfl):PI X tg (.Call (.Name "range" p) [a] [] pos) (Jp_ ta):=by
 intro pins s σ H R I h
 refine Call_ (SM I hg hm boot_range (PyProof.Rows.callWith_type1 (thn (ha pos pins s σ H _ I h) fun us s1 ⟨vs,H1,I1,r1,q1⟩=>?_) hs rfl))
 obtain⟨j,e,q1,q2,q⟩:=q1
 subst e
 cases r1 with
 |cons r rr=>
  cases rr
  obtain⟨t,rfl⟩:=r
  exact call_range_1 (Ck_ I1 (by omega) (by omega) q1 q2 (by simpa using q))
theorem DW_    (hg:Gl X "range")(hm:X.mg "range"=none)(ha:PA X [a,b] ta)(hs:starEach [a,b] X.env=[(false,eval a X.env),(false,eval b X.env)]:=by rfl)(hs2:starEach [b] X.env=[(false,eval b X.env)]:=by rfl):
  PI X tg (.Call (.Name "range" p) [a,b] [] pos) (Jq_ ta):=by
 intro pins s σ H R I h
 refine Call_ (SM I hg hm boot_range (PyProof.Rows.callWith_type1 (thn (ha pos pins s σ H _ I h) fun us s1 ⟨vs,H1,I1,r1,q1⟩=>?_) (by rw[hs,hs2]) (by rw[hs2];rfl)))
 obtain⟨i,j,e,⟨q1,q2,q3,q4⟩,q⟩:=q1
 subst e
 cases r1 with
 |cons r rr=>
  cases rr with
  |cons r' rr=>
   cases rr
   obtain⟨t,rfl⟩:=r
   obtain⟨t',rfl⟩:=r'
   exact call_range_2 (Ck_ I1 q1 q2 q3 q4 q)
def tFor (wi:TI)(g:TG)(tb:TS):TS:=fun D σ H=>wi σ H fun J H1=>∃W:Nat->Nat->St->Hp->Prop,(∃m,W 0 m σ H1)/\∀i m σ H,W i m σ H ->
 (J.stop i H/\D.nx σ H)\/(J.go i H/\∃N:St->Hp->Prop,(∀σ' H',N σ' H'->∃m',m'<m/\W (i+1) m' σ' H')/\∀x H',J.yld i H x H'->g x σ H' fun σ2 H2=>tb {D with nx:=N,ct:=N,bk:=D.nx} σ2 H2)
def YI (fp:List Addr)(h:Heap):List (Addr×Obj):=fp.filterMap fun b=>(h.get? b).map fun o=>(b,o)
theorem MZ     (hb:b∈fp)(e:h.get? b=some o):(b,o)∈YI fp h:=List.mem_filterMap.mpr ⟨b,hb,by rw[e];rfl⟩
theorem DX_    (hp:p∈YI fp h):p.1∈fp/\h.get? p.1=some p.2:=by
 obtain⟨b,hb,e⟩:=List.mem_filterMap.mp hp
 cases q:h.get? b with
 |none=>rw[q]at e;cases e
 |some o=>
  rw[q]at e
  have e':(b,o)=p:=Option.some.inj e
  subst e'
  exact⟨hb,q⟩
theorem Inv.pinned      (I:Inv X pins σ H s)(hf:∀b∈fp,FpOk X pins H b)(ho:∀b∈fp,∃o,s.heap.get? b=some o/\∀v,o.data ≠ .cell v):Inv X (pins++YI fp s.heap) σ H s:=
 I.pins_of fun p hp=>(List.mem_append.mp hp).elim (fun z=>I.pin p (List.mem_append_right _ z)) fun z=>by
  obtain⟨hb,e⟩:=DX_ z
  obtain⟨f0,f1,f2,_⟩:=hf p.1 hb
  obtain⟨o,e',d⟩:=ho p.1 hb
  rw[e]at e';cases e'
  exact⟨e,f0,f1,f2,d⟩
theorem Inv.unpinned     (I:Inv X (pins++pl) σ H s):Inv X pins σ H s:=I.pins_of fun p hp=>I.pin p (List.mem_append_right _ (List.mem_append_left _ hp))
theorem Hm {iter:Expr}  {wi:TI}    (hp:PassesOwn (model X.prog X.w) X.A X.env X.xe)(hc:X.calm=true)(hi:PI X tg iter wi)(hg:PG X tg g)(hb:PSs X body tb)
  (hs:∀x,foldedSetIterable iter X.env x=pure x:=by intro _;rfl):PS X (.For tg iter body [] pos) (tFor wi g tb):=by
 intro pins s σ H D I h
 refine wpAny_For (thn (hi pins s σ H _ I h) fun v s1 h1=>thn h1 fun itv s2 h2=>?_) hs
 obtain⟨it,fp,tn,J,H2,e,I2,T,st2,f2,W,⟨m0,w0⟩,turn⟩:=h2
 subst e
 -- what stays true of the iterator's objects through the loop
 have stat:∀{H':Hp},(∀b∈fp,H' b=none)->∀b∈fp,FpOk X pins H' b:=fun hn b hb=>⟨hn b hb,(f2 b hb).2⟩
 refine codeAny_forLoop_any (fun n s'=>∃i σ' H',Inv X pins σ' H' s'/\tn i s'.heap/\(∀b∈fp,H' b=none)/\W i n σ' H') ?_ m0 ⟨0,σ,H2,I2,st2,fun b hb=>(f2 b hb).1,w0⟩
 rintro n s3 ⟨i,σ3,H3,I3,st3,fr3,w3⟩
 rcases turn i n σ3 H3 w3 with ⟨stop,qn⟩|⟨go,N,hN,step⟩
 ·refine wpAny_passesOwn hp (thn (T.done X rfl rfl rfl hc i pins s3 σ3 H3 X.xe I3 (stat fr3) st3 stop) fun r s4 ⟨hr,I4⟩=>?_)
  subst hr
  exact wpAny_execs_nil ⟨σ3,H3,I4,qn⟩
 ·refine wpAny_passesOwn hp (thn (T.item X rfl rfl rfl hc i pins s3 σ3 H3 X.xe I3 (stat fr3) st3 go) fun r s4 ⟨u,hr,h4⟩=>?_)
  subst hr
  refine wpAny_passesOwn hp (thn h4 fun _ s5 ⟨x,H5,I5,r5,y5,st5,fr5⟩=>?_)
  have I5':=I5.pinned (stat fr5) (T.obj _ _ st5)
  refine wpAny_passesOwn hp (thn (hg _ s5 σ3 H5 x u _ I5' r5 (step x H5 y5)) fun _ s6 ⟨σ6,H6,I6,q6⟩=>?_)
  refine wpAny_passesOwn hp (thn (hb _ s6 σ6 H6 _ I6 q6) fun f s7 q7=>?_)
  have again:∀{σ7:St} {H7:Hp},Inv X (pins++YI fp s5.heap) σ7 H7 s7->N σ7 H7->∃m,m<n/\∃i σ' H',Inv X pins σ' H' s7/\tn i s7.heap/\(∀b∈fp,H' b=none)/\W i m σ' H':=fun {σ7 H7} I7 n7=>by
   obtain⟨m',hm,w7⟩:=hN σ7 H7 n7
   refine⟨m',hm,i+1,σ7,H7,I7.unpinned,T.keep _ _ _ st5 fun b hb o e=>(I7.pin (b,o) (List.mem_append_right _ (List.mem_append_right _ (MZ hb e)))).1,fun b hb=>?_,w7⟩
   obtain⟨o,e,d⟩:=T.obj _ _ st5 b hb
   exact (I7.pin (b,o) (List.mem_append_right _ (List.mem_append_right _ (MZ hb e)))).2.1
  cases f with
  |next=>obtain⟨σ7,H7,I7,n7⟩:=q7;exact again I7 n7
  |cont=>obtain⟨σ7,H7,I7,n7⟩:=q7;exact again I7 n7
  |brk=>obtain⟨σ7,H7,I7,q7⟩:=q7;exact⟨σ7,H7,I7.unpinned,q7⟩
  |ret v=>obtain⟨x7,σ7,H7,I7,r7,q7⟩:=q7;exact⟨x7,σ7,H7,I7.unpinned,r7,q7⟩
end
theorem FP_ {K:PySem.W.Frag}{a:Addr}{xs:List V}{g:TG}{tb:TS}{D:Ends}{σ:St}{H:Hp}(Pv:Nat->St->Hp->Prop)(h0:Pv 0 σ H)(hl:∀i σ H,i<=xs.length->Pv i σ H->SqL K H a xs)
  (hs:∀i x σ H,xs[i]?=some x->Pv i σ H->g x σ H fun σ2 H2=>tb {D with nx:=Pv (i+1),ct:=Pv (i+1),bk:=D.nx} σ2 H2) (hd:∀σ H,Pv xs.length σ H->D.nx σ H):
  ∃W:Nat->Nat->St->Hp->Prop,(∃m,W 0 m σ H)/\∀i m σ H,W i m σ H ->
   ((Itl K a).stop i H/\D.nx σ H)\/((Itl K a).go i H/\∃N:St->Hp->Prop,(∀σ' H',N σ' H'->∃m',m'<m/\W (i+1) m' σ' H')/\∀x H',(Itl K a).yld i H x H'->g x σ H' fun σ2 H2=>tb {D with nx:=N,ct:=N,bk:=D.nx} σ2 H2):=by
 refine⟨fun i m σ H=>m=xs.length-i/\i<=xs.length/\Pv i σ H,⟨xs.length,by simp,Nat.zero_le _,h0⟩,?_⟩
 rintro i m σ H ⟨rfl,hi,p⟩
 have q:=hl i σ H hi p
 by_cases hlt:i<xs.length
 ·refine .inr ⟨⟨xs,xs[i],q,by simp[hlt]⟩,Pv (i+1),fun σ' H' p'=>⟨xs.length-(i+1),by omega,rfl,hlt,p'⟩,fun x H' y=>?_⟩
  obtain⟨e,y⟩:=y
  subst e
  exact hs i x σ _ (y xs q) p
 ·have e:i=xs.length:=by omega
  subst e
  exact .inl ⟨⟨xs,q,Nat.le_refl _⟩,hd σ H p⟩
theorem Id_ {K:PySem.W.Frag}{a:Addr}{xs:List V}{g:TG}{tb:TS}{D:Ends}{σ:St}{H:Hp}(Pv:Nat->St->Hp->Prop)(h0:Pv 0 σ H)(hl:∀i σ H,i<=xs.length->Pv i σ H->SqT K H a xs)
  (hs:∀i x σ H,xs[i]?=some x->Pv i σ H->g x σ H fun σ2 H2=>tb {D with nx:=Pv (i+1),ct:=Pv (i+1),bk:=D.nx} σ2 H2) (hd:∀σ H,Pv xs.length σ H->D.nx σ H):
  ∃W:Nat->Nat->St->Hp->Prop,(∃m,W 0 m σ H)/\∀i m σ H,W i m σ H ->
   ((Itt K a).stop i H/\D.nx σ H)\/((Itt K a).go i H/\∃N:St->Hp->Prop,(∀σ' H',N σ' H'->∃m',m'<m/\W (i+1) m' σ' H')/\∀x H',(Itt K a).yld i H x H'->g x σ H' fun σ2 H2=>tb {D with nx:=N,ct:=N,bk:=D.nx} σ2 H2):=by
 refine⟨fun i m σ H=>m=xs.length-i/\i<=xs.length/\Pv i σ H,⟨xs.length,by simp,Nat.zero_le _,h0⟩,?_⟩
 rintro i m σ H ⟨rfl,hi,p⟩
 have q:=hl i σ H hi p
 by_cases hlt:i<xs.length
 ·refine .inr ⟨⟨xs,xs[i],q,by simp[hlt]⟩,Pv (i+1),fun σ' H' p'=>⟨xs.length-(i+1),by omega,rfl,hlt,p'⟩,fun x H' y=>?_⟩
  obtain⟨e,y⟩:=y
  subst e
  exact hs i x σ _ (y xs q) p
 ·have e:i=xs.length:=by omega
  subst e
  exact .inl ⟨⟨xs,q,Nat.le_refl _⟩,hd σ H p⟩
theorem DY_ {lo:Int}{n:Nat}{g:TG}{tb:TS}{D:Ends}{σ:St}{H:Hp}(Pv:Nat->St->Hp->Prop)(h0:Pv 0 σ H)
  (hs:∀i σ H,i<n->Pv i σ H->g (.int (lo+i)) σ H fun σ2 H2=>tb {D with nx:=Pv (i+1),ct:=Pv (i+1),bk:=D.nx} σ2 H2) (hd:∀σ H,Pv n σ H->D.nx σ H):
  ∃W:Nat->Nat->St->Hp->Prop,(∃m,W 0 m σ H)/\∀i m σ H,W i m σ H ->
   ((Itr lo n).stop i H/\D.nx σ H)\/((Itr lo n).go i H/\∃N:St->Hp->Prop,(∀σ' H',N σ' H'->∃m',m'<m/\W (i+1) m' σ' H')/\∀x H',(Itr lo n).yld i H x H'->g x σ H' fun σ2 H2=>tb {D with nx:=N,ct:=N,bk:=D.nx} σ2 H2):=by
 refine⟨fun i m σ H=>m=n-i/\i<=n/\Pv i σ H,⟨n,by simp,Nat.zero_le _,h0⟩,?_⟩
 rintro i m σ H ⟨rfl,hi,p⟩
 by_cases hlt:i<n
 ·refine .inr ⟨hlt,Pv (i+1),fun σ' H' p'=>⟨n-(i+1),by omega,rfl,hlt,p'⟩,fun x H' y=>?_⟩
  obtain⟨e,y⟩:=y
  subst e y
  exact hs i σ _ hlt p
 ·have e:i=n:=by omega
  subst e
  exact .inl ⟨Nat.le_refl _,hd σ H p⟩
end L2
namespace L2
open PySem PySem.Spec PyProof.Rows
abbrev R2:=V->V->Hp->VK->Prop
def OpR (X:Cx)(f:Value->Value->Sem Value)(r:R2):Prop:=
 ∀(pins:List (Addr×Obj)) (s:Shared) (σ:St) (H:Hp) (x y:V) (v u:Value) (Q:VK),Inv X pins σ H s->RelV x v->RelV y u->r x y H Q ->
  wpAny (model X.prog X.w) X.A (f v u) (EP X pins σ Q) X.xe s
def UnR (X:Cx)(f:Value->Sem Value)(r:V->Hp->VK->Prop):Prop:=
 ∀(pins:List (Addr×Obj)) (s:Shared) (σ:St) (H:Hp) (x:V) (v:Value) (Q:VK),Inv X pins σ H s->RelV x v->r x H Q ->
  wpAny (model X.prog X.w) X.A (f v) (EP X pins σ Q) X.xe s
def NT (X:Cx)(f:Value)(r:List V->Hp->VK->Prop):Prop:=
 ∀(pins:List (Addr×Obj)) (s:Shared) (σ:St) (H:Hp) (xs:List V) (us:List Value) (Q:VK),Inv X pins σ H s->Vals xs us->r xs H Q ->
  wpAny (model X.prog X.w) X.A (call f us) (EP X pins σ Q) X.xe s
def tOp (r:R2)(ta tb:TE):TE:=fun σ H Q=>ta σ H fun x H1=>tb σ H1 fun y H2=>r x y H2 Q
def tUn (r:V->Hp->VK->Prop)(ta:TE):TE:=fun σ H Q=>ta σ H fun x H1=>r x H1 Q
def rI (C:Int->Int->Prop)(g:Int->Int->V):R2:=fun x y H Q=>∃i j,x=.int i/\y=.int j/\C i j/\Q (g i j) H
def rI0 (g:Int->Int->V):R2:=fun x y H Q=>∃i j,x=.int i/\y=.int j/\Q (g i j) H
def rU (g:Int->V):V->Hp->VK->Prop:=fun x H Q=>∃i,x=.int i/\Q (g i) H
section
variable {X:Cx} {a b c:Expr} {ta tb tc:TE} {pos:Pos}
theorem binT (ha:PE X a ta)(hb:PE X b tb){pins:List (Addr×Obj)}{s:Shared}{σ:St}{H:Hp}{R:V->V->Hp->Prop}(I:Inv X pins σ H s)
  (h:ta σ H fun x H1=>tb σ H1 fun y H2=>R x y H2) {Q:Value->Shared->Prop} {f:Value->Value->Sem Value}
  (hf:∀v u s2 x y H2,Inv X pins σ H2 s2->RelV x v->RelV y u->R x y H2->wpAny (model X.prog X.w) X.A (f v u) Q X.xe s2):
  wpAny (model X.prog X.w) X.A (eval a X.env) (fun v s₁=>wpAny (model X.prog X.w) X.A (eval b X.env) (fun u s₂=>wpAny (model X.prog X.w) X.A (f v u) Q X.xe s₂) X.xe s₁) X.xe s:=by
 refine thn (ha pins s σ H _ I h) fun v s1 ⟨x,H1,I1,r1,q1⟩=>?_
 refine thn (hb pins s1 σ H1 _ I1 q1) fun u s2 ⟨y,H2,I2,r2,q2⟩=>?_
 exact hf v u s2 x y H2 I2 r1 r2 q2
theorem Bt   (ho:OpR X (binaryOp op) r)(ha:PE X a ta)(hb:PE X b tb):PE X (.BinOp a op b pos) (tOp r ta tb):=by
 intro pins s σ H Q I h
 exact wpAny_BinOp (binT ha hb I h fun v u s2 x y H2 I2 rx ry q=>ho pins s2 σ H2 x y v u Q I2 rx ry q)
theorem AL_   (ho:UnR X (unaryOp op) r)(ha:PE X a ta):PE X (.UnaryOp op a pos) (tUn r ta):=by
 intro pins s σ H Q I h
 exact UnaryOp_ (thn (ha pins s σ H _ I h) fun v s1 ⟨x,H1,I1,r1,q1⟩=>ho pins s1 σ H1 x v Q I1 r1 q1)
theorem opI {f:Value->Value->Sem Value}{C:Int->Int->Prop}{g:Int->Int->Int}
  (rule:∀(i j:Int) (t u:Tok) (s:Shared) (Q:Value->Shared->Prop) (E:Value->Shared->Prop),C i j->Q (.int (g i j) s.toks) {s with toks:=s.toks+1}->wpAny (model X.prog X.w) X.A (f (.int i t) (.int j u)) Q E s):
  OpR X f (rI C fun i j=>.int (g i j)):=by
 intro pins s σ H x y v u Q I rx ry h
 obtain⟨i,j,rfl,rfl,hc,q⟩:=h
 obtain⟨t,rfl⟩:=rx
 obtain⟨t',rfl⟩:=ry
 exact rule i j t t' s _ _ hc ⟨.int (g i j),H,I.tok _,⟨_,rfl⟩,q⟩
theorem opI0 {f:Value->Value->Sem Value}{g:Int->Int->Int}
  (rule:∀(i j:Int) (t u:Tok) (s:Shared) (Q:Value->Shared->Prop) (E:Value->Shared->Prop),Q (.int (g i j) s.toks) {s with toks:=s.toks+1}->wpAny (model X.prog X.w) X.A (f (.int i t) (.int j u)) Q E s):
  OpR X f (rI0 fun i j=>.int (g i j)):=by
 intro pins s σ H x y v u Q I rx ry h
 obtain⟨i,j,rfl,rfl,q⟩:=h
 obtain⟨t,rfl⟩:=rx
 obtain⟨t',rfl⟩:=ry
 exact rule i j t t' s _ _ ⟨.int (g i j),H,I.tok _,⟨_,rfl⟩,q⟩
theorem opB0 {f:Value->Value->Sem Value}{g:Int->Int->Bool}
  (rule:∀(i j:Int) (t u:Tok) (s:Shared) (Q:Value->Shared->Prop) (E:Value->Shared->Prop),Q (.bool (g i j)) s->wpAny (model X.prog X.w) X.A (f (.int i t) (.int j u)) Q E s):
  OpR X f (rI0 fun i j=>.bl (g i j)):=by
 intro pins s σ H x y v u Q I rx ry h
 obtain⟨i,j,rfl,rfl,q⟩:=h
 obtain⟨t,rfl⟩:=rx
 obtain⟨t',rfl⟩:=ry
 exact rule i j t t' s _ _ ⟨.bl (g i j),H,I,rfl,q⟩
def CDiv (i j:Int):Prop:=0<j/\j<1073741824
def CPow (i j:Int):Prop:=0<=j/\j<=1000000/\i.natAbs<2 ^ 64
def CMul (i j:Int):Prop:=(-(2 ^ 64)<i/\i<2 ^ 64)\/(-(2 ^ 64)<j/\j<2 ^ 64)
theorem CMul.ok  (h:CMul i j):IntMulOk i j:=by
 rcases h with ⟨h1,h2⟩|⟨h1,h2⟩
 ·exact .of_left (intBits_le_64 h1 h2)
 ·exact .of_right (intBits_le_64 h1 h2)
theorem FE:OpR X (binaryOp .Add) (rI0 fun i j=>.int (i+j)):=opI0 fun _ _ _ _ _ _ _ q=>add_int q
theorem DZ_:OpR X (binaryOp .Sub) (rI0 fun i j=>.int (i-j)):=opI0 fun _ _ _ _ _ _ _ q=>sub_int q
theorem YJ:OpR X (binaryOp .Mult) (rI CMul fun i j=>.int (i*j)):=opI fun _ _ _ _ _ _ _ hc q=>mul_int q hc.ok
theorem PZ:OpR X (binaryOp .FloorDiv) (rI CDiv fun i j=>.int (i / j)):=opI fun i j _ _ _ _ _ hc q=>by
 have h1:(0:Int)<j:=hc.1
 have h2:j<1073741824:=hc.2
 exact floordiv_int (by omega) (by rw[Int.fdiv_eq_ediv_of_nonneg i (by omega)];exact q) (.inl (PyProof.noPylong_small (by omega)))
theorem Fn:OpR X (binaryOp .Mod) (rI (fun _ j=>0<j) fun i j=>.int (i%j)):=opI fun i j _ _ _ _ _ hc q=>by
 have h1:(0:Int)<j:=hc
 exact mod_int' (by omega) (by rw[Int.fmod_eq_emod_of_nonneg i (by omega)];exact q)
theorem GU_:OpR X (binaryOp .Pow) (rI CPow fun i j=>.int (i ^ j.toNat)):=opI fun _ _ _ _ _ _ _ hc q=>pow_int_small hc.1 hc.2.1 hc.2.2 q
theorem unI {f:Value->Sem Value}{g:Int->Int}
  (rule:∀(i:Int) (t:Tok) (s:Shared) (Q:Value->Shared->Prop) (E:Value->Shared->Prop),Q (.int (g i) s.toks) {s with toks:=s.toks+1}->wpAny (model X.prog X.w) X.A (f (.int i t)) Q E s):
  UnR X f (rU fun i=>.int (g i)):=by
 intro pins s σ H x v Q I rx h
 obtain⟨i,rfl,q⟩:=h
 obtain⟨t,rfl⟩:=rx
 exact rule i t s _ _ ⟨.int (g i),H,I.tok _,⟨_,rfl⟩,q⟩
theorem SN:UnR X (unaryOp .USub) (rU fun i=>.int (-i)):=unI fun _ _ _ _ _ q=>neg_int q
end
def scal:V->V->Bool
 |.non,.non=>true | .non,.int _=>true | .int _,.non=>true | .non,.bl _=>true | .bl _,.non=>true | .non,.str _=>true | .str _,.non=>true
 |.int _,.int _=>true | .bl _,.bl _=>true | .str _,.str _=>true | .byt _,.byt _=>true
 |.int _,.str _=>true | .str _,.int _=>true | .bl _,.str _=>true | .str _,.bl _=>true
 |_,_=>false
def rEq:R2:=fun x y H Q=>scal x y=true/\Q (.bl (decide (x=y))) H
def rNe:R2:=fun x y H Q=>scal x y=true/\Q (.bl (!decide (x=y))) H
theorem Ea_  : decide (V.int i=V.int j)=(i==j):=by
 rw[Bool.eq_iff_iff]
 simp
theorem GV_  : decide (V.bl i=V.bl j)=(i==j):=by
 rw[Bool.eq_iff_iff]
 simp
theorem Eb_  : decide (V.str i=V.str j)=(i==j):=by
 rw[Bool.eq_iff_iff]
 simp
theorem Ec_  : decide (V.byt i=V.byt j)=(i.toList==j.toList):=by
 rw[Bool.eq_iff_iff]
 cases i
 cases j
 simp
section
variable {X:Cx} {a b c:Expr} {ta tb tc:TE} {pos:Pos}
theorem CD       (I:Inv X pins σ H s)(q:Q (.bl k) H)(e:k=k'):EP X pins σ Q (.bool k') s:=by
 subst e
 exact⟨.bl k,H,I,rfl,q⟩
theorem NU:OpR X (compareOp .Eq) rEq:=by
 intro pins s σ H x y v u Q I rx ry h
 obtain⟨hs,q⟩:=h
 cases x with
 |non=>
  cases rx
  cases y with
  |non=>cases ry;exact PySem.EqNone.eq_none_none (CD I q (by simp))
  |bl j=>cases ry;exact PySem.EqNone.eq_none_bool (CD I q (by simp))
  |int j=>obtain⟨t',rfl⟩:=ry;exact PySem.EqNone.eq_none_int (CD I q (by simp))
  |str j=>obtain⟨t',rfl⟩:=ry;exact PySem.EqNone.eq_none_str (CD I q (by simp))
  |_=>exact absurd (show false=true from hs) Bool.false_ne_true
 |bl i=>
  cases rx
  cases y with
  |non=>cases ry;exact PySem.EqNone.eq_bool_none (CD I q (by simp))
  |bl j=>cases ry;exact eq_bool (CD I q GV_)
  |str j=>obtain⟨t',rfl⟩:=ry;exact PySem.EqMixed.eq_bool_str (CD I q (by simp))
  |_=>exact absurd (show false=true from hs) Bool.false_ne_true
 |int i=>
  obtain⟨t,rfl⟩:=rx
  cases y with
  |non=>cases ry;exact PySem.EqNone.eq_int_none (CD I q (by simp))
  |int j=>obtain⟨t',rfl⟩:=ry;exact eq_int (CD I q Ea_)
  |str j=>obtain⟨t',rfl⟩:=ry;exact PySem.EqMixed.eq_int_str (CD I q (by simp))
  |_=>exact absurd (show false=true from hs) Bool.false_ne_true
 |str i=>
  obtain⟨t,rfl⟩:=rx
  cases y with
  |non=>cases ry;exact PySem.EqNone.eq_str_none (CD I q (by simp))
  |bl j=>cases ry;exact PySem.EqMixed.eq_str_bool (CD I q (by simp))
  |int j=>obtain⟨t',rfl⟩:=ry;exact PySem.EqMixed.eq_str_int (CD I q (by simp))
  |str j=>obtain⟨t',rfl⟩:=ry;exact eq_str (CD I q Eb_)
  |_=>exact absurd (show false=true from hs) Bool.false_ne_true
 |byt i=>
  obtain⟨t,rfl⟩:=rx
  cases y with
  |byt j=>obtain⟨t',rfl⟩:=ry;exact PySem.W.eq_bytes (CD I q Ec_)
  |_=>exact absurd (show false=true from hs) Bool.false_ne_true
 |_=>cases y<;>exact absurd (show false=true from hs) Bool.false_ne_true
theorem IW:OpR X (compareOp .NotEq) rNe:=by
 intro pins s σ H x y v u Q I rx ry h
 obtain⟨hs,q⟩:=h
 cases x with
 |non=>
  cases rx
  cases y with
  |non=>cases ry;exact PySem.EqNone.ne_none_none (CD I q (by simp))
  |bl j=>cases ry;exact PySem.EqNone.ne_none_bool (CD I q (by simp))
  |int j=>obtain⟨t',rfl⟩:=ry;exact PySem.EqNone.ne_none_int (CD I q (by simp))
  |str j=>obtain⟨t',rfl⟩:=ry;exact PySem.EqNone.ne_none_str (CD I q (by simp))
  |_=>exact absurd (show false=true from hs) Bool.false_ne_true
 |bl i=>
  cases rx
  cases y with
  |non=>cases ry;exact PySem.EqNone.ne_bool_none (CD I q (by simp))
  |bl j=>cases ry;exact ne_bool (CD I q (congrArg not GV_))
  |str j=>obtain⟨t',rfl⟩:=ry;exact PySem.EqMixed.ne_bool_str (CD I q (by simp))
  |_=>exact absurd (show false=true from hs) Bool.false_ne_true
 |int i=>
  obtain⟨t,rfl⟩:=rx
  cases y with
  |non=>cases ry;exact PySem.EqNone.ne_int_none (CD I q (by simp))
  |int j=>obtain⟨t',rfl⟩:=ry;exact ne_int (CD I q (congrArg not Ea_))
  |str j=>obtain⟨t',rfl⟩:=ry;exact PySem.EqMixed.ne_int_str (CD I q (by simp))
  |_=>exact absurd (show false=true from hs) Bool.false_ne_true
 |str i=>
  obtain⟨t,rfl⟩:=rx
  cases y with
  |non=>cases ry;exact PySem.EqNone.ne_str_none (CD I q (by simp))
  |bl j=>cases ry;exact PySem.EqMixed.ne_str_bool (CD I q (by simp))
  |int j=>obtain⟨t',rfl⟩:=ry;exact PySem.EqMixed.ne_str_int (CD I q (by simp))
  |str j=>obtain⟨t',rfl⟩:=ry;exact ne_str (CD I q (congrArg not Eb_))
  |_=>exact absurd (show false=true from hs) Bool.false_ne_true
 |byt i=>
  obtain⟨t,rfl⟩:=rx
  cases y with
  |byt j=>obtain⟨t',rfl⟩:=ry;exact PySem.W.ne_bytes (CD I q (congrArg not Ec_))
  |_=>exact absurd (show false=true from hs) Bool.false_ne_true
 |_=>cases y<;>exact absurd (show false=true from hs) Bool.false_ne_true
theorem Ie_:OpR X (compareOp .Lt) (rI0 fun i j=>.bl (decide (i<j))):=opB0 fun _ _ _ _ _ _ _ q=>lt_int q
theorem If_:OpR X (compareOp .LtE) (rI0 fun i j=>.bl (decide (i<=j))):=opB0 fun _ _ _ _ _ _ _ q=>le_int q
theorem Ig_:OpR X (compareOp .Gt) (rI0 fun i j=>.bl (decide (j<i))):=opB0 fun _ _ _ _ _ _ _ q=>gt_int q
theorem V8:OpR X (compareOp .Is) (fun x y H Q=>y=.non/\Q (.bl (decide (x=.non))) H):=by
 intro pins s σ H x y v u Q I rx ry h
 obtain⟨rfl,q⟩:=h
 cases ry
 refine is_none_gen (CD I q ?_)
 cases x<;>first
  | (cases rx;rfl)
  | (obtain⟨t,rfl⟩:=rx;rfl)
theorem Ih_:OpR X (compareOp .IsNot) (fun x y H Q=>y=.non/\Q (.bl (!decide (x=.non))) H):=by
 intro pins s σ H x y v u Q I rx ry h
 obtain⟨rfl,q⟩:=h
 cases ry
 refine isnot_none_gen (CD I q ?_)
 cases x<;>first
  | (cases rx;rfl)
  | (obtain⟨t,rfl⟩:=rx;rfl)
theorem Bg (b:Expr)  (h:op ≠ .In:=by decide)(h2:op ≠ .NotIn:=by decide):behindInMarks op b=false:=by
 have e1:(op==CmpOp.In)=false:=by cases op<;>first|rfl|exact absurd rfl h
 have e2:(op==CmpOp.NotIn)=false:=by cases op<;>first|rfl|exact absurd rfl h2
 cases b<;>simp[behindInMarks,e1,e2]
theorem Ed_   (ho:OpR X (compareOp op) r)(ha:PE X a ta)(hb:PE X b tb)(hm:behindInMarks op b=false):PE X (.Compare a [op] [b] pos) (tOp r ta tb):=by
 intro pins s σ H Q I h
 exact wpAny_Compare1 (binT ha hb I h fun v u s2 x y H2 I2 rx ry q=>ho pins s2 σ H2 x y v u Q I2 rx ry q) hm
def FQ_ (t:TE):TT:=fun σ H Q=>t σ H fun x H'=>∃k,x=.bl k/\Q k H'
theorem Ay   (ho:OpR X (compareOp op) r)(ha:PE X a ta)(hb:PE X b tb)(hm:behindInMarks op b=false):PT X (.Compare a [op] [b] pos) (FQ_ (tOp r ta tb)):=by
 intro pins s σ H Q I h
 refine wpAny_isTrue_Compare1 (thn (ha pins s σ H _ I h) fun v s1 ⟨x,H1,I1,r1,q1⟩=>thn (hb pins s1 σ H1 _ I1 q1) fun u s2 ⟨y,H2,I2,r2,q2⟩ =>
  thn (ho pins s2 σ H2 x y v u _ I2 r1 r2 q2) fun c s3 ⟨z,H3,I3,r3,k,e,q3⟩=>?_) hm
 subst e
 cases r3
 exact wpAny_truthy_bool ⟨H3,I3,q3⟩
def GW_ (r r':R2)(ta tb tc:TE):TE:=fun σ H Q=>ta σ H fun x H1=>tb σ H1 fun y H2=>r x y H2 fun z H3=>∃k,z=.bl k /\
 (if k=true then tc σ H3 fun w' H4=>r' y w' H4 Q else Q (.bl false) H3)
theorem Cl_   (ho:OpR X (compareOp op) r)(ho':OpR X (compareOp op') r')(ha:PE X a ta)(hb:PE X b tb)(hc:PE X c tc)
  (hm:lastMarks [op,op'] [b,c]=false:=by with_unfolding_all rfl):PE X (.Compare a [op,op'] [b,c] pos) (GW_ r r' ta tb tc):=by
 intro pins s σ H Q I h
 refine Compare_chain (thn (ha pins s σ H _ I h) fun v s1 ⟨x,H1,I1,r1,q1⟩=>chain_link (thn (hb pins s1 σ H1 _ I1 q1) fun u s2 ⟨y,H2,I2,r2,q2⟩ =>
  thn (ho pins s2 σ H2 x y v u _ I2 r1 r2 q2) fun d s3 ⟨z,H3,I3,r3,k,e,q3⟩=>?_)) hm
 subst e
 cases r3
 refine wpAny_truthy_bool ?_
 cases k with
 |false=>exact ite_ff ⟨.bl false,H3,I3,rfl,q3⟩
 |true=>exact ite_tt (chain_last (thn (hc pins s3 σ H3 _ I3 q3) fun w' s4 ⟨z',H4,I4,r4,q4⟩=>ho' pins s4 σ H4 y z' u w' Q I4 r2 r4 q4))
theorem Ee_:(sizeLine:Nat)<2 ^ 63:=by rw[sizeLine_eq];decide
theorem Ig:OpR X (binaryOp .Add) (fun x y H Q=>∃i j,x=.str i/\y=.str j/\i.length+j.length<=sizeLine/\Q (.str (i++j)) H):=by
 intro pins s σ H x y v u Q I rx ry h
 obtain⟨i,j,rfl,rfl,hz,q⟩:=h
 obtain⟨t,rfl⟩:=rx
 obtain⟨t',rfl⟩:=ry
 exact add_str (fun t' tk=>⟨.str (i++j),H,I.tok _,⟨_,rfl⟩,q⟩) hz
theorem vals1   (r:Vals [x] us):∃u,us=[u]/\RelV x u:=by
 cases r with
 |cons r1 r2=>cases r2;exact⟨_,rfl,r1⟩
theorem vals2   (r:Vals [x,y] us):∃u w',us=[u,w']/\RelV x u/\RelV y w':=by
 cases r with
 |cons r1 r2=>
  cases r2 with
  |cons r3 r4=>cases r4;exact⟨_,_,rfl,r1,r3⟩
theorem Ef_ (hc:X.calm=true):NT X (.builtin "max") (fun xs H Q=>∃i j,xs=[.int i,.int j]/\Q (.int (if j > i then j else i)) H):=by
 intro pins s σ H xs us Q I r h
 obtain⟨i,j,rfl,q⟩:=h
 obtain⟨u,w',rfl,⟨t,rfl⟩,⟨t',rfl⟩⟩:=vals2 r
 refine max_two_ints (I.ok.hd hc) fun h' tk k=>⟨_,H,I.kept k,?_,q⟩
 by_cases hj:j > i
 ·rw[if_pos hj,if_pos hj];exact⟨_,rfl⟩
 ·rw[if_neg hj,if_neg hj];exact⟨_,rfl⟩
end
end L2
namespace L2
open PySem PySem.Spec PyProof.Rows
structure ObjM (h:Heap)(x dx C:Addr)(mA:Str->Option Value):Prop where
 obj:h.get? x=some (PySem.W.instObj C dx)
 ns:h.Ns1 dx mA
 ne:dx≠x
theorem Eg_ {h:Heap}{dx:Addr}{mA:Str->Option Value}(n:h.Ns1 dx mA):∃od,h.get? dx=some od/\∀name,PySem.W.lookIn name od=some (mA name):=by
 obtain⟨o,es,ep,ho,hd,hk,_,hm⟩:=n
 refine⟨o,ho,fun name=>?_⟩
 have e:=hm name
 unfold nsFind findBy at e
 rw[<-Array.find?_toList]at e
 unfold PySem.W.lookIn
 rw[hd]
 dsimp only
 split
 ·rename_i y q
  rw[q]at e
  exact congrArg some e
 ·rename_i q
  rw[q]at e
  have a:es.toList.any (·.refKey)=false:=by
   rw[List.any_eq_false]
   intro y hy
   obtain⟨z,t,hkey⟩:=hk y (Array.mem_toList_iff.mp hy)
   simp[DictEntry.refKey,hkey]
  have a':¬ es.toList.any (·.refKey)=true:=by rw[a];exact Bool.false_ne_true
  rw[if_neg a']
  exact congrArg some e
theorem ObjM.look    (I:ObjM h x dx C mA):∃od,PySem.W.InstAt h x (PySem.W.instObj C dx) C (some od)/\∀name,PySem.W.lookIn name od=some (mA name):=
 let ⟨od,ho,hl⟩:=Eg_ I.ns
 ⟨od,⟨I.obj,rfl,rfl,ho⟩,hl⟩
section
variable {prog:Program} {w:World} {A:Around} {E:Value->Shared->Prop} {s:Shared} {K:PySem.W.Frag} {x dx C f:Addr} {mA:Str->Option Value} {name:Str} {v:Value}
theorem Ii_   (X:K.In s.heap)(I:ObjM s.heap x dx C mA)(hg:PySem.W.plainGet K C name=true)(hh:PySem.W.hasDictIn K C=true)
  (ha:PySem.W.findIn K (.ref C) name=some none) (hv:mA name=some v) (hv':PySem.W.handedIn v=true) (h:Q v {s with toks:=s.toks+1}):
  wpAny (model prog w) A (getAttr (.ref x) name expr) Q E s:=by
 obtain⟨od,J,hl⟩:=I.look
 exact PySem.W.get_value X J (PySem.W.plainGet_of hg).1 (PySem.W.findObj_own hh ha rfl (by rw[hl,hv])) hv' h
theorem FR_   (X:K.In s.heap)(I:ObjM s.heap x dx C mA)(hg:PySem.W.plainGet K C name=true)
  (hf:PySem.W.findIn K (.ref C) name=some (some (.ref f))) (ht:PySem.W.isFn K (.ref f)=true) (hv:mA name=none) (h:Q (.ref f,[.ref x]) s):
  wpAny (model prog w) A (getMethod (.ref x) name pl) Q E s:=by
 obtain⟨od,J,hl⟩:=I.look
 exact PySem.W.method_fn X J (PySem.W.plainGet_of hg).1 (PySem.W.plainGet_of hg).2 hf (beq_iff_eq.mp ht) (by show (PySem.W.lookIn name od).map (·.isSome)=some false;rw[hl,hv];rfl) h
theorem Ij_   (X:K.In s.heap)(I:ObjM s.heap x dx C mA)
  (hs:PySem.W.findIn K (.ref C) "__setattr__"=some (some (.builtin "object.__setattr__"))) (hp:PySem.W.plainOver K C=true) (ht:PySem.W.takerIn K C name=some none) (hh:PySem.W.hasDictIn K C=true)
  (hw:PySem.Within mA ns) (hsz:ns.length<=sizeLine)
  (h:∀h',ObjM h' x dx C (fun y=>if y=name then some v else mA y)->Heap.SameBut dx s.heap h'->Q () {s with heap:=h',toks:=s.toks+2}):
  wpAny (model prog w) A (setAttr (.ref x) name v) Q E s:=by
 obtain⟨od,J,hl⟩:=I.look
 refine PySem.W.set_plain X J hs (PySem.W.osa_open (s:={s with toks:=s.toks+1}) (r:=none) X J hp ht fun b=>?_)
 obtain⟨cd,hc,hd'⟩:=PySem.W.any_some hh
 have hx:s.heap.get? x=some ⟨.ref C,some dx,.plain,#[]⟩:=I.obj
 refine wpAny_bind (wpAny_pure (wpAny_bind (wpAny_bind (wpAny_loadPart hx (wpAny_bind (PySem.W.Looks.here (s:={s with toks:=s.toks+1}) (PySem.W.looks_clsIn X hc) ?_))))))
 rw[hd']
 refine wpAny_pure (a:=some dx) (wpAny_bind (wpAny_pure (wpAny_bind ?_)))
 refine wpAny_nsSet1 (s:={s with toks:=s.toks+1}) I.ns fun h' hn2 hs2=>?_
 obtain⟨oD,esD,epD,hoD,hdD,hcD⟩:=hn2.count (PySem.Within.cons name v hw)
 refine wpAny_bind (wpAny_lookBehind hoD (by rw[hdD];exact pastItsLine_dict (Nat.le_trans hcD (by rw[List.length_cons];omega))) ?_)
 exact wpAny_pure (h _ ⟨(hs2.2 _ (Ne.symm I.ne)).trans I.obj,hn2,I.ne⟩ hs2)
theorem FS_   {kw:List (Str×Value)}(X:K.In s.heap)(hm:PySem.W.makesIn K C=true)
  (hi:PySem.W.findIn K (.ref C) "__init__"=some (some (.ref f))) (hf:PySem.W.typeIn K (.ref f)=some (.type "function"))
  (h:codeAny (model prog w) (A.under (.builtin "type.__call__" ⟨.ref C::vs,kw⟩)) (.call (.ref f) ⟨.ref (s.heap.objs.size+1)::vs,kw⟩) (PySem.W.InitBack (s.heap.objs.size+1) R)
   {s with heap:=(s.heap.push PySem.W.emptyDict).push (PySem.W.instObj C s.heap.objs.size)}):
  codeAny (model prog w) A (.call (.ref C) ⟨vs,kw⟩) R s:=by
 obtain⟨hh,g,d,t,os⟩:=s
 exact PySem.W.make_core (PySem.W.makes_of X hm) (PySem.W.looks_findIn X hi) (fun self=>PySem.W.bind_fn X self hf) (.inl rfl) h
end
def putF (f:Str)(v:V):List (Str×V)->List (Str×V)
 |[]=>[(f,v)]
 | (g,x)::r=>if g=f then (g,v)::r else (g,x)::putF f v r
theorem FP (f g:Str)(v:V):∀fs:List (Str×V),(putF f v fs).lookup g=if g=f then some v else fs.lookup g
 |[]=>by
  show List.lookup g [(f,v)]=_
  by_cases h:g=f
  ·have hb:(g==f)=true:=beq_iff_eq.mpr h
   simp only[List.lookup,hb,if_pos h]
  ·have hb:(g==f)=false:=beq_eq_false_iff_ne.mpr h
   simp only[List.lookup,hb,if_neg h]
 | (k,x)::r=>by
  have ih:=FP f g v r
  rw[show putF f v ((k,x)::r)=(if k=f then (k,v)::r else (k,x)::putF f v r) from rfl]
  by_cases hk:k=f
  ·rw[if_pos hk]
   by_cases h:g=k
   ·have hb:(g==k)=true:=beq_iff_eq.mpr h
    simp only[List.lookup,hb,if_pos (h.trans hk)]
   ·have hb:(g==k)=false:=beq_eq_false_iff_ne.mpr h
    simp only[List.lookup,hb,if_neg (fun e:g=f=>h (e.trans hk.symm))]
  ·rw[if_neg hk]
   by_cases h:g=k
   ·have hb:(g==k)=true:=beq_iff_eq.mpr h
    simp only[List.lookup,hb,if_neg (fun e:g=f=>hk (h.symm.trans e))]
   ·have hb:(g==k)=false:=beq_eq_false_iff_ne.mpr h
    simp only[List.lookup,hb]
    exact ih
theorem SR (f:Str)(v:V):∀fs:List (Str×V),f∈(putF f v fs).map (·.1)/\∀g,g∈fs.map (·.1)->g∈(putF f v fs).map (·.1)
 |[]=>⟨by simp[putF],fun g h=>by simp at h⟩
 | (k,x)::r=>by
  obtain⟨i1,i2⟩:=SR f v r
  rw[show putF f v ((k,x)::r)=(if k=f then (k,v)::r else (k,x)::putF f v r) from rfl]
  by_cases hk:k=f
  ·rw[if_pos hk]
   subst hk
   exact⟨by simp,fun g h=>by simpa using h⟩
  ·rw[if_neg hk]
   refine⟨?_,fun g h=>?_⟩
   ·rw[List.map_cons]
    exact List.mem_cons_of_mem _ i1
   ·rw[List.map_cons]at h ⊢
    rcases List.mem_cons.mp h with e|e
    ·exact List.mem_cons.mpr (.inl e)
    ·exact List.mem_cons_of_mem _ (i2 g e)
theorem SS (f:Str)(v:V):∀fs:List (Str×V),(putF f v fs).length<=fs.length+1
 |[]=>by simp[putF]
 | (k,x)::r=>by
  have ih:=SS f v r
  rw[show putF f v ((k,x)::r)=(if k=f then (k,v)::r else (k,x)::putF f v r) from rfl]
  by_cases hk:k=f
  ·rw[if_pos hk,List.length_cons,List.length_cons];omega
  ·rw[if_neg hk,List.length_cons,List.length_cons];omega
theorem RelO.some_of   (r:RelO (some v) o):∃u,o=some u/\RelV v u:=by
 cases o with
 |none=>exact (show False from r).elim
 |some u=>exact⟨u,rfl,r⟩
theorem RelO.none_of  (r:RelO none o):o=none:=by
 cases o with
 |none=>rfl
 |some u=>exact (show False from r).elim
theorem Eh_   (r:RelV v u):PySem.W.handedIn u=true:=by
 cases v with
 |non=>cases (show u=Value.none from r);rfl
 |bl b=>cases (show u=Value.bool b from r);rfl
 |int i=>obtain⟨t,e⟩:=(show ∃t,u=Value.int i t from r);cases e;rfl
 |str x=>obtain⟨t,e⟩:=(show ∃t,u=Value.str x t from r);cases e;rfl
 |byt b=>obtain⟨t,e⟩:=(show ∃t,u=Value.bytes b t from r);cases e;rfl
 |flt b=>obtain⟨t,e⟩:=(show ∃t,u=Value.float b t from r);cases e;rfl
 |ref a=>cases (show u=Value.ref a from r);rfl
 |ty n=>cases (show u=Value.type n from r);rfl
section
variable {P:Program} {w:World} {H H':Hp} {h h':Heap} {a C dx:Addr} {fs fs':List (Str×V)}
theorem Wv (hok:HOk P w H h)(e:H a=some (.ins C dx fs)):∃mA,ObjM h a dx C mA/\(∀f,RelO (fs.lookup f) (mA f))/\PySem.Within mA (fs.map (·.1))/\fs.length<=1000/\H dx=some (.own a):=by
 obtain⟨d,z,ne,ob,mA,n,r,q⟩:=(show C4 P w H h a (.ins C dx fs) from hok a _ e)
 exact⟨mA,⟨ob,n,ne⟩,r,q,z,d⟩
end
structure Cls (K:PySem.W.Frag)(C:Addr):Prop where
 pg:PySem.W.plainGet K C Str.empty=true
 hd:PySem.W.hasDictIn K C=true
 po:PySem.W.plainOver K C=true
 sa:PySem.W.findIn K (.ref C) "__setattr__"=some (some (.builtin "object.__setattr__"))
theorem Cls.get {K:PySem.W.Frag}  (c:Cls K C)(f:Str):PySem.W.plainGet K C f=true:=c.pg
def Fo (K:PySem.W.Frag)(C:Addr)(f:Str):Prop:=PySem.W.findIn K (.ref C) f=some none
theorem Fo.taker {K:PySem.W.Frag}   (n:Fo K C f):PySem.W.takerIn K C f=some none:=by
 unfold PySem.W.takerIn
 rw[show PySem.W.findIn K (.ref C) f=some none from n]
 rfl
structure Meth (K:PySem.W.Frag)(C:Addr)(m:Str)(f:Addr):Prop where
 at_:PySem.W.findIn K (.ref C) m=some (some (.ref f))
 fn:PySem.W.isFn K (.ref f)=true
 kp:PySem.W.keepIn K (.ref f)=true
section
variable {X:Cx} {pins:List (Addr×Obj)} {σ:St} {H:Hp} {s:Shared} {a C dx:Addr} {fs:List (Str×V)} {f:Str} {v:V} {A:Around} {E:Value->Shared->Prop}
theorem CU_   (I:Inv X pins σ H s)(e:H a=some (.ins C dx fs))(c:Cls X.K C)(n:Fo X.K C f)(l:fs.lookup f=some v)
  (h:∀u s',Inv X pins σ H s'->RelV v u->Q u s'):wpAny (model X.prog X.w) A (getAttr (.ref a) f b) Q E s:=by
 obtain⟨mA,O,r,_,_,_⟩:=Wv I.hok e
 obtain⟨u,hu,ru⟩:=RelO.some_of (v:=v) (o:=mA f) (by rw[<-l];exact r f)
 exact Ii_ I.kIn O (c.get f) c.hd n hu (Eh_ ru) (h u _ (I.tok _) ru)
theorem M0     (I:Inv X pins σ H s)(e:H a=some (.ins C dx fs))(c:Cls X.K C)(k:Meth X.K C m g)(l:fs.lookup m=none)
  (h:Q (.ref g,[.ref a]) s):wpAny (model X.prog X.w) A (getMethod (.ref a) m pl) Q E s:=by
 obtain⟨mA,O,r,_,_,_⟩:=Wv I.hok e
 have hn:mA m=none:=RelO.none_of (by rw[<-l];exact r m)
 exact FR_ I.kIn O (c.get m) k.at_ k.fn hn h
theorem CV_    (I:Inv X pins σ H s)(e:H a=some (.ins C dx fs))(c:Cls X.K C)(n:Fo X.K C f)(hl:fs.length<1000)(ry:RelV y u)
  (h:∀s',Inv X pins σ (upd H a (.ins C dx (putF f y fs))) s'->Q () s'):wpAny (model X.prog X.w) A (setAttr (.ref a) f u) Q E s:=by
 obtain⟨mA,O,r,wi,_,ho⟩:=Wv I.hok e
 have hz:(fs.map (·.1)).length<=sizeLine:=by rw[List.length_map,sizeLine_eq];omega
 refine Ij_ I.kIn O c.sa c.po n.taker c.hd wi hz fun h' O' sb=>h _ ?_
 have hd:∃o,h'.get? dx=some o:=let ⟨o,_,_,e',_⟩:=O'.ns;⟨o,e'⟩
 refine I.write (x:=a) (e:=dx) (by rw[e];exact True.intro) (.inr ho) (fun b q hb z=>(sb.2 b hb).trans z) hd ?_
 refine⟨by rw[Ah O.ne];exact ho,?_,O.ne,O'.obj,_,O'.ns,fun g=>?_,fun g hg=>?_⟩
 ·have:=SS f y fs;omega
 ·show RelO ((putF f y fs).lookup g) (if g=f then some u else mA g)
  rw[FP]
  by_cases q:g=f
  ·rw[if_pos q,if_pos q];exact ry
  ·rw[if_neg q,if_neg q];exact r g
 ·by_cases q:g=f
  ·rw[q];exact (SR f y fs).1
  ·refine (SR f y fs).2 g (wi g fun z=>hg ?_)
   show (if g=f then some u else mA g)=none
   rw[if_neg q];exact z
theorem Inv.made (I:Inv X pins σ H s):Inv X pins σ (upd (upd H s.heap.objs.size (.own (s.heap.objs.size+1))) (s.heap.objs.size+1) (.ins C s.heap.objs.size []))
  {s with heap:=(s.heap.push PySem.W.emptyDict).push (PySem.W.instObj C s.heap.objs.size)}:=by
 have e1:(s.heap.push PySem.W.emptyDict).get? s.heap.objs.size=some PySem.W.emptyDict:=Heap.get?_push_size s.heap rfl
 have e2:((s.heap.push PySem.W.emptyDict).push (PySem.W.instObj C s.heap.objs.size)).get? (s.heap.objs.size+1)=some (PySem.W.instObj C s.heap.objs.size):=by
  have:=Heap.get?_push_size (s.heap.push PySem.W.emptyDict) (o:=PySem.W.instObj C s.heap.objs.size) rfl
  rwa [Heap.size_push]at this
 have e3:(s.heap.push PySem.W.emptyDict).Ns s.heap.objs.size (fun _=>none):=⟨PySem.W.emptyDict,#[],_,e1,rfl,(fun e he=>absurd he (by simp)),fun _=>rfl⟩
 have I1:=I.laid (a:=s.heap.objs.size) (o:=.own (s.heap.objs.size+1)) (h':=s.heap.push PySem.W.emptyDict) (t':=s.toks) (fun b u q=>Heap.get?_push_of_some _ q) (Nat.le_refl _) ⟨_,e1⟩
 refine I1.laid (a:=s.heap.objs.size+1) (o:=.ins C s.heap.objs.size []) (t':=s.toks) (fun b u q=>Heap.get?_push_of_some _ q) (Nat.le_of_eq (Heap.size_push _ _)) ?_
 have ne:s.heap.objs.size≠s.heap.objs.size+1:=Nat.ne_of_lt (Nat.lt_succ_self _)
 refine⟨by rw[Ah ne,Ae],Nat.zero_le _,ne,e2,fun _=>none,(Heap.Ns1.of_empty e3).at fun o q=>Heap.get?_push_of_some _ q,fun _=>True.intro,fun y hy=>absurd rfl hy⟩
theorem Ik_         (hb:attributeBase e f env (eval e env)=eval e env)
  (h:wpAny (model prog w) A (eval e env) (fun o s₁=>wpAny (model prog w) A (getAttr o f true) Q E s₁) E s):wpAny (model prog w) A (eval (.Attribute e f pos) env) Q E s:=
 Attribute_any_ h (by rw[arm_eval_Attribute,hb])
end
def tFld (K:PySem.W.Frag)(ta:TE)(f:Str):TE:=fun σ H Q=>ta σ H fun x H1=>∃a C dx fs v,x=.ref a/\H1 a=some (.ins C dx fs)/\Cls K C/\Fo K C f/\fs.lookup f=some v/\Q v H1
def sFld (K:PySem.W.Frag)(ta tv:TE)(f:Str):TS:=fun D σ H=>tv σ H fun y H1=>ta σ H1 fun x H2=>∃a C dx fs,x=.ref a/\H2 a=some (.ins C dx fs)/\Cls K C/\Fo K C f/\fs.length<1000 /\
 D.nx σ (upd H2 a (.ins C dx (putF f y fs)))
section
variable {X:Cx} {o e value:Expr} {f:Str} {pos pos' tpos:Pos} {ta tv:TE}
theorem AO (he:PE X e ta)(hb:attributeBase e f X.env (eval e X.env)=eval e X.env):PE X (.Attribute e f pos) (tFld X.K ta f):=by
 intro pins s σ H Q I h
 refine Ik_ hb (thn (he pins s σ H _ I h) fun u s1 ⟨x,H1,I1,rx,a,C,dx,fs,v,ex,ea,c,n,l,q⟩=>?_)
 subst ex
 obtain rfl:u=Value.ref a:=rx
 exact CU_ I1 ea c n l fun u' s2 I2 ru=>⟨v,H1,I2,ru,q⟩
theorem F4 (ha:PE X o ta)(hv:PE X value tv)(hs:swapsWith value (some (.Attribute o f pos')) pos.line X.env=pure false):PS X (.Assign [.Attribute o f pos'] value pos) (sFld X.K ta tv f):=by
 intro pins s σ H D I h
 refine plainObj_wpAny_Assign_Attribute (thn (hv pins s σ H _ I h) fun u s1 ⟨y,H1,I1,ry,q⟩=>thn (ha pins s1 σ H1 _ I1 q) fun ov s2 ⟨x,H2,I2,rx,a,C,dx,fs,ex,ea,c,n,l,q2⟩=>?_) hs
 subst ex
 obtain rfl:ov=Value.ref a:=rx
 exact CV_ I2 ea c n l ry fun s3 I3=>⟨σ,_,I3,q2⟩
end
section
variable {X:Cx} {pins:List (Addr×Obj)} {σ:St} {H:Hp} {s:Shared} {A:Around} {E:Value->Shared->Prop} {Q:Value->Shared->Prop} {c:Value} {b:Bool}
inductive TyOf (K:PySem.W.Frag)(H:Hp):V->Value->Prop where
 | non:TyOf K H .non (.type "NoneType")
 | bl (x:Bool):TyOf K H (.bl x) (.type "bool")
 | int (i:Int):TyOf K H (.int i) (.type "int")
 | str (x:Str):TyOf K H (.str x) (.type "str")
 | flt (x:UInt64):TyOf K H (.flt x) (.type "float")
 | lst {a:Addr} {xs:List V} (e:H a=some (.lst xs)):TyOf K H (.ref a) (.type "list")
 | frz {a:Addr} {o:Obj} {xs:List V} (e:H a=some (.frz o (.lst xs))):TyOf K H (.ref a) (.type "list")
 | tup {a:Addr} {xs:List V} (e:H a=some (.tup xs)):TyOf K H (.ref a) (.type "tuple")
 | dK {a:Addr} {kvs:List (Key×V)} (e:H a=some (.dK kvs)):TyOf K H (.ref a) (.type "dict")
 | dT {a:Addr} {kvs:List (List Key×V)} (e:H a=some (.dT kvs)):TyOf K H (.ref a) (.type "dict")
 | ins {a C dx:Addr} {fs:List (Str×V)} (e:H a=some (.ins C dx fs)) (cl:Cls K C) (ha:PySem.W.findIn K (.ref C) "__class__"=some (some (.builtin "object.__class__")))
   (hn:PySem.W.specialIn K (.builtin "object.__class__") "__get__"=some (some (.builtin "getset_descriptor.__get__"))) (htk:PySem.W.takesIn K (.builtin "object.__class__")=some true)
   (hm:PySem.W.mroIn K C (.type "object")=some true):TyOf K H (.ref a) (.ref C)
theorem Ei_   (I:Inv X pins σ H s)(rx:RelV x u)(ty:TyOf X.K H x t)(e:PySem.W.kitOne X.K t c=some b)(h:∀tk,Q (.bool b) {s with toks:=tk}):
  wpAny (model X.prog X.w) A (call (.builtin "isinstance") [u,c]) Q E s:=by
 cases ty with
 |non=>cases (show u=Value.none from rx);exact PySem.W.kia_one PySem.W.kitx_none I.kIn True.intro e (fun z=>nomatch z) h
 |bl y=>cases (show u=Value.bool y from rx);exact PySem.W.kia_one PySem.W.kitx_bool I.kIn True.intro e (fun z=>nomatch z) h
 |int i=>obtain⟨t,q⟩:=(show ∃t,u=Value.int i t from rx);cases q;exact PySem.W.kia_one PySem.W.kitx_int I.kIn True.intro e (fun z=>nomatch z) h
 |str y=>obtain⟨t,q⟩:=(show ∃t,u=Value.str y t from rx);cases q;exact PySem.W.kia_one PySem.W.kitx_str I.kIn True.intro e (fun z=>nomatch z) h
 |flt y=>obtain⟨t,q⟩:=(show ∃t,u=Value.float y t from rx);cases q;exact PySem.W.kia_one PySem.W.kitx_float I.kIn True.intro e (fun z=>nomatch z) h
 |@lst a xs ea=>
  cases (show u=Value.ref a from rx)
  obtain⟨_,_,n,_,h1⟩:=(show C4 X.prog X.w H s.heap a (.lst xs) from I.hok a _ ea)
  exact PySem.W.kia_one PySem.W.kitx_list I.kIn ⟨_,h1,rfl⟩ e (fun z=>nomatch z) h
 |@frz a ob xs ea=>
  cases (show u=Value.ref a from rx)
  obtain⟨_,_,_,n,_,h1⟩:=(show C4 X.prog X.w H s.heap a (.frz ob (.lst xs)) from I.hok a _ ea)
  exact PySem.W.kia_one PySem.W.kitx_list I.kIn ⟨_,h1,rfl⟩ e (fun z=>nomatch z) h
 |@tup a xs ea=>
  cases (show u=Value.ref a from rx)
  obtain⟨_,_,_,p⟩:=(show C4 X.prog X.w H s.heap a (.tup xs) from I.hok a _ ea)
  obtain⟨o,h1,h2,_⟩:=p
  exact PySem.W.kia_one PySem.W.kitx_tuple I.kIn ⟨o,h1,h2⟩ e (fun z=>nomatch z) h
 |@dK a kvs ea=>
  cases (show u=Value.ref a from rx)
  obtain⟨_,_,vs,_,p⟩:=(show C4 X.prog X.w H s.heap a (.dK kvs) from I.hok a _ ea)
  obtain⟨o,es,ep,h1,h2,_⟩:=p
  exact PySem.W.kia_one PySem.W.kitx_dict I.kIn ⟨o,h1,h2.1⟩ e (fun z=>nomatch z) h
 |@dT a kvs ea=>
  cases (show u=Value.ref a from rx)
  obtain⟨_,_,xs,_,o,es,ep,h1,h2,_⟩:=(show C4 X.prog X.w H s.heap a (.dT kvs) from I.hok a _ ea)
  exact PySem.W.kia_one PySem.W.kitx_dict I.kIn ⟨o,h1,h2.1⟩ e (fun z=>nomatch z) h
 |@ins a C dx fs ea cl ha hn htk hm=>
  cases (show u=Value.ref a from rx)
  obtain⟨mA,O,_⟩:=Wv I.hok ea
  obtain⟨od,J,_⟩:=O.look
  exact PySem.W.kia_one (PySem.W.kitx_own (cl.get _) cl.hd ha hn htk hm) I.kIn J e (fun z=>nomatch z) h
end
end L2
namespace L2
open PySem PySem.Spec PyProof.Rows
structure Room (k:Nat)(A:Around):Prop where
 hd:A.handled=none
 dp:A.depth+3*k+5<recursionLimit
 un:A.units+16*k+200<cLine
theorem Room.mono   (r:Room k A)(h:j<=k):Room j A:=⟨r.hd,by have:=r.dp;omega,by have:=r.un;omega⟩
theorem Room.deeper   (r:Room (k+1) A)(env:Env):Room k (A.deeper env):=
 ⟨r.hd,by have:=r.dp;show A.depth+1+3*k+5<_;omega,by have:=r.un;show A.units+3+16*k+200<_;omega⟩
theorem CW_ {A:Around}{C:Addr}{us:List Value}{kw:List (Str×Value)}:(A.under (.builtin "type.__call__" ⟨.ref C::us,kw⟩)).depth=A.depth+1:=by
 first|rfl|simp[Around.under,Code.weight,Code.isCreation,Code.isGuard,Code.isCaller,Code.frames,Code.isFrame,guardIds]
theorem CX_ {A:Around}{C:Addr}{us:List Value}{kw:List (Str×Value)}:(A.under (.builtin "type.__call__" ⟨.ref C::us,kw⟩)).units=A.units+1:=by
 first|rfl|simp[Around.under,Code.cUnits,Code.frames,Code.isFrame]
theorem Room.make   (r:Room (k+1) A)(C:Addr)(us:List Value)(kw:List (Str×Value)):Room k (A.under (.builtin "type.__call__" ⟨.ref C::us,kw⟩)):=
 ⟨r.hd,by have:=r.dp;rw[CW_];omega,by have:=r.un;rw[CX_];omega⟩
theorem Room.depth   (r:Room k A):A.depth<recursionLimit:=by have:=r.dp;omega
theorem Room.units   (r:Room k A):A.units+64<cLine:=by have:=r.un;omega
def tNil:TA:=fun _ H Q=>Q [] H
def Jr_ (ta:TE)(tr:TA):TA:=fun σ H Q=>ta σ H fun x H1=>tr σ H1 fun xs H2=>Q (x::xs) H2
section
variable {X:Cx} {e:Expr} {es:List Expr} {te:TE} {t:TA} {pos:Pos}
theorem Af:PA X [] tNil:=fun _ _ _ _ H Q I h=>Calls.spliced_nil ⟨[],H,I,.nil,h⟩
theorem Aa (ha:PE X e te)(hr:PA X es t)(hs:starEach (e::es) X.env=(false,eval e X.env)::starEach es X.env:=by rfl):PA X (e::es) (Jr_ te t):=by
 intro pos pins s σ H Q I h
 rw[hs]
 show wpAny _ _ (spliced ((false,eval e X.env)::backTo pos (starEach es X.env))) _ _ s
 refine Calls.spliced_cons (thn (ha pins s σ H _ I h) fun u s1 ⟨x,H1,I1,r1,q1⟩=>?_)
 exact thn (hr pos pins s1 σ H1 _ I1 q1) fun us s2 ⟨xs,H2,I2,r2,q2⟩=>⟨x::xs,H2,I2,.cons r1 r2,q2⟩
def tTup (t:TA):TE:=fun σ H Q=>t σ H fun xs H1=>xs.length<=sizeLine/\∀p,H1 p=none->Q (.ref p) (upd H1 p (.tup xs))
def tLst (t:TA):TE:=fun σ H Q=>t σ H fun xs H1=>xs.length<=sizeLine/\∀p,H1 p=none->Q (.ref p) (upd H1 p (.lst xs))
theorem GJ {x1}(h:PA X es t):PE X (.Tuple es x1 pos) (tTup t):=by
 intro pins s σ H Q I hq
 refine wpAny_Tuple_spliced (thn (h pos pins s σ H _ I hq) fun us s1 ⟨xs,H1,I1,r,z,q⟩=>⟨by rw[<-r.length];exact z,?_⟩)
 have hf:H1 s1.heap.objs.size=none:=I1.hok.fresh (Nat.le_refl _)
 refine⟨.ref s1.heap.objs.size,upd H1 s1.heap.objs.size (.tup xs),I1.laid (t':=s1.toks) (fun b u e=>Heap.get?_push_of_some _ e) (Nat.le_refl _) ?_,rfl,q _ hf⟩
 exact⟨z,us,r,⟨_,Heap.get?_push_size _ rfl,rfl,_,rfl⟩⟩
theorem Rq (h:PA X es t):PE X (.List es pos) (tLst t):=by
 intro pins s σ H Q I hq
 refine wpAny_List_spliced (thn (h pos pins s σ H _ I hq) fun us s1 ⟨xs,H1,I1,r,z,q⟩=>⟨by rw[<-r.length];exact z,?_⟩)
 have hf:H1 s1.heap.objs.size=none:=I1.hok.fresh (Nat.le_refl _)
 refine⟨.ref s1.heap.objs.size,upd H1 s1.heap.objs.size (.lst xs),I1.laid (t':=s1.toks) (fun b u e=>Heap.get?_push_of_some _ e) (Nat.le_refl _) ?_,rfl,q _ hf⟩
 exact⟨z,us,0,r,Heap.get?_push_size _ rfl⟩
end
abbrev Sp:=List V->Hp->VK->XK->Prop
abbrev CXT:=List Env->Hp->Shared->XK->Value->Shared->Prop
structure Env0 (P:Program)(w:World)(K:PySem.W.Frag)(mg:Str->Option Value)(base:Heap)(A:Around)(outer:List Env)(s:Shared)(H:Hp):Prop where
 frames:A.frames=some outer
 mod:Mod K mg base
 bs:∀b o,base.get? b=some o->s.heap.get? b=some o/\H b=none
 bsz:base.objs.size<=s.heap.objs.size
 funs:s.heap.FunFrames base outer
 frf:∀b∈frs outer,H b=none
 hok:HOk P w H s.heap
 bare:AllBare s.gens
def CE (outer:List Env)(P:Program)(w:World)(H:Hp)(s:Shared)(Q:VK)(u:Value)(s':Shared):Prop:=
 ∃v H',s'.os=s.os/\AllBare s'.gens/\Un (frs outer) [] H H' s.heap s'.heap/\HOk P w H' s'.heap/\RelV v u/\Q v H'
def CR (CX:CXT)(outer:List Env)(P:Program)(w:World)(H:Hp)(s:Shared)(Q:VK)(E:XK)(r:Result)(s':Shared):Prop:=
 match r with
 |.ok (.ret u)=>CE outer P w H s Q u s'
 |.ok _=>False
 |.error e=>CX outer H s E e s'
structure FnOk (P:Program)(w:World)(K:PySem.W.Frag)(mg:Str->Option Value)(base:Heap)(CX:CXT)(k:Nat)(f:Addr)(fd:FuncData)(ps:List Str)(sp:Sp):Prop where
 len:∀vs H Q E,sp vs H Q E->vs.length=ps.length
 run:∀(A:Around) (outer:List Env) (s:Shared) (H:Hp) (args:Args) (us:List Value) (vs:List V) (Q:VK) (E:XK),Room k A->Env0 P w K mg base A outer s H->BindsTo s fd args (ps.zip us)->Vals vs us->sp vs H Q E ->
  codeAny (model P w) A (.call (.ref f) args) (CR CX outer P w H s Q E) s
theorem Env0.make   {K:PySem.W.Frag}       (e:Env0 P w K mg base A outer s H)(C:Addr)(us:List Value)(kw:List (Str×Value)):
  Env0 P w K mg base (A.under (.builtin "type.__call__" ⟨.ref C::us,kw⟩)) outer s H:=⟨by first|exact e.frames|(simpa [Around.under,Code.envs,Code.isFrame,pushEnvs] using e.frames),e.mod,e.bs,e.bsz,e.funs,e.frf,e.hok,e.bare⟩
section
variable {X:Cx} {pins:List (Addr×Obj)} {σ:St} {H:Hp} {s s':Shared}
theorem Inv.env0 (I:Inv X pins σ H s):Env0 X.prog X.w X.K X.mg X.base X.A X.stack s H:=
 ⟨I.ok.frames,I.ok.mod,I.bs,Nat.le_trans I.ok.bsz I.sz,I.stack,I.stkFree,I.hok,I.bare⟩
theorem Inv.after   (I:Inv X pins σ H s)(h:CE X.stack X.prog X.w H s Q u s'):EP X pins σ Q u s':=by
 obtain⟨v,H',os,bare,un,hok,r,q⟩:=h
 obtain⟨hh,g,d,t,os'⟩:=s'
 obtain rfl:os'=s.os:=os
 exact⟨v,H',I.call (h':=hh) (g':=g) (d':=d) (t':=t) (ch:=[]) un hok bare (fun b z=>absurd z (by simp)),r,q⟩
end
def Il_ (sp:Sp)(dvs:List V)(E:XK)(t:TA):TE:=fun σ H Q=>t σ H fun vs H1=>sp (vs++dvs) H1 Q E
def Im_ (C:Addr)(m:Str)(sp:Sp)(dvs:List V)(E:XK)(ta:TE)(t:TA):TE:=fun σ H Q=>ta σ H fun x H1=>∃a dx fs,x=.ref a/\H1 a=some (.ins C dx fs)/\fs.lookup m=none /\
 t σ H1 fun vs H2=>sp (x::(vs++dvs)) H2 Q E
def Js_ (C:Addr)(sp:Sp)(dvs:List V)(E:XK)(t:TA):TE:=fun σ H Q=>t σ H fun vs H1=>∀x dx,H1 x=none->H1 dx=none->dx≠x ->
 sp (.ref x::(vs++dvs)) (upd (upd H1 dx (.own x)) x (.ins C dx [])) (fun v H2=>v=.non/\Q (.ref x) H2) E
def Binds (K:PySem.W.Frag)(fd:FuncData)(ps:List Str)(ds:List Value):Prop:=
 ∀(s:Shared) (us:List Value),K.In s.heap->(us++ds).length=ps.length->BindsTo s fd ⟨us,[]⟩ (ps.zip (us++ds))
theorem Binds.all {K:PySem.W.Frag}   (h:∀us:List Value,us.length=ps.length->bindArgs fd ⟨us,[]⟩=pure (ps.zip us)):Binds K fd ps []:=fun s us _ hl=>by
 rw[List.append_nil]at hl ⊢
 exact .of_eq (h us hl)
def Lk (CX:CXT)(X:Cx)(E:XK):Prop:=∀(pins:List (Addr×Obj)) (σ:St) (H:Hp) (s:Shared) (e:Value) (s':Shared),Inv X pins σ H s->CX X.stack H s E e s'->X.xe e s'
section
variable {X:Cx} {CX:CXT} {k:Nat} {f C:Addr} {fd:FuncData} {ps:List Str} {sp:Sp} {dvs:List V} {ds:List Value} {E:XK} {x m:Str} {p pos apos:Pos} {e o:Expr} {es:List Expr} {ta:TE} {t:TA}
theorem YK        (F:FnOk X.prog X.w X.K X.mg X.base CX k f fd ps sp)(hr:Room k X.A)(hb:Binds X.K fd ps ds)(hd:Vals dvs ds)(hx:Lk CX X E)
  (I:Inv X pins σ H s) (r:Vals vs us) (h:sp (vs++dvs) H Q E):wpAny (model X.prog X.w) X.A (call (.ref f) us) (EP X pins σ Q) X.xe s:=by
 have r2:Vals (vs++dvs) (us++ds):=r.append hd
 have hl:(us++ds).length=ps.length:=by rw[<-r2.length];exact F.len _ _ _ _ h
 refine wpAny_call (codeAny_mono (F.run X.A X.stack s H ⟨us,[]⟩ (us++ds) (vs++dvs) Q E hr I.env0 (hb s us I.kIn hl) r2 h) fun r s' hq=>?_)
 cases r with
 |error e=>exact hx pins σ H s e s' I hq
 |ok fl=>
  cases fl with
  |ret u=>exact I.after hq
  |next=>exact False.elim hq
  |brk=>exact False.elim hq
  |cont=>exact False.elim hq
theorem Aj (F:FnOk X.prog X.w X.K X.mg X.base CX k f fd ps sp)(hr:Room k X.A)(hg:Gl X x)(hm:X.mg x=some (.ref f))(hk:PySem.W.keepIn X.K (.ref f)=true)(hb:Binds X.K fd ps ds)(hd:Vals dvs ds)(hx:Lk CX X E)
  (ha:PA X (e::es) t) (hdb:(x==("__debug__" : Str))=false:=by decide) (he:starEach (e::es) X.env=(false,eval e X.env)::starEach es X.env:=by rfl) (hpl:(backTo pos (starEach es X.env)).any (·.1)=false:=by rfl):
  PE X (.Call (.Name x p) (e::es) [] pos) (Il_ sp dvs E t):=by
 intro pins s σ H Q I h
 refine wpAny_Call_Name_kw (PY I hg hm ?_ hdb)
 refine PySem.W.callWith_K (h₀:=X.base) I.ok.mod.kin hk (thn (ha pos pins s σ H _ I h) fun us s1 ⟨vs,H1,I1,r,q⟩=>⟨I1.kIn,?_⟩) he hpl
 exact YK F hr hb hd hx I1 r q
theorem DE  (he:PE X o ta)(c:Cls X.K C)(hm:Meth X.K C m f)(F:FnOk X.prog X.w X.K X.mg X.base CX k f fd ps sp)(hr:Room k X.A)(hb:Binds X.K fd ps ds)(hd:Vals dvs ds)(hx:Lk CX X E)(ha:PA X (e::es) t)
  (hst:starEach (e::es) X.env=(false,eval e X.env)::starEach es X.env:=by rfl) (hpl:(backTo pos (starEach es X.env)).any (·.1)=false:=by rfl)
  (ht:eval (.Call (.Attribute o m apos) (e::es) [] pos) X.env=(do
   let ov <- eval o X.env
   standAt apos.atName
   let (f,first) <- holding [ov] (getMethod ov m pl)
   callWith pos f first (backTo pos (starEach (e::es) X.env)) (backToKw pos (keywordEach [] X.env))):=by rfl):
  PE X (.Call (.Attribute o m apos) (e::es) [] pos) (Im_ C m sp dvs E ta t):=by
 intro pins s σ H Q I h
 refine PySem.W.methodCall_KW (pl:=pl) (thn (he pins s σ H _ I h) fun u s1 ⟨x,H1,I1,rx,a,dx,fs,ex,ea,l,q⟩=>?_) ht
 subst ex
 obtain rfl:u=Value.ref a:=rx
 refine M0 I1 ea c hm l ?_
 refine PySem.W.callWith_K (first:=[.ref a]) (h₀:=X.base) I.ok.mod.kin hm.kp (thn (ha pos pins s1 σ H1 _ I1 q) fun us s2 ⟨vs,H2,I2,r,q2⟩=>⟨I2.kIn,?_⟩) hst hpl
 exact YK (us:=.ref a::us) (vs:=.ref a::vs) F hr hb hd hx I2 (.cons rfl r) q2
theorem Bl  (he:PE X o ta)(c:Cls X.K C)(hm:Meth X.K C m f)(F:FnOk X.prog X.w X.K X.mg X.base CX k f fd ps sp)(hr:Room k X.A)(hb:Binds X.K fd ps ds)(hd:Vals dvs ds)(hx:Lk CX X E)
  (ht:eval (.Call (.Attribute o m apos) [] [] pos) X.env=(do
   let ov <- eval o X.env
   standAt apos.atName
   let (f,first) <- holding [ov] (getMethod ov m pl)
   callWith pos f first (backTo pos (starEach [] X.env)) (backToKw pos (keywordEach [] X.env))):=by rfl):
  PE X (.Call (.Attribute o m apos) [] [] pos) (Im_ C m sp dvs E ta tNil):=by
 intro pins s σ H Q I h
 refine PySem.W.methodCall_KW (pl:=pl) (thn (he pins s σ H _ I h) fun u s1 ⟨x,H1,I1,rx,a,dx,fs,ex,ea,l,q⟩=>?_) ht
 subst ex
 obtain rfl:u=Value.ref a:=rx
 refine M0 I1 ea c hm l ?_
 exact PySem.W.callWith_K0 (first:=[.ref a]) I1.kIn hm.kp (YK (us:=[.ref a]) (vs:=[.ref a]) F hr hb hd hx I1 (.cons rfl .nil) q)
structure Mk (K:PySem.W.Frag)(C f:Addr):Prop where
 makes:PySem.W.makesIn K C=true
 init:PySem.W.findIn K (.ref C) "__init__"=some (some (.ref f))
 fn:PySem.W.isFn K (.ref f)=true
 kp:PySem.W.keepIn K (.ref C)=true
theorem FT_        (M:Mk X.K C f)(F:FnOk X.prog X.w X.K X.mg X.base CX k f fd ps sp)(hr:Room (k+1) X.A)(hb:Binds X.K fd ps ds)(hd:Vals dvs ds)
  (hx:Lk CX X E) (I:Inv X pins σ H s) (r:Vals vs us)
  (h:∀x dx,H x=none->H dx=none->dx≠x->sp (.ref x::(vs++dvs)) (upd (upd H dx (.own x)) x (.ins C dx [])) (fun v H2=>v=.non/\Q (.ref x) H2) E):
  wpAny (model X.prog X.w) X.A (call (.ref C) us) (EP X pins σ Q) X.xe s:=by
 have hq:=h (s.heap.objs.size+1) s.heap.objs.size (I.hok.fresh (Nat.le_succ _)) (I.hok.fresh (Nat.le_refl _)) (Nat.ne_of_lt (Nat.lt_succ_self _))
 have I2:=Inv.made (C:=C) I
 have r2:Vals (V.ref (s.heap.objs.size+1)::(vs++dvs)) (Value.ref (s.heap.objs.size+1)::(us++ds)):=.cons rfl (r.append hd)
 have hl:(Value.ref (s.heap.objs.size+1)::us++ds).length=ps.length:=by
  have e:=r2.length
  rw[F.len _ _ _ _ hq]at e
  exact e.symm
 refine wpAny_call (FS_ (f:=f) I.kIn M.makes M.init (beq_iff_eq.mp M.fn) (codeAny_mono (F.run _ X.stack _ _ ⟨Value.ref (s.heap.objs.size+1)::us,[]⟩ (Value.ref (s.heap.objs.size+1)::(us++ds)) _ _ E (hr.make C us [])
  (I2.env0.make C us []) (hb _ (Value.ref (s.heap.objs.size+1)::us) I2.kIn hl) r2 hq) fun r s' hq'=>?_))
 cases r with
 |error e=>exact hx pins σ _ _ e s' I2 hq'
 |ok fl=>
  cases fl with
  |ret u=>
   obtain⟨v,H',I3,rv,ev,q3⟩:=I2.after hq'
   subst ev
   exact⟨rv,⟨V.ref (s.heap.objs.size+1),H',I3,rfl,q3⟩⟩
  |next=>exact False.elim hq'
  |brk=>exact False.elim hq'
  |cont=>exact False.elim hq'
theorem AM_ (M:Mk X.K C f)(F:FnOk X.prog X.w X.K X.mg X.base CX k f fd ps sp)(hr:Room (k+1) X.A)(hg:Gl X x)(hm:X.mg x=some (.ref C))(hb:Binds X.K fd ps ds)(hd:Vals dvs ds)(hx:Lk CX X E)
  (ha:PA X (e::es) t) (hdb:(x==("__debug__" : Str))=false:=by decide) (he:starEach (e::es) X.env=(false,eval e X.env)::starEach es X.env:=by rfl) (hpl:(backTo pos (starEach es X.env)).any (·.1)=false:=by rfl):
  PE X (.Call (.Name x p) (e::es) [] pos) (Js_ C sp dvs E t):=by
 intro pins s σ H Q I h
 refine wpAny_Call_Name_kw (PY I hg hm ?_ hdb)
 refine PySem.W.callWith_K (h₀:=X.base) I.ok.mod.kin M.kp (thn (ha pos pins s σ H _ I h) fun us s1 ⟨vs,H1,I1,r,q⟩=>⟨I1.kIn,?_⟩) he hpl
 exact FT_ M F hr hb hd hx I1 r q
end
structure FnScope (N P:List Str)(sc:Scope):Prop where
 kind:sc.kind=.function
 co:sc.isCoroutine=false
 gen:sc.isGenerator=false
 nd:N.Nodup
 pre:N.take P.length=P
 par:∀x∈P,sc.names.lookup x=some .local\/sc.names.lookup x=some .cell
 nofree:∀y∈sc.names,y.2 ≠ .free
theorem YL {kindOf:Str->Option NameKind}{x:Str}:∀{binds:List (Str×Value)} {m:Str->Option Value},(∀v,(x,v)∉binds)->bindL kindOf binds m x=m x
 |[],_,_=>rfl
 | (n,v)::r,m,h=>by
  unfold bindL
  rw[YL fun w hw=>h w (List.mem_cons_of_mem _ hw)]
  split
  ·have:x≠n:=by rintro rfl;exact h v List.mem_cons_self
   simp[this]
  ·rfl
theorem YM {kindOf:Str->Option NameKind}{x:Str}:∀{binds:List (Str×Value)} {m:Str->Option Value},(∀v,(x,v)∉binds)->bindC kindOf binds m x=m x
 |[],_,_=>rfl
 | (n,v)::r,m,h=>by
  unfold bindC
  rw[YM fun w hw=>h w (List.mem_cons_of_mem _ hw)]
  split
  ·rfl
  ·have:x≠n:=by rintro rfl;exact h v List.mem_cons_self
   simp[this]
theorem YN {kindOf:Str->Option NameKind}{x:Str}{v:Value}:∀{P:List Str} {vs:List Value} {i:Nat} {m:Str->Option Value},P.Nodup->P[i]?=some x->vs[i]?=some v->kindOf x=some .local ->
  bindL kindOf (P.zip vs) m x=some v
 |[],_,_,_,_,h,_,_=>by simp at h
 |_::_,[],_,_,_,_,h,_=>by simp at h
 |p::P,w::vs,0,m,nd,h1,h2,hk=>by
  simp at h1 h2;subst h1;subst h2
  show bindL kindOf ((p,w)::P.zip vs) m p=_
  unfold bindL
  rw[YL fun v hv=>(List.nodup_cons.mp nd).1 (List.of_mem_zip hv).1,if_pos hk]
  simp
 |p::P,w::vs,i+1,m,nd,h1,h2,hk=>by
  show bindL kindOf ((p,w)::P.zip vs) m x=_
  unfold bindL
  exact YN (i:=i) (List.nodup_cons.mp nd).2 (by simpa using h1) (by simpa using h2) hk
theorem YO {kindOf:Str->Option NameKind}{x:Str}{v:Value}:∀{P:List Str} {vs:List Value} {i:Nat} {m:Str->Option Value},P.Nodup->P[i]?=some x->vs[i]?=some v->kindOf x≠some .local ->
  bindC kindOf (P.zip vs) m x=some v
 |[],_,_,_,_,h,_,_=>by simp at h
 |_::_,[],_,_,_,_,h,_=>by simp at h
 |p::P,w::vs,0,m,nd,h1,h2,hk=>by
  simp at h1 h2;subst h1;subst h2
  show bindC kindOf ((p,w)::P.zip vs) m p=_
  unfold bindC
  rw[YM fun v hv=>(List.nodup_cons.mp nd).1 (List.of_mem_zip hv).1,if_neg hk]
  simp
 |p::P,w::vs,i+1,m,nd,h1,h2,hk=>by
  show bindC kindOf ((p,w)::P.zip vs) m x=_
  unfold bindC
  exact YO (i:=i) (List.nodup_cons.mp nd).2 (by simpa using h1) (by simpa using h2) hk
def start (N:List Str)(vs:List V):St:=vs.map some++List.replicate (N.length-vs.length) none
def cxOf (CX:CXT)(P:Program)(w:World)(K:PySem.W.Frag)(mg:Str->Option Value)(base:Heap)(N:List Str)(qual:Str)(scope:Scope)(f:Addr)(cd:Value)(A:Around)(outer:List Env)(s:Shared)(H:Hp)(E:XK):Cx where
 prog:=P
 w:=w
 K:=K
 mg:=mg
 base:=base
 A:=A.deeper (envOfC qual scope s.heap.objs.size f cd)
 N:=N
 s₀:=s
 H₀:=H
 env:=envOfC qual scope s.heap.objs.size f cd
 outer:=outer
 stack:=envOfC qual scope s.heap.objs.size f cd::outer
 ex:=[]
 calm:=true
 fn:=fun _=>true
 pn:=[]
 xe:=fun e s'=>wpAny (model P w) (A.deeper (envOfC qual scope s.heap.objs.size f cd)) (leaving (envOfC qual scope s.heap.objs.size f cd) e) (fun _ s''=>CX outer H s E e s'') (fun e' s''=>CX outer H s E e' s'') s'
theorem Cm_ {sc:Scope}{n:Nat}{x:Str}(h:sc.names.lookup x=some .cell):∃c,(cellsFrom n sc.names []).lookup x=some c:=by
 have q:=PySem.W.cellsFrom_some sc.names n [] (.inl h)
 exact Option.isSome_iff_exists.mp q
theorem Ej_    {K:PySem.W.Frag}
  (S:FnScope N ps scope) (hd:A.handled=none) (e0:Env0 P w K mg base A outer s H) (hl:vs.length=ps.length) (r:Vals vs us)
  (x:InCallC s s.heap.objs.size (bindL (envOfC qual scope s.heap.objs.size f cd).kindOf (ps.zip us) fun _=>none) (cellsFrom (s.heap.objs.size+1) scope.names []) (bindC (envOfC qual scope s.heap.objs.size f cd).kindOf (ps.zip us) fun _=>none) s1):
  Inv (cxOf CX P w K mg base N qual scope f cd A outer s H E) [] (start N vs) H s1:=by
 have hpl:ps.length<=N.length:=by have:=congrArg List.length S.pre;rw[List.length_take]at this;omega
 obtain⟨h1,tk,rfl,hk⟩:=x.done
 have noA:∀b:Addr,b∉(cxOf CX P w K mg base N qual scope f cd A outer s H E).ex:=fun b z=>absurd (show b∈([]:List Addr) from z) (by simp)
 refine⟨⟨e0.mod,S.kind,rfl,rfl,Nat.le_refl _,fun y z c h1 h2=>?_,fun y hy=>?_,fun y c _ h=>?_,fun _=>hd,Around.frames_deeper e0.frames,.inr ⟨rfl,rfl⟩,fun b z=>absurd z (noA b),e0.bs,e0.bsz,fun b _ _=>noA b,fun b z=>absurd z (noA b),e0.funs,e0.frf⟩,
  rfl,e0.bare,Un.kept hk,⟨_,x.toInCall.ns,fun i y v h1 h2 h3=>?_⟩,fun y c h=>⟨_,x.cell y c h⟩,e0.hok.fresh (Nat.le_refl _),fun y c h=>?_,fun p hp=>absurd (show p∈([]:List (Addr×Obj)) from hp) (by simp),e0.hok.kept hk,?_⟩
 ·exact name_of_addr x.apart (PySem.mem_of_lookup h1) (PySem.mem_of_lookup h2)
 ·have hy:scope.names.lookup y=some .cell\/scope.names.lookup y=some .free:=hy
  rcases hy with hy|hy
  ·exact Cm_ hy
  ·exact absurd rfl (S.nofree _ (PySem.mem_of_lookup hy))
 ·exact Nat.le_of_lt (x.above y c (PySem.mem_of_lookup h))
 ·have hi:i<vs.length:=by
   unfold start at h2
   by_cases hi:i<vs.length
   ·exact hi
   ·rw[List.getElem?_append_right (by simpa using hi)]at h2
    rw[List.getElem?_replicate]at h2
    split at h2<;>cases h2
  have ha:vs[i]?=some v:=by
   unfold start at h2
   rw[List.getElem?_append_left (by simpa using hi),List.getElem?_map]at h2
   cases e:vs[i]? with
   |none=>rw[e]at h2;cases h2
   |some a=>rw[e]at h2;cases h2;rfl
  obtain⟨u,hu,rv⟩:=r.get ha
  have hp:ps[i]?=some y:=by
   rw[<-S.pre,List.getElem?_take_of_lt (by omega)];exact h1
  have ndP:ps.Nodup:=by rw[<-S.pre];exact S.nd.sublist (List.take_sublist _ _)
  refine⟨u,rv,?_⟩
  rcases S.par y (List.mem_of_getElem? hp) with k|k
  ·exact .inl ⟨k,YN ndP hp hu k⟩
  ·obtain⟨c,e⟩:=Cm_ (n:=s.heap.objs.size+1) k
   refine .inr ⟨.inl k,c,e,?_⟩
   have q:=x.cell y c e
   rw[YO ndP hp hu (by show scope.names.lookup y≠_;rw[k];decide)]at q
   exact q
 ·exact e0.hok.fresh (Nat.le_of_lt (x.above y c (PySem.mem_of_lookup h)))
 ·unfold start
  show _=N.length
  rw[List.length_append,List.length_map,List.length_replicate]
  omega
theorem Jt_    {K:PySem.W.Frag}         {dV kV doc pm cdv ct oc:Value}
       (lk:K.lookup f=some ⟨oc,od,.func (PySem.W.fnOf name qual params body scope dV kV doc pm an cdv ct),osl⟩) (hcd:PySem.W.codeIn K cdv qual=true) (S:FnScope N ps scope)
    (len:∀vs H Q E,sp vs H Q E->vs.length=ps.length)
    (hbody:∀(A:Around) (outer:List Env) (s:Shared) (H:Hp) (vs:List V) (Q:VK) (E:XK),Room k (A.deeper (envOfC qual scope s.heap.objs.size f cdv))->sp vs H Q E ->
      ∃t,PSs (cxOf CX P w K mg base N qual scope f cdv A outer s H E) body t/\t {nx:=fun _ H'=>Q .non H',rt:=Q} (start N vs) H):
    FnOk P w K mg base CX (k+1) f (PySem.W.fnOf name qual params body scope dV kV doc pm an cdv ct) ps sp:=by
  refine⟨len,fun A outer s H args us vs Q E hr e0 hb r hsp=>?_⟩
  have hl:=len _ _ _ _ hsp
  have KX:K.In s.heap:=e0.mod.kin.keeps fun b o e=>(e0.bs b o e).1
  have lim:s.heap.NoLimit:=e0.mod.nolimit.keeps fun b o e=>(e0.bs b o e).1
  have hkind:∀y∈ps.zip us,scope.names.lookup y.1=some .local\/(scope.names.lookup y.1=some .cell/\((cellsFrom (s.heap.objs.size+1) scope.names []).lookup y.1).isSome=true):=fun ⟨n,v⟩ hy=>by
    rcases S.par n (List.of_mem_zip hy).1 with q|q
    . exact .inl q
    . exact .inr ⟨q,PySem.W.cellsFrom_some _ _ _ (.inl q)⟩
  refine codeAny_call_function hr.depth (KX _ _ lk) rfl S.co S.gen rfl (PySem.W.codeRec_of KX hcd) (hb _ _ _ _ ?_)
  refine wpAny_newFunctionEnv_cells S.kind hkind fun env he s1 x=>?_
  subst he
  refine⟨lim.keeps x.toInCall.keep,codeAny_func ?_⟩
  obtain⟨t,ht,hq⟩:=hbody A outer s H vs Q E (hr.deeper _) hsp
  have I:Inv (cxOf CX P w K mg base N qual scope f cdv A outer s H E) [] (start N vs) H s1:=Ej_ S hr.hd e0 hl r x
  refine wpAny_mono (ht [] s1 (start N vs) H _ I hq) (fun fl s' hs=>?_) fun e s' hs=>hs
  have fin:∀{σ':St} {H':Hp} {v:V} {u:Value},Inv (cxOf CX P w K mg base N qual scope f cdv A outer s H E) [] σ' H' s'->RelV v u->Q v H'->CE outer P w H s Q u s' :=
    fun {σ' H' v u} J rv q=>⟨v,H',J.os,J.bare,J.base,J.hok,rv,q⟩
  cases fl with
  |ret u=>
    obtain⟨v,σ',H',J,rv,q⟩:=hs
    exact fin J rv q
  |next=>
    obtain⟨σ',H',J,q⟩:=hs
    exact fin (v:=V.non) (u:=Value.none) J rfl q
  |brk=>
    obtain⟨_,_,_,q⟩:=hs
    exact False.elim q
  |cont=>
    obtain⟨_,_,_,q⟩:=hs
    exact False.elim q
end L2
namespace L2
open PySem PySem.Spec PyProof.Rows
section
variable {X:Cx} {x:Str} {p pos:Pos} {e:Expr} {es:List Expr} {t:TA} {id T:String} {r:List V->Hp->VK->Prop}
def tCB (r:List V->Hp->VK->Prop)(t:TA):TE:=fun σ H Q=>t σ H fun vs H1=>r vs H1 Q
theorem C3 (hc:NT X (.builtin id) r)(hg:Gl X x)(hm:X.mg x=none)(hv:bootBuiltins x=some (.builtin id))(ha:PA X (e::es) t)(hn:x ≠ "__name__" := by decide)(hdb:(x==("__debug__" : Str))=false:=by decide)
  (he:starEach (e::es) X.env=(false,eval e X.env)::starEach es X.env:=by rfl) (hpl:(backTo pos (starEach es X.env)).any (·.1)=false:=by rfl):PE X (.Call (.Name x p) (e::es) [] pos) (tCB r t):=by
 intro pins s σ H Q I h
 refine wpAny_Call_Name_kw (SM I hg hm hv ?_ hn hdb)
 exact PyProof.Rows.callWith_builtin1 (thn (ha pos pins s σ H _ I h) fun us s1 ⟨vs,H1,I1,r1,q1⟩=>hc pins s1 σ H1 vs us Q I1 r1 q1) he hpl
theorem EE (hc:NT X (.type T) r)(hg:Gl X x)(hm:X.mg x=none)(hv:bootBuiltins x=some (.type T))(ha:PA X (e::es) t)(hn:x ≠ "__name__" := by decide)(hdb:(x==("__debug__" : Str))=false:=by decide)
  (he:starEach (e::es) X.env=(false,eval e X.env)::starEach es X.env:=by rfl) (hpl:(backTo pos (starEach es X.env)).any (·.1)=false:=by rfl):PE X (.Call (.Name x p) (e::es) [] pos) (tCB r t):=by
 intro pins s σ H Q I h
 refine wpAny_Call_Name_kw (SM I hg hm hv ?_ hn hdb)
 exact PyProof.Rows.callWith_type1 (thn (ha pos pins s σ H _ I h) fun us s1 ⟨vs,H1,I1,r1,q1⟩=>hc pins s1 σ H1 vs us Q I1 r1 q1) he hpl
end
end L2
namespace HT
open PySem PyProof.Rows
section
variable {prog:Program} {w:World} {A:Around} {E:Value->Shared->Prop} {s:Shared}
theorem cat_tup    (ht:IsTup s.heap t vs.toArray)(hb:IsTup s.heap b ws.toArray)(hv:vs ≠ [])
  (h1:ws=[]->Q (.ref t) s) (h2:ws ≠ []->Q (.ref s.heap.objs.size) {s with heap:=s.heap.push {cls:=.type "tuple",data:=.seq (vs++ws).toArray} })
  (hsz:vs.length+ws.length<=sizeLine):wpAny (model prog w) A (binaryOp .Add (.ref t) (.ref b)) Q E s:=by
 obtain⟨⟨cls,dd,data,sl⟩,ho,hc,n,hd⟩:=id ht
 obtain⟨⟨cls2,dd2,data2,sl2⟩,ho2,hc2,n2,hd2⟩:=id hb
 simp only at hc hd hc2 hd2
 subst hc hd hc2 hd2
 have e:vs.toArray++ws.toArray=(vs++ws).toArray:=by simp
 by_cases hw:ws=[]
 ·exact concat_meets ⟨_,ho,rfl⟩ ⟨_,ho2,rfl⟩ noFill_tuple_add seq_tuple_add PySem.F.slot_tuple_add PySem.F.entry_tuple_add (PySem.F.args_tuple_add_2 _ _)
   (tuple_addW1 t b vs.toArray ws.toArray n n2 dd dd2 sl sl2 (by simpa using hv) (by simp[hw])) ⟨ho,ho2,h1 hw⟩
 ·refine concat_meets ⟨_,ho,rfl⟩ ⟨_,ho2,rfl⟩ noFill_tuple_add seq_tuple_add PySem.F.slot_tuple_add PySem.F.entry_tuple_add (PySem.F.args_tuple_add_2 _ _)
   (tuple_addW2 t b vs.toArray ws.toArray n n2 dd dd2 sl sl2 (by simpa using hv) (by simpa using hw) (by rw[List.size_toArray,List.size_toArray];exact hsz)) ⟨ho,ho2,?_⟩
  rw[e]
  exact h2 hw
def sIx (n d:Nat):Option Int->Nat
 |none=>d
 |some v=>if v<0 then (v+(n:Int)).toNat else min v.toNat n
theorem sIx_none (n d:Nat):sIx n d none=d:=rfl
theorem sIx_nat (n d k:Nat):sIx n d (some (k:Int))=min k n:=by
 show (if (k:Int)<0 then ((k:Int)+(n:Int)).toNat else min (k:Int).toNat n)=min k n
 rw[if_neg (by omega),Int.toNat_natCast]
theorem Ju_ (n d:Nat)(hd:d<=n)(o:Option Int):sIx n d o<=n:=by
 cases o with
 |none=>exact hd
 |some v=>
  show (if v<0 then (v+(n:Int)).toNat else min v.toNat n)<=n
  by_cases hv:v<0
  ·rw[if_pos hv];omega
  ·rw[if_neg hv];exact Nat.min_le_right _ _
theorem Ek_ (v:Int)(n d:Nat):(if v<0 then max (v+(n:Int)) 0 else min v (n:Int))=((sIx n d (some v):Nat):Int):=by
 show (if v<0 then max (v+(n:Int)) 0 else min v (n:Int))=(((if v<0 then (v+(n:Int)).toNat else min v.toNat n):Nat):Int)
 by_cases hv:v<0
 ·simp only[if_pos hv];omega
 ·simp only[if_neg hv];omega
theorem CY_ (lo hi:Option Int)(n:Nat):Builtin.Slice.sliceAdjust lo hi 1 (n:Int)=(((sIx n 0 lo:Nat):Int),((sIx n n hi:Nat):Int)):=by
 have h1:¬ ((1:Int)<0):=by omega
 unfold Builtin.Slice.sliceAdjust
 simp only[h1,if_false]
 refine Prod.ext ?_ ?_
 ·cases lo with
  |none=>rfl
  |some v=>exact Ek_ v n 0
 ·cases hi with
  |none=>rfl
  |some v=>exact Ek_ v n n
theorem CZ_ (i j:Nat):Builtin.Slice.slicePlaces (i:Int) (j:Int) 1=j-i:=by
 unfold Builtin.Slice.slicePlaces
 have h1:(1:Int) > 0:=by omega
 simp only[h1,if_true,Int.ediv_one]
 split<;>omega
theorem V9    (p:IsPart v o)(h:Q o s):wpAny (model prog w) A (Builtin.Slice.slicePartIndex v) Q E s:=by
 cases p with
 |none=>exact slicePart_none h
 |int i t=>exact slicePart_int h
theorem Kp {sl:Addr}{vl vu:Value}{lo hi:Option Int}{n:Nat}{Q:Int×Int×Nat->Shared->Prop}(hs:s.heap.IsSliceOf sl vl vu .none)(pl:IsPart vl lo)(pu:IsPart vu hi)
  (h:Q (((sIx n 0 lo:Nat):Int),1,sIx n n hi-sIx n 0 lo) s):wpAny (model prog w) A (Builtin.Slice.sliceApplied (.ref sl) (pure (n:Int))) Q E s:=by
 obtain⟨os,hos,hcs,hds⟩:=id hs
 unfold Builtin.Slice.sliceApplied Builtin.Slice.sliceFields
 refine wpAny_bind (wpAny_bind (wpAny_field hos hds (x:=vl) rfl (wpAny_bind (wpAny_field hos hds (x:=vu) rfl (wpAny_bind (wpAny_field hos hds (x:=.none) rfl (wpAny_pure ?_)))))))
 refine wpAny_bind (slicePart_none ?_)
 show wpAny _ _ (if ((1:Int)==0)=true then _ else _) _ _ s
 rw[if_neg (by decide)]
 refine wpAny_bind (V9 pl (wpAny_bind (V9 pu (wpAny_bind (wpAny_pure ?_)))))
 show wpAny _ _ (match Builtin.Slice.sliceAdjust lo hi 1 (n:Int) with|(lo,hi)=>pure (lo,(1:Int),Builtin.Slice.slicePlaces lo hi 1)) _ _ s
 rw[CY_ lo hi n]
 show wpAny _ _ (pure (((sIx n 0 lo:Nat):Int),(1:Int),Builtin.Slice.slicePlaces ((sIx n 0 lo:Nat):Int) ((sIx n n hi:Nat):Int) 1)) _ _ s
 rw[CZ_]
 exact wpAny_pure h
theorem FU_ (xs:Array Value)(i k:Nat):((List.range k).filterMap fun (m:Nat)=>xs[((i:Int)+(m:Int)*1).toNat]?).toArray=((xs.toList.drop i).take k).toArray:=by
 have e:(fun (m:Nat)=>xs[((i:Int)+(m:Int)*1).toNat]?)=fun m=>xs[i+m]?:=by
  funext m
  have:((i:Int)+(m:Int)*1).toNat=i+m:=by omega
  rw[this]
 rw[e]
 have:=pick_run xs i k
 rw[List.filterMap_map]at this
 have e2:((fun x=>xs[x]?) ∘ fun x=>i+x)=fun m=>xs[i+m]?:=rfl
 rw[e2]at this
 rw[this]
theorem getItem_tuple_cut {t sl:Addr}   {lo hi:Option Int}  (ht:IsTup s.heap t items)(hs:s.heap.IsSliceOf sl vl vu .none)(pl:IsPart vl lo)(pu:IsPart vu hi)
  (hw:¬ (sIx items.size 0 lo=0/\sIx items.size items.size hi=items.size))
  (h:Q (.ref s.heap.objs.size) {s with heap:=s.heap.push {cls:=.type "tuple",data:=.seq ((items.toList.drop (sIx items.size 0 lo)).take (sIx items.size items.size hi-sIx items.size 0 lo)).toArray} })
  (hsz:items.size<=sizeLine):wpAny (model prog w) A (getItem (.ref t) (.ref sl)) Q E s:=by
 have htake:sizeOk (.seq ((items.toList.drop (sIx items.size 0 lo)).take (sIx items.size items.size hi-sIx items.size 0 lo)).toArray):=by
  show ((items.toList.drop (sIx items.size 0 lo)).take (sIx items.size items.size hi-sIx items.size 0 lo)).toArray.size<=sizeLine
  rw[List.size_toArray,List.length_take,List.length_drop,Array.length_toList]
  omega
 have hj:sIx items.size items.size hi<=items.size:=Ju_ _ _ (Nat.le_refl _) hi
 obtain⟨os,hos,hcs,hds⟩:=id hs
 have hTs:s.TypeIs (.ref sl) "slice" := ⟨os,hos,hcs⟩
 unfold getItem
 try with_reducible refine wpAny_holding ?_
 first|refine wpAny_bind (wpAny_pure ?_)|skip
 refine wpAny_bind (wpAny_sequenceKey ht.typeIs (by decide) ?_)
 refine wpAny_bind (wpAny_callSpecial?_slot (name:=Str.ofString "__getitem__") ht.typeIs PyProof.Rows.slot_tuple_getitem
  (wpAny_call_entry PyProof.Rows.slot_tuple_getitem ht.typeIs entry_tuple_getitem ?_ (args_tuple_getitem _ _)))
 show wpAny _ _ (Builtin.Tuple.tupleItemsOf (.ref t) >>= _) _ _ s
 refine wpAny_bind (tupleItemsOf_ ht ?_)
 refine wpAny_bind (wpAny_typeOf hTs ?_)
 rw[if_pos (by decide)]
 refine wpAny_bind (Kp hs pl pu ?_)
 have hno:¬ ((((sIx items.size 0 lo:Nat):Int)==0&&(1:Int)==1&&(sIx items.size items.size hi-sIx items.size 0 lo)==items.size)=true):=by
  intro q
  rw[Bool.and_eq_true,Bool.and_eq_true]at q
  have q1:((sIx items.size 0 lo:Nat):Int)=0:=eq_of_beq q.1.1
  have q2:sIx items.size items.size hi-sIx items.size 0 lo=items.size:=eq_of_beq q.2
  exact hw ⟨by omega,by omega⟩
 show wpAny _ _ (if (((sIx items.size 0 lo:Nat):Int)==0&&(1:Int)==1&&(sIx items.size items.size hi-sIx items.size 0 lo)==items.size)=true then _ else _) _ _ s
 rw[if_neg hno,FU_]
 first
  | exact wpAny_bind (m:=Builtin.Tuple.tupleExact _) (wpAny_newObj_type (wpAny_pure ⟨_,rfl,wpAny_pure h⟩) htake)
  | exact wpAny_bind (m:=Builtin.Tuple.tupleExact _) (wpAny_newObj_type (wpAny_bind (wpAny_pure (wpAny_pure ⟨_,rfl,wpAny_pure h⟩))) htake)
  | exact wpAny_bind (wpAny_bind (m:=Builtin.Tuple.tupleExact _) (wpAny_newObj_type (wpAny_pure (wpAny_pure ⟨_,rfl,wpAny_pure h⟩)) htake))
  | exact wpAny_bind (wpAny_bind (m:=Builtin.Tuple.tupleExact _) (wpAny_newObj_type (wpAny_pure ⟨_,rfl,wpAny_pure h⟩) htake))
end
end HT
namespace L2
open PySem PySem.Spec PyProof.Rows
abbrev TO:=St->Hp->(Option Int->Hp->Prop)->Prop
def PO (X:Cx)(e:Option Expr)(t:TO):Prop:=
 ∀(pins:List (Addr×Obj)) (s:Shared) (σ:St) (H:Hp) (Q:Option Int->Hp->Prop),Inv X pins σ H s->t σ H Q ->
  wpAny (model X.prog X.w) X.A (evalPart e X.env) (fun u s'=>∃o H',Inv X pins σ H' s'/\IsPart u o/\Q o H') X.xe s
def El_:TO:=fun _ H Q=>Q none H
def Jv_ (t:TE):TO:=fun σ H Q=>t σ H fun x H1=>∃i,x=.int i/\Q (some i) H1
section
variable {X:Cx} {e:Expr} {te:TE} {lo hi:Option Expr} {tl th:TO} {pos p2:Pos}
theorem SU:PO X none El_:=by
 intro pins s σ H Q I h
 rw[evalPart_none]
 exact wpAny_pure ⟨none,H,I,.none,h⟩
theorem SV (h:PE X e te):PO X (some e) (Jv_ te):=by
 intro pins s σ H Q I hw
 rw[evalPart_some]
 refine thn (h pins s σ H _ I hw) fun u s1 ⟨x,H1,I1,r1,q1⟩=>?_
 obtain⟨i,rfl,q⟩:=q1
 obtain⟨t,rfl⟩:=r1
 exact⟨some i,H1,I1,.int i t,q⟩
def SlR (X:Cx)(r:V->Option Int->Option Int->Hp->VK->Prop):Prop:=
 ∀(pins:List (Addr×Obj)) (s:Shared) (σ:St) (H:Hp) (x:V) (v vl vu:Value) (lo hi:Option Int) (sl:Addr) (Q:VK),Inv X pins σ H s->RelV x v->s.heap.IsSliceOf sl vl vu .none->IsPart vl lo->IsPart vu hi->r x lo hi H Q ->
  ∃T id,typeLookup (.type T) "__getitem__"=pure (some (.builtin id))/\s.TypeIs v T/\wpAny (model X.prog X.w) X.A (getItem v (.ref sl)) (EP X pins σ Q) X.xe s
def tSl (r:V->Option Int->Option Int->Hp->VK->Prop)(te:TE)(tl th:TO):TE:=fun σ H Q=>te σ H fun x H1=>tl σ H1 fun l H2=>th σ H2 fun u H3=>r x l u H3 Q
theorem OE  (hr:SlR X r)(he:PE X e te)(hl:PO X lo tl)(hu:PO X hi th):PE X (.Subscript e (.Slice lo hi none p2) pos) (tSl r te tl th):=by
 intro pins s σ H Q I h
 refine Subscript_ (thn (he pins s σ H _ I h) fun v s1 ⟨x,H1,I1,r1,q1⟩=>?_)
 refine wpAny_Slice (thn (hl pins s1 σ H1 _ I1 q1) fun vl s2 ⟨l,H2,I2,pl,q2⟩=>thn (hu pins s2 σ H2 _ I2 q2) fun vu s3 ⟨u,H3,I3,pu,q3⟩=>?_)
 rw[evalPart_none]
 refine wpAny_pure ?_
 have I4:Inv X pins σ H3 {s3 with heap:=s3.heap.push {cls:=.type "slice",data:=.fields #[vl,vu,.none]} }:=I3.kept (t':=s3.toks) fun b ob q=>Heap.get?_push_of_some _ q
 obtain⟨T,id,hT,ht,hg⟩:=hr pins {s3 with heap:=s3.heap.push {cls:=.type "slice",data:=.fields #[vl,vu,.none]} } σ H3 x v vl vu l u s3.heap.objs.size Q I4 r1 (Heap.IsSliceOf.new ..) pl pu q3
 show wpAny (model X.prog X.w) X.A (subscriptTail e (.Slice lo hi none p2) v (.ref s3.heap.objs.size)) (EP X pins σ Q) X.xe {s3 with heap:=s3.heap.push {cls:=.type "slice",data:=.fields #[vl,vu,.none]} }
 exact tail_any (ops:=[.ref s3.heap.objs.size,v]) ht hT hg (by with_unfolding_all rfl)
def cutV (xs:List V)(lo hi:Option Int):List V:=(xs.drop (HT.sIx xs.length 0 lo)).take (HT.sIx xs.length xs.length hi-HT.sIx xs.length 0 lo)
theorem AN_ (xs:List V)(lo hi:Option Int):(cutV xs lo hi).length<=xs.length:=by
 unfold cutV
 rw[List.length_take,List.length_drop]
 omega
def rSlT (K:PySem.W.Frag):V->Option Int->Option Int->Hp->VK->Prop:=fun x lo hi H Q=>∃a xs,x=.ref a/\SqT K H a xs /\
 ¬ (HT.sIx xs.length 0 lo=0/\HT.sIx xs.length xs.length hi=xs.length)/\∀p,H p=none->Q (.ref p) (upd H p (.tup (cutV xs lo hi)))
theorem Em_:SlR X (rSlT X.K):=by
 intro pins s σ H x v vl vu lo hi sl Q I rx hs pl pu h
 obtain⟨a,xs,rfl,hx,hw,q⟩:=h
 cases rx
 obtain⟨its,r,ht,hz⟩:=I.tuple hx
 have hlen:its.toArray.size=xs.length:=by rw[List.size_toArray];exact r.length.symm
 refine⟨"tuple",_,PyProof.Rows.slot_tuple_getitem.lookup,ht.typeIs,?_⟩
 refine HT.getItem_tuple_cut ht hs pl pu (by rw[hlen];exact hw) ?_ (by rw[hlen];exact hz)
 rw[hlen]
 refine⟨.ref s.heap.objs.size,_,I.laid (t':=s.toks) (o:=.tup (cutV xs lo hi)) (fun b ob q=>Heap.get?_push_of_some _ q) (Nat.le_refl _) ?_,rfl,q _ (I.hok.fresh (Nat.le_refl _))⟩
 exact⟨Nat.le_trans (AN_ xs lo hi) hz,_,(r.drop (HT.sIx xs.length 0 lo)).take (HT.sIx xs.length xs.length hi-HT.sIx xs.length 0 lo),IsTup.new _ _⟩
def KD_ (K:PySem.W.Frag):R2:=fun x y H Q=>∃a b xs ys,x=.ref a/\y=.ref b/\SqT K H a xs/\SqT K H b ys/\xs ≠ []/\xs.length+ys.length<=sizeLine /\
 (ys=[]->Q (.ref a) H)/\(ys ≠ []->∀p,H p=none->Q (.ref p) (upd H p (.tup (xs++ys))))
theorem Vals.nil_iff   (r:Vals xs us):us=[]↔xs=[]:=by
 cases r with
 |nil=>simp
 |cons _ _=>simp
theorem In_:OpR X (binaryOp .Add) (KD_ X.K):=by
 intro pins s σ H x y v u Q I rx ry h
 obtain⟨a,b,xs,ys,rfl,rfl,ha,hb,hx,hz,q1,q2⟩:=h
 cases rx
 cases ry
 obtain⟨its,r1,p1,_⟩:=I.tuple ha
 obtain⟨its2,r2,p2,_⟩:=I.tuple hb
 refine HT.cat_tup p1 p2 (fun z=>hx (r1.nil_iff.mp z)) (fun z=>⟨.ref a,H,I,rfl,q1 (r2.nil_iff.mp z)⟩) (fun z=>?_) (by rw[<-r1.length,<-r2.length];exact hz)
 refine⟨.ref s.heap.objs.size,_,I.laid (t':=s.toks) (o:=.tup (xs++ys)) (fun b ob q=>Heap.get?_push_of_some _ q) (Nat.le_refl _) ?_,rfl,q2 (fun w=>z (r2.nil_iff.mpr w)) _ (I.hok.fresh (Nat.le_refl _))⟩
 exact⟨by rw[List.length_append];exact hz,_,r1.append r2,IsTup.new _ _⟩
end
end L2
namespace L2
open PySem PySem.Spec PyProof.Rows
def ixN (n:Nat)(i:Int):Option Nat:=if 0<=i then (if i<n then some i.toNat else none) else if -(n:Int)<=i then some (i+n).toNat else none
def atI {α:Type}(xs:List α)(i:Int):Option α:=(ixN xs.length i).bind fun j=>xs[j]?
theorem Io_    (h:ixN n i=some j):seqIndex? i n=some j/\j<n /\ -(n:Int)<=i/\i<n:=by
 unfold ixN at h
 by_cases h0:0<=i
 ·rw[if_pos h0]at h
  by_cases h1:i<n
  ·rw[if_pos h1]at h
   have e:i.toNat=j:=Option.some.inj h
   exact⟨by rw[seqIndex_of h0 h1,e],by omega,by omega,h1⟩
  ·rw[if_neg h1]at h;cases h
 ·rw[if_neg h0]at h
  by_cases h1 : -(n:Int)<=i
  ·rw[if_pos h1]at h
   have e:(i+n).toNat=j:=Option.some.inj h
   exact⟨by rw[seqIndex_neg (by omega) h1,e],by omega,h1,by omega⟩
  ·rw[if_neg h1]at h;cases h
theorem En_     (h:atI xs i=some v):∃j,seqIndex? i xs.length=some j/\xs[j]?=some v/\j<xs.length /\ -(xs.length:Int)<=i/\i<xs.length:=by
 unfold atI at h
 cases e:ixN xs.length i with
 |none=>rw[e]at h;cases h
 |some j=>
  rw[e]at h
  obtain⟨h1,h2,h3,h4⟩:=Io_ e
  exact⟨j,h1,h,h2,h3,h4⟩
theorem P0 {α:Type}{xs:List α}{j:Nat}{v:α}(h:xs[j]?=some v):atI xs (j:Int)=some v:=by
 have hj:j<xs.length:=(List.getElem?_eq_some_iff.mp h).1
 have e:ixN xs.length (j:Int)=some j:=by
  unfold ixN
  rw[if_pos (by omega),if_pos (by omega)];simp
 unfold atI;rw[e];exact h
def Eo_ (b:Expr):Prop:=∀o i,subscripted b false o i=operate [o,i] (getItem o i)
def IxR (X:Cx)(r:R2):Prop:=
 ∀(value slice:Expr) (pins:List (Addr×Obj)) (s:Shared) (σ:St) (H:Hp) (x y:V) (v u:Value) (Q:VK),Inv X pins σ H s->RelV x v->RelV y u->r x y H Q ->
  subscripted slice false v u=operate [v,u] (getItem v u)->wpAny (model X.prog X.w) X.A (subscriptTail value slice v u) (EP X pins σ Q) X.xe s
def MtR (X:Cx)(id:String)(r:V->List V->Hp->VK->Prop):Prop:=
 ∀(pins:List (Addr×Obj)) (s:Shared) (σ:St) (H:Hp) (x:V) (xs:List V) (v:Value) (us:List Value) (Q:VK),Inv X pins σ H s->RelV x v->Vals xs us->r x xs H Q ->
  wpAny (model X.prog X.w) X.A (call (.builtin id) (v::us)) (EP X pins σ Q) X.xe s
section
variable {X:Cx} {a b:Expr} {ta tb:TE} {pos:Pos}
theorem KE_  (hr:IxR X r)(ha:PE X a ta)(hb:PE X b tb)(hs:Eo_ b):PE X (.Subscript a b pos) (tOp r ta tb):=by
 intro pins s σ H Q I h
 exact Subscript_ (binT ha hb I h fun v u s2 x y H2 I2 rx ry q=>hr a b pins s2 σ H2 x y v u Q I2 rx ry q (hs _ _))
def rIxL (K:PySem.W.Frag):R2:=fun x y H Q=>∃p xs i v,x=.ref p/\y=.int i/\SqL K H p xs/\atI xs i=some v/\Q v H
def rIxT (K:PySem.W.Frag):R2:=fun x y H Q=>∃p xs i v,x=.ref p/\y=.int i/\SqT K H p xs/\atI xs i=some v/\Q v H
theorem Jk:IxR X (rIxL X.K):=by
 intro value slice pins s σ H x y v u Q I rx ry h hs
 obtain⟨p,xs,i,z,rfl,rfl,hq,he,q⟩:=h
 cases rx
 obtain⟨t,rfl⟩:=ry
 obtain⟨its,r,pl,hz⟩:=I.list hq
 obtain⟨j,h1,h2,h3,h4,h5⟩:=En_ he
 obtain⟨w,ew,rw'⟩:=r.get h2
 have hl:=r.length
 have hn:=Ee_
 have fin:EP X pins σ Q w s:=⟨z,H,I,rw',q⟩
 by_cases h0:0<=i
 ·have hj:i.toNat=j:=by
   rw[seqIndex_of h0 h5]at h1
   exact Option.some.inj h1
  exact item_listR pl.isList h0 (by omega) (by rw[hj];simpa using ew) fin hs
 ·have hj:(i+(its.toArray.size:Int)).toNat=j:=by
   rw[seqIndex_neg (by omega) h4]at h1
   rw[List.size_toArray,<-hl]
   exact Option.some.inj h1
  exact subscriptTail_builtinR (x:=w) pl.isList.typeIs slot_list_getitem.lookup
   (wpAny_getItem_list_neg (Q:=fun r s'=>r=w/\EP X pins σ Q r s') pl.isList (by omega) (by rw[List.size_toArray]<;>omega) (by omega) (by rw[hj];simpa using ew) ⟨rfl,fin⟩) hs
theorem CY:IxR X (rIxT X.K):=by
 intro value slice pins s σ H x y v u Q I rx ry h hs
 obtain⟨p,xs,i,z,rfl,rfl,hq,he,q⟩:=h
 cases rx
 obtain⟨t,rfl⟩:=ry
 obtain⟨its,r,pl,hz⟩:=I.tuple hq
 obtain⟨j,h1,h2,h3,h4,h5⟩:=En_ he
 obtain⟨w,ew,rw'⟩:=r.get h2
 have hl:=r.length
 have hn:=Ee_
 have fin:EP X pins σ Q w s:=⟨z,H,I,rw',q⟩
 exact subscriptTail_builtinR (x:=w) pl.typeIs slot_tuple_getitem.lookup
  (getItem_tuple (j:=j) (Q:=fun r s'=>r=w/\EP X pins σ Q r s') pl (by omega) (by omega) (by rw[List.size_toArray,<-hl];exact h1) (by simpa using ew) ⟨rfl,fin⟩) hs
def Ww:V->Bool
 |.non=>true
 |.bl _=>true
 |.int _=>true
 |.str _=>true
 |_=>false
def eqV:V->V->Bool
 |.non,.non=>true
 |.bl a,.bl b=>a==b
 |.bl a,.int b=>(if a then 1 else 0)==b
 |.int a,.bl b=>a==(if b then 1 else 0)
 |.int a,.int b=>a==b
 |.str a,.str b=>a==b
 |_,_=>false
theorem GX_     (ry:RelV y u)(rx:RelV x v)(fy:Ww y=true)(fx:Ww x=true):SeqAt.EqAt A s u v (eqV y x):=by
 cases y with
 |non=>
  cases ry
  cases x with
  |non=>cases rx;exact SeqAt.EqAt.same _
  |bl b=>cases rx;exact SeqAt.EqAt.none_bool b
  |int b=>obtain⟨t,rfl⟩:=rx;exact SeqAt.EqAt.none_int b t
  |str b=>obtain⟨t,rfl⟩:=rx;exact SeqAt.EqAt.none_str b t
  |_=>exact absurd (show false=true from fx) Bool.false_ne_true
 |bl a=>
  cases ry
  cases x with
  |non=>cases rx;exact SeqAt.EqAt.bool_none a
  |bl b=>cases rx;exact SeqAt.EqAt.bool_bool a b
  |int b=>obtain⟨t,rfl⟩:=rx;exact SeqAt.EqAt.bool_int a b t
  |str b=>obtain⟨t,rfl⟩:=rx;exact SeqAt.EqAt.bool_str a b t
  |_=>exact absurd (show false=true from fx) Bool.false_ne_true
 |int a=>
  obtain⟨t',rfl⟩:=ry
  cases x with
  |non=>cases rx;exact SeqAt.EqAt.int_none a t'
  |bl b=>cases rx;exact SeqAt.EqAt.int_bool a t' b
  |int b=>obtain⟨t,rfl⟩:=rx;exact SeqAt.EqAt.int_int a t' b t
  |str b=>obtain⟨t,rfl⟩:=rx;exact SeqAt.EqAt.int_str a t' b t
  |_=>exact absurd (show false=true from fx) Bool.false_ne_true
 |str a=>
  obtain⟨t',rfl⟩:=ry
  cases x with
  |non=>cases rx;exact SeqAt.EqAt.str_none a t'
  |bl b=>cases rx;exact SeqAt.EqAt.str_bool a t' b
  |int b=>obtain⟨t,rfl⟩:=rx;exact SeqAt.EqAt.str_int a t' b t
  |str b=>obtain⟨t,rfl⟩:=rx;exact SeqAt.EqAt.str_str a t' b t
  |_=>exact absurd (show false=true from fx) Bool.false_ne_true
 |_=>exact absurd (show false=true from fy) Bool.false_ne_true
theorem Dk:NT X (.builtin "len") (fun xs H Q=>∃p ys,xs=[.ref p]/\(SqL X.K H p ys\/SqT X.K H p ys)/\Q (.int ys.length) H):=by
 intro pins s σ H xs us Q I r h
 obtain⟨p,ys,rfl,hq,q⟩:=h
 obtain⟨u,rfl,rx⟩:=vals1 r
 cases rx
 have hn:=Ee_
 rcases hq with hq|hq
 ·obtain⟨its,r',pl,hz⟩:=I.list hq
  have hlen:=r'.length
  exact Calls.call_len_list pl.isList (by simp only[List.size_toArray]<;>omega) ⟨.int ys.length,H,I.tok _,⟨s.toks+1,by rw[List.size_toArray,hlen]⟩,q⟩
 ·obtain⟨its,r',pl,hz⟩:=I.tuple hq
  have hlen:=r'.length
  exact len_tuple pl (by simp only[List.size_toArray]<;>omega) ⟨.int ys.length,H,I.tok _,⟨s.toks+1,by rw[List.size_toArray,hlen]⟩,q⟩
theorem Rr:NT X (.type "list") (fun xs H Q=>∃p ys,xs=[.ref p]/\(SqL X.K H p ys\/SqT X.K H p ys)/\∀l,H l=none->Q (.ref l) (upd H l (.lst ys))):=by
 intro pins s σ H xs us Q I r h
 obtain⟨p,ys,rfl,hq,q⟩:=h
 obtain⟨u,rfl,rx⟩:=vals1 r
 cases rx
 have fin:∀(its:List Value),Vals ys its->ys.length<=sizeLine->∀(h':Heap) (c':Nat),(∀b o',s.heap.get? b=some o'->h'.get? b=some o') ->
   h'.get? s.heap.objs.size=some {cls:=.type "list",dict:=none,data:=.seq its.toArray c',slots := #[]}->EP X pins σ Q (.ref s.heap.objs.size) {s with heap:=h' }:=fun its r' hz h' c' kp e=>
  ⟨.ref s.heap.objs.size,_,I.laid (t':=s.toks) kp (Nat.le_refl _) (show C4 X.prog X.w _ h' _ (.lst ys) from ⟨hz,its,c',r',e⟩),rfl,q _ (I.hok.fresh (Nat.le_refl _))⟩
 rcases hq with hq|hq
 ·obtain⟨its,r',pl,hz⟩:=I.list hq
  have hlen:=r'.length
  obtain⟨o,ho,hc,n,hd⟩:=pl.isList
  exact call_list_seq p (.inl rfl) ho hc hd (fun h' c' kp e=>fin its r' hz h' c' kp e) (by simp only[List.size_toArray]<;>omega)
 ·obtain⟨its,r',pl,hz⟩:=I.tuple hq
  have hlen:=r'.length
  obtain⟨o,ho,hc,n,hd⟩:=pl
  exact call_list_seq p (.inr rfl) ho hc hd (fun h' c' kp e=>fin its r' hz h' c' kp e) (by simp only[List.size_toArray]<;>omega)
theorem Wx:NT X (.type "tuple") (fun xs H Q=>∃p ys,xs=[.ref p]/\((SqL X.K H p ys/\∀l,H l=none->Q (.ref l) (upd H l (.tup ys)))\/(SqT X.K H p ys/\Q (.ref p) H))):=by
 intro pins s σ H xs us Q I r h
 obtain⟨p,ys,rfl,h⟩:=h
 obtain⟨u,rfl,rx⟩:=vals1 r
 cases rx
 rcases h with ⟨hq,q⟩|⟨hq,q⟩
 ·obtain⟨its,r',pl,hz⟩:=I.list hq
  have hlen:=r'.length
  refine call_tuple_list pl.isList (fun h' kp=>?_) (by simp only[List.size_toArray]<;>omega)
  have I1:Inv X pins σ H {s with heap:=h' }:=I.kept (t':=s.toks) kp
  have I2:Inv X pins σ (upd H h'.objs.size (.tup ys)) {s with heap:=h'.push {cls:=.type "tuple",data:=.seq its.toArray} }:=
   I1.laid (t':=s.toks) (fun b o e=>Heap.get?_push_of_some _ e) (Nat.le_refl _) (show C4 X.prog X.w _ _ _ (.tup ys) from ⟨hz,its,r',IsTup.new _ _⟩)
  exact⟨.ref h'.objs.size,_,I2,rfl,q _ (I1.hok.fresh (Nat.le_refl _))⟩
 ·obtain⟨its,r',pl,hz⟩:=I.tuple hq
  exact call_tuple_same pl ⟨.ref p,H,I,rfl,q⟩
def tyV (K:PySem.W.Frag)(T:String)(x:V)(H:Hp):Prop:=match x with
 |.str _=>T = "str"
 |.int _=>T = "int"
 |.ref p=>(T = "list" /\ ∃xs,SqL K H p xs)\/(T = "tuple" /\ ∃o,K.lookup p=some o/\o.cls=.type "tuple" /\ o.dict=none) \/
   (T = "dict" /\ ((∃kvs,H p=some (.dK kvs)) \/ ∃kvs,H p=some (.dT kvs)))\/(T = "set" /\ ∃S n,H p=some (.set S n))
 |_=>False
theorem Jw_        (I:Inv X pins σ H s)(r:RelV x v)(ty:tyV X.K T x H):
  s.TypeIs v T/\∀a,v=.ref a->∃ob,s.heap.get? a=some ob/\ob.dict=none:=by
 cases x with
 |str z=>
  obtain⟨t,rfl⟩:=r
  cases (show T = "str" from ty)
  exact⟨typeIs_str s z t,fun _ e=>nomatch e⟩
 |int i=>
  obtain⟨t,rfl⟩:=r
  cases (show T = "int" from ty)
  exact⟨typeIs_int s i t,fun _ e=>nomatch e⟩
 |ref p=>
  cases r
  rcases ty with ⟨rfl,xs,hq⟩|⟨rfl,o,hk,hc,hd⟩|⟨rfl,hk⟩|⟨rfl,S,n,hk⟩
  ·obtain⟨its,_,pl,_⟩:=I.list hq
   refine⟨pl.isList.typeIs,fun a e=>?_⟩
   cases e
   obtain⟨o,n,e,c,hd,_⟩:=pl
   exact⟨o,e,hd⟩
  ·refine⟨⟨o,I.kIn p o hk,hc⟩,fun a e=>?_⟩
   cases e
   exact⟨o,I.kIn _ o hk,hd⟩
  ·have z:∃o,s.heap.get? p=some o/\o.ExactDict:=by
    rcases hk with ⟨kvs,hk⟩|⟨kvs,hk⟩
    ·obtain⟨_,_,_,_,o,_,_,e,ex,_⟩:=I.hok p _ hk
     exact⟨o,e,ex⟩
    ·obtain⟨_,_,_,_,o,_,_,e,ex,_⟩:=I.hok p _ hk
     exact⟨o,e,ex⟩
   obtain⟨o,e,ex⟩:=z
   refine⟨⟨o,e,ex.1⟩,fun a e2=>?_⟩
   cases e2
   exact⟨o,e,ex.2.1⟩
  ·obtain⟨o,_,_,_,e,ex,_⟩:=I.hok p _ hk
   refine⟨⟨o,e,ex.1⟩,fun a e2=>?_⟩
   cases e2
   exact⟨o,e,ex.2.1⟩
 |_=>exact False.elim ty
def tBM (K:PySem.W.Frag)(T:String)(r:V->List V->Hp->VK->Prop)(to:TE)(t:TA):TE:=fun σ H Q=>to σ H fun x H1=>tyV K T x H1/\t σ H1 fun xs H2=>r x xs H2 Q
variable {o e:Expr} {es:List Expr} {to:TE} {t:TA} {name:Str} {apos cpos:Pos} {T id:String} {r:V->List V->Hp->VK->Prop}
theorem Da_ (pa:PlainAttrs T)(slot:Slot T name id)(hty:typeOf (.builtin id)=pure (.type "method_descriptor"))(hm:MtR X id r)(ho:PE X o to)(ha:PA X (e::es) t)
  (hbase:attributeBase o name X.env (eval o X.env)=eval o X.env:=by rfl)
  (hfew:((backTo cpos (starEach (e::es) X.env)).all (fun x => !x.1)&&(backToKw cpos (keywordEach [] X.env)).all (fun x=>x.1.isSome)
   && decide ((e::es).length+([]:List Keyword).length+(if ([]:List Keyword).isEmpty then 0 else 1)<30))=true:=by rfl)
  (hline:(apos.endLine==cpos.line)=true:=by rfl) (hs:starEach (e::es) X.env=(false,eval e X.env)::starEach es X.env:=by rfl) (hplain:(backTo cpos (starEach es X.env)).any (·.1)=false:=by rfl):
  PE X (.Call (.Attribute o name apos) (e::es) [] cpos) (tBM X.K T r to t):=by
 intro pins s σ H Q I h
 refine wpAny_Call_method_late hbase hfew hline rfl (thn (ho pins s σ H _ I h) fun v s1 ⟨x,H1,I1,r1,ty,q1⟩=>?_)
 obtain⟨h1,h2⟩:=Jw_ I1 r1 ty
 refine⟨T,id,pa,slot,hty,h1,h2,?_⟩
 have hA:=ha cpos pins s1 σ H1 _ I1 q1
 rw[hs]at hA ⊢
 refine Calls.callWith_builtin (by show (false||(backTo cpos (starEach es X.env)).any (·.1))=false;rw[hplain]<;>rfl) (Calls.evalArgs_plain ?_)
 exact thn hA fun us s2 ⟨vs,H2,I2,r2,q2⟩=>hm pins s2 σ H2 x vs v us Q I2 r1 r2 q2
/- xs.append(e),list.index on a module's tuple .. are MtR facts of 06m -/
end
end L2
namespace L2
open PySem PySem.Spec PyProof.Rows
def MtM (X:Cx)(id:String)(r:V->List V->Hp->VK->Prop):Prop:=
 ∀(pins:List (Addr×Obj)) (s:Shared) (σ:St) (H:Hp) (x:V) (xs:List V) (v:Value) (us:List Value) (Q:VK),Inv X pins σ H s->RelV x v->Vals xs us->r x xs H Q ->
  wpAny (model X.prog X.w) X.A (call (.builtin id) (v::us)) (EP X pins σ Q) X.xe s
theorem Vals.one:∀{x:V} {us:List Value},Vals [x] us->∃u,us=[u]/\RelV x u
 |_,_,.cons r .nil=>⟨_,rfl,r⟩
theorem Vals.eraseIdx:∀{xs:List V} {us:List Value} (i:Nat),Vals xs us->Vals (xs.eraseIdx i) (us.eraseIdx i)
 |_,_,_,.nil=>.nil
 |_,_,0,.cons _ t=>t
 |_,_,i+1,.cons r t=>.cons r (Vals.eraseIdx i t)
theorem YQ {α:Type}:∀(l:List α) (i:Nat),(l.eraseIdx i).length<=l.length
 |[],_=>Nat.le_refl _
 |_::_,0=>Nat.le_succ _
 |_::r,i+1=>Nat.succ_le_succ (YQ r i)
section
variable {X:Cx} {pins:List (Addr×Obj)} {σ:St} {H:Hp} {s:Shared} {l b:Addr} {xs ys zs:List V}
theorem Inv.lset {its its':List Value}{n:Nat}{f:Array Value->Array Value}{t':Nat}(I:Inv X pins σ H s)(hH:H l=some (.lst xs))
  (e:s.heap.get? l=some {cls:=.type "list",data:=.seq its.toArray n}) (hf:f its.toArray=its'.toArray) (hv:Vals ys its') (hz:ys.length<=sizeLine):
  Inv X pins σ (upd H l (.lst ys)) {s with heap:=s.heap.update l (Obj.mapSeq f),toks:=t' }:=by
 have q:=PySem.IsL.update e f
 rw[hf]at q
 refine I.write (x:=l) (e:=l) (by rw[hH];exact trivial) (.inl rfl) (fun b' u hb hu=>(Heap.get?_update_other s.heap (Obj.mapSeq f) (Ne.symm hb)).trans hu) ⟨_,q⟩ ?_
 exact⟨hz,its',_,hv,q⟩
theorem Inv.lstM (I:Inv X pins σ H s)(hH:H l=some (.lst xs)):xs.length<=sizeLine/\∃(its:List Value) (n:Nat),Vals xs its/\xs.length=its.length/\s.heap.get? l=some {cls:=.type "list",data:=.seq its.toArray n}:=by
 obtain⟨z,its,n,r,e⟩:=I.hok l _ hH
 exact⟨z,its,n,r,r.length,e⟩
end
section
variable {X:Cx}
def Ep_:V->List V->Hp->VK->Prop:=fun x vs H Q=>∃l xs y,x=.ref l/\vs=[y]/\H l=some (.lst xs)/\xs.length<sizeLine/\Q .non (upd H l (.lst (xs++[y])))
theorem Ll:MtM X "list.append" Ep_:=by
 intro pins s σ H x vs v us Q I rx rv h
 obtain⟨l,xs,y,rfl,rfl,hH,hz,q⟩:=h
 cases rx
 obtain⟨u,rfl,ru⟩:=rv.one
 obtain⟨z,its,n,r,hl,e⟩:=I.lstM hH
 refine call_meets F.slot_list_append ⟨_,e,rfl⟩ F.entry_list_append (F.args_list_append_2 _ _) (PySem.list_append l its.toArray n u (by rw[List.size_toArray];omega)) ⟨e,?_⟩
 refine⟨.non,_,I.lset (its':=its++[u]) hH e (by simp) (r.append (.cons ru .nil)) ?_,rfl,q⟩
 rw[List.length_append,List.length_singleton]
 omega
def GY_:V->List V->Hp->VK->Prop:=fun x vs H Q=>∃l xs i k y,x=.ref l/\vs=[.int i]/\H l=some (.lst xs) /\ -(2 ^ 63)<=i/\i<2 ^ 63/\seqIndex? i xs.length=some k/\xs[k]?=some y/\Q y (upd H l (.lst (xs.eraseIdx k)))
theorem FV_:MtM X "list.pop" GY_:=by
 intro pins s σ H x vs v us Q I rx rv h
 obtain⟨l,xs,i,k,y,rfl,rfl,hH,h1,h2,hk,hy,q⟩:=h
 cases rx
 obtain⟨u,rfl,ru⟩:=rv.one
 obtain⟨t,rfl⟩:=ru
 obtain⟨z,its,n,r,hl,e⟩:=I.lstM hH
 obtain⟨w,hw,rw'⟩:=r.get hy
 refine call_meets F.slot_list_pop ⟨_,e,rfl⟩ F.entry_list_pop (F.args_list_pop_2 _ _)
  (MeetsSeq.list_pop_at l its.toArray n i t k w (fitsIndex_both h1 h2) (by rw[List.size_toArray,<-hl];exact hk) (by rw[<-Array.getElem?_toList];exact hw) (by rw[List.size_toArray];omega)) ⟨e,?_⟩
 refine⟨y,_,I.lset (its':=its.eraseIdx k) hH e ?_ (r.eraseIdx k) ?_,rw',q⟩
 ·show its.toArray.eraseIdxIfInBounds k=(its.eraseIdx k).toArray
  rw[List.eraseIdxIfInBounds_toArray]
 ·have:=YQ xs k
  omega
end
end L2
namespace Att
open PySem PySem.W PySem.Calls PyProof.Rows
theorem SW   : ∀(ns:List Int) (vs:List Value),WellAll P h vs (ns.map WData.int)->IntsAre vs ns:=by
 intro ns
 induction ns with
 |nil=>
  intro vs w
  rw[List.map_nil]at w
  cases w
  exact .nil
 |cons n ns ih=>
  intro vs w
  rw[List.map_cons]at w
  cases w with
  |cons a b=>
   cases a
   exact .cons _ _ (ih _ b)
theorem Eq_ {l:OpenLaw}{n:Nat}(hn:l.most=some n){P:Params}{h:Heap}{args:List WData}{vals:List Value}
  (hpre:l.row.toRowW.claim.pre args=true) (hwl:WellAll P h vals args):
  ∃a vs ns,vals=[Value.ref a]/\args=[WData.list (ns.map WData.int)]/\h.get? a=some {cls:=.type "list",data:=.seq vs.toArray}/\IntsAre vs ns/\ns.length<=n:=by
 have hsh:WShape.hasAll [] args [.list .int]=true:=(pre_splitW hpre).1
 have hc:l.pre.holds [] {args:=args}=true:=(pre_splitW hpre).2
 obtain⟨d,r,rfl,h1,h2⟩:=hasAllW_cons hsh
 obtain rfl:=hasAllW_nil h2
 obtain⟨xs,rfl,h3⟩:=hasW_list h1
 obtain⟨ns,rfl⟩:=items_int h3
 have hlen:ns.length<=n:=by
  unfold OpenLaw.pre at hc
  have h4:(WTm.not (.lt (.lit (.int (n:Int))) (.len (.arg 0)))).holds [] {args:=[.list (ns.map .int)]}=true:=by
   have h4:=(holds_andW hc).1
   rw[hn]at h4
   exact h4
  have h5:=condW_of h4 (w_not (w_lt w_lit (w_len_list (w_arg rfl))))
  rw[List.length_map]at h5
  refine Nat.le_of_not_lt fun q=>?_
  have q':(n:Int)<((ns.length:Nat):Int):=by omega
  first
   | (rw[decide_eq_true q']at h5;exact absurd h5 (by decide))
   | (simp at h5;omega)
 cases hwl with
 |cons w1 w2=>
  cases w2
  cases w1 with
  |list ho hall=>exact⟨_,_,ns,rfl,rfl,ho,SW ns _ hall,hlen⟩
theorem Er_ (l:OpenLaw)(args:List WData):l.row.toRowW.claim.post args (.bool true) args=true:=
 postW_of (r:=l.row.toRowW) (X:=(true==true))
  (show WShape.has [] (.bool true) .bool=true by first|rfl|decide|simp[WShape.has,WShape.arms,WShape.armsAll])
  (show (WTm.eq .res (.lit (.bool true))).value [] {args:=args,res:=some (.bool true),after:=args}=some (.bool (true==true)) from w_eq_bool (w_res rfl) w_lit) rfl
theorem attach_call {l:OpenLaw}{n:Nat}{q:Program}{loose:List Str}{XP:(Str->Option Value)->Heap->Prop}{YP:World->Heap->Prop}{d:DefRec}
  (hn:l.most=some n) (hdf:d.params.defaults=[])
  (call:∀(w:World) (s₀ s₁:Shared) (mg mb:Str->Option Value) (fa:Addr) (o:Obj) (pm cd doc:Value) (a:Addr) (vs:List Value) (ns:List Int),
   Ground q loose [] XP w s₀ mg mb s₁.heap->YP w s₁.heap ->
   s₁.heap.get? fa=some o->o.data=.func (docDef d.name d.params d.body d.scope pm cd doc)->s₁.heap.CodeRec cd d.name->mg d.name=some (.ref fa) ->
   s₁.heap.get? a=some {cls:=.type "list",data:=.seq vs.toArray}->IntsAre vs ns->ns.length<=n->s₁.gens = #[] ->
   codeAny (model l.prog w) callerA (.call (.ref fa) ⟨[.ref a],[]⟩) (fun r s'=>r=.ok (.ret (.bool true))/\OldK s₁.heap s'.heap/\s'.os=s₁.os/\AllBare s'.gens) s₁):
  WalkO q loose XP YP l.row.toRowW d [] (fun f vs=>PySem.call f vs):=by
 intro w s₀ s₁ mg mb G Y fa o pm cd doc dV kV ho hd hcd hD hmg hg args vals as hpre hlay hrd hwl hlo
 obtain rfl:dV=.none:=Dflts.none hD hdf
 obtain rfl:kV=.none:=Dflts.noKw hD
 obtain⟨a,vs,ns,rfl,rfl,hobj,hints,hlen⟩:=Eq_ hn hpre hwl
 refine enter_call (codeAny_mono (call w s₀ s₁ mg mb fa o pm cd doc a vs ns G Y ho (fd_plain hd) hcd hmg hobj hints hlen hg) fun r s' hq=>?_)
 obtain⟨rfl,h2,h3,h4⟩:=hq
 exact⟨.inl ⟨.bool true,.bool true,[],rfl,fun _=>rfl,.bool true,Er_ l _,fun _=>⟨List.Pairwise.nil,fun _ hm=>(nomatch hm)⟩⟩,h2,h3,h4⟩
end Att
namespace L2
open PySem PySem.Spec PyProof.Rows
theorem YR:∀{vs:List Value} {ns:List Int},IntsAre vs ns->Vals (ns.map V.int) vs
 |_,_,.nil=>.nil
 |_,_,.cons n t h=>.cons ⟨t,rfl⟩ (YR h)
def Only (H:Hp):Prop:=∀b,H b=none \/ ∃o xs,H b=some (.frz o (.lst xs))
theorem FW_   {K:PySem.W.Frag}
  (KX:K.In s₁.heap) (hns:s₁.heap.Ns mainGlobals mg) (hb:s₁.heap.Ns builtinsNs mb) (hbb:∀x:Str,x ≠ "__name__" -> mb x=bootBuiltins x) (hlim:s₁.heap.NoLimit) (hg:s₁.gens = #[])
  (ha:s₁.heap.get? a=some {cls:=.type "list",data:=.seq vs.toArray}) (hi:IntsAre vs ns) (hl:ns.length<=sizeLine) (hr:Room k callerA)
  (F:∀base:Heap,K.In base->base.Ns mainGlobals mg->FnOk P w K mg base CX k fa fd [x] sp) (hbind:∀(s:Shared) (u:Value),BindsTo s fd ⟨[u],[]⟩ [(x,u)])
  (hsp:∀H:Hp,Only H->SqL K H a (ns.map V.int)->sp [.ref a] H (fun v _=>v=.bl true) fun _ _ _=>False)
  (hCX:∀H e s',CX [] H s₁ (fun _ _ _=>False) e s'->False):
  codeAny (model P w) callerA (.call (.ref fa) ⟨[.ref a],[]⟩) (fun r s'=>r=.ok (.ret (.bool true))/\OldK s₁.heap s'.heap/\s'.os=s₁.os/\AllBare s'.gens) s₁:=by
 have rv:=YR hi
 have lenV:=hi.length
 -- from an abstract heap in which nothing but the script may be tracked
 have core:∀H:Hp,Only H->SqL K H a (ns.map V.int)->HOk P w H s₁.heap->(∀b,H b≠none->b=a)->(H a≠none->K.lookup a=none) ->
   codeAny (model P w) callerA (.call (.ref fa) ⟨[.ref a],[]⟩) (fun r s'=>r=.ok (.ret (.bool true))/\OldK s₁.heap s'.heap/\s'.os=s₁.os/\AllBare s'.gens) s₁:=by
  intro H hO hS hok hA hK
  have base_of:∀{b:Addr} {o:Obj},s₁.heap.get? b=some o->H b=none->(hidT s₁.heap H).get? b=some o:=fun e n=>FN_ e n
  have noA:∀{b:Addr} {o:Obj} {es:Array DictEntry} {ep:Nat},s₁.heap.get? b=some o->o.data=.dict es ep->H b=none:=fun {b o es ep} e d=>by
   cases q:H b with
   |none=>rfl
   |some u=>
    have e':b=a:=hA b (by rw[q];simp)
    subst e'
    rw[ha]at e;cases e
    have d':Data.seq vs.toArray _=Data.dict es ep:=d
    cases d'
  have nsK:∀{b:Addr} {m:Str->Option Value},s₁.heap.Ns b m->(hidT s₁.heap H).Ns b m:=fun {b m} ⟨o,es,ep,e,d,r⟩=>⟨o,es,ep,base_of e (noA e d),d,r⟩
  have hKb:K.In (hidT s₁.heap H):=fun b o e=>base_of (KX b o e) (by
   cases q:H b with
   |none=>rfl
   |some u=>
    have e':b=a:=hA b (by rw[q];simp)
    subst e'
    rw[hK (by rw[q];simp)]at e;cases e)
  have hM:Mod K mg (hidT s₁.heap H):=⟨hKb,nsK hns,⟨mb,nsK hb,hbb⟩,let ⟨mc,h1,h2⟩:=hlim;⟨mc,nsK h1,h2⟩⟩
  have e0:Env0 P w K mg (hidT s₁.heap H) callerA [] s₁ H:=⟨rfl,hM,fun b o e=>HZ_ e,Nat.le_of_eq (DR_ _ _),trivial,fun b hb=>absurd (show b∈([]:List Addr) from hb) (by simp),hok,.of_eq hg⟩
  refine codeAny_mono ((F _ hKb (nsK hns)).run callerA [] s₁ H ⟨[.ref a],[]⟩ [.ref a] [.ref a] _ _ hr e0 (hbind s₁ (.ref a)) (.cons rfl .nil) (hsp H hO hS)) fun r s' h=>?_
  cases r with
  |error e=>exact (hCX H e s' h).elim
  |ok fl=>
   cases fl with
   |next=>exact False.elim h
   |brk=>exact False.elim h
   |cont=>exact False.elim h
   |ret u=>
    obtain⟨v,H',os,bare,un,hok',r',q⟩:=h
    have q':v=.bl true:=q
    subst q'
    obtain rfl:u=Value.bool true:=r'
    refine⟨rfl,OldK.of_keep fun b o e=>?_,os,bare⟩
    cases q:H b with
    |none=>exact un.keep b o e q (by intro z;exact absurd (show b∈([]:List Addr) from z) (by simp)) (by simp)
    |some u=>
     rcases hO b with z|⟨ob,xs,z⟩
     ·rw[q]at z;cases z
     ·have z2:=un.frzs b ob _ z
      obtain⟨e1,_⟩:=hok b _ z
      obtain⟨e2,_⟩:=hok' b _ z2
      rw[e]at e1;cases e1
      exact e2
 cases hk:K.lookup a with
 |some o=>
  -- the script is one of the module's own objects
  have e:=KX a o hk
  rw[ha]at e
  cases e
  refine core (fun _=>none) (fun _=>.inl rfl) (.inr ⟨_,vs.toArray,_,hk,rfl,rfl,rfl,by rw[List.size_toArray,lenV];exact hl,by simpa using rv⟩) (fun b u z=>by have z':(none:Option HO)=some u:=z;cases z') (fun b z=>absurd rfl z) fun z=>absurd rfl z
 |none=>
  refine core (fun b=>if b=a then some (.frz {cls:=.type "list",data:=.seq vs.toArray} (.lst (ns.map V.int))) else none) (fun b=>?_) (.inl (.inr ⟨{cls:=.type "list",data:=.seq vs.toArray},if_pos rfl⟩)) (fun b u z=>?_) (fun b z=>?_) fun _=>hk
  ·by_cases hb:b=a
   ·exact .inr ⟨_,_,if_pos hb⟩
   ·exact .inl (if_neg hb)
  ·by_cases hb:b=a
   ·have z':=(if_pos hb).symm.trans z
    cases z'
    subst hb
    exact⟨ha,by rw[List.length_map];exact hl,vs,_,rv,ha⟩
   ·have z':=(if_neg hb).symm.trans z
    cases z'
  ·by_cases hb:b=a
   ·exact hb
   ·exact absurd (if_neg hb) z
theorem walk_of {l:PySem.W.OpenLaw}{n k:Nat}{q:Program}{loose:List Str}{XP:(Str->Option Value)->Heap->Prop}{YP:World->Heap->Prop}{d:DefRec}{K:Params->PySem.W.Frag}{CX:World->CXT}{sp:World->Sp}{x:Str}
  (hn:l.most=some n) (hn2:n<=sizeLine) (hdf:d.params.defaults=[]) (hr:Room k callerA)
  (hY:∀(w:World) (h:Heap),YP w h->(K w.params).In h)
  (F:∀(w:World) (mg:Str->Option Value) (fa:Addr) (h:Heap),(K w.params).In h->h.Ns mainGlobals mg->mg d.name=some (.ref fa) ->
   ∃fd:FuncData,(∀(s:Shared) (u:Value),BindsTo s fd ⟨[u],[]⟩ [(x,u)]) /\
    ∀base:Heap,(K w.params).In base->base.Ns mainGlobals mg->FnOk l.prog w (K w.params) mg base (CX w) k fa fd [x] (sp w))
  (hsp:∀(w:World) (H:Hp) (a:Addr) (ns:List Int),ns.length<=n->Only H->SqL (K w.params) H a (ns.map V.int)->sp w [.ref a] H (fun v _=>v=.bl true) fun _ _ _=>False)
  (hCX:∀(w:World) (H:Hp) (s:Shared) (e:Value) (s':Shared),CX w [] H s (fun _ _ _=>False) e s'->False):
  PySem.W.WalkO q loose XP YP l.row.toRowW d [] (fun f vs=>PySem.call f vs):=by
 refine Att.attach_call hn hdf fun w s₀ s₁ mg mb fa o pm cd doc a vs ns G Y ho hd hcd hmg hobj hints hlen hg=>?_
 have KX:=hY w _ Y
 obtain⟨fd,hb,hF⟩:=F w mg fa _ KX G.T.g hmg
 exact FW_ KX G.T.g G.T.b G.T.builtins G.T.nolimit hg hobj hints (Nat.le_trans hlen hn2) hr hF hb (fun H hO hS=>hsp w H a ns hlen hO hS) fun H e s'=>hCX w H s₁ e s'
def Br (s:Stmt)(j:Nat):Stmt:=match s with
 |.ClassDef _ _ _ body _ _ _ _ _ _ _=>body.getD j (.Pass ⟨0,0,0,0⟩)
 |_=>.Pass ⟨0,0,0,0⟩
def Al (s:Stmt):Arguments:=match s with
 |.FunctionDef _ a _ _ _ _ _ _ _ _=>a
 |_=>{posonlyargs:=[],args:=[],vararg:=none,kwonlyargs:=[],kw_defaults:=[],kwarg:=none,defaults:=[]}
def Ak (s:Stmt):List Stmt:=match s with
 |.FunctionDef _ _ b _ _ _ _ _ _ _=>b
 |_=>[]
def Ab (s:Stmt):Scope:=match s with
 |.FunctionDef _ _ _ _ _ _ sc _ _ _=>sc
 |_=>{kind:=.function,names:=[],isGenerator:=false,isCoroutine:=false}
abbrev CX0:CXT:=fun _ _ _ _ _ _=>False
abbrev E0:XK:=fun _ _ _=>False
theorem Ax  : Lk CX0 X E0:=fun _ _ _ _ _ _ _ h=>h.elim
structure Fun (K:PySem.W.Frag)(x qual:Str)(st:Stmt)(f:Addr)(fd:FuncData):Prop where
 ex:∃(oc:Value) (od:Option Addr) (kV doc pm:Value) (an:Option Addr) (cdv ct:Value) (osl:Array (Option Value)),
  fd=PySem.W.fnOf x qual (Al st) (Ak st) (Ab st) .none kV doc pm an cdv ct/\K.lookup f=some ⟨oc,od,.func fd,osl⟩/\PySem.W.codeIn K cdv qual=true
 kp:PySem.W.keepIn K (.ref f)=true
section
variable {P:Program} {w:World} {K:PySem.W.Frag} {mg:Str->Option Value} {base:Heap}
theorem Fun.ok  {st:Stmt}      (F:Fun K x qual st f fd)(S:FnScope N ps (Ab st))(len:∀vs H Q E,sp vs H Q E->vs.length=ps.length)
  (hbody:∀(cdv:Value) (A:Around) (outer:List Env) (s:Shared) (H:Hp) (vs:List V) (Q:VK) (E:XK),Room k (A.deeper (envOfC qual (Ab st) s.heap.objs.size f cdv))->sp vs H Q E ->
   ∃t,PSs (cxOf CX0 P w K mg base N qual (Ab st) f cdv A outer s H E).nox (Ak st) t/\t {nx:=fun _ H'=>Q .non H',rt:=Q} (start N vs) H):FnOk P w K mg base CX0 (k+1) f fd ps sp:=by
 obtain⟨oc,od,kV,doc,pm,an,cdv,ct,osl,rfl,lk,hcd⟩:=F.ex
 refine Jt_ lk hcd S len fun A outer s H vs Q E hr hsp=>?_
 obtain⟨t,h,q⟩:=hbody cdv A outer s H vs Q E hr hsp
 exact⟨t,h.nox,q⟩
theorem Fun.binds  {st:Stmt}    (F:Fun K x qual st f fd)
  (h:∀(kV doc pm:Value) (an:Option Addr) (cdv ct:Value) (us:List Value),us.length=ps.length->bindArgs (PySem.W.fnOf x qual (Al st) (Ak st) (Ab st) .none kV doc pm an cdv ct) ⟨us,[]⟩=pure (ps.zip us)):Binds K fd ps []:=by
 obtain⟨oc,od,kV,doc,pm,an,cdv,ct,osl,rfl,lk,hcd⟩:=F.ex
 exact .all (h kV doc pm an cdv ct)
theorem Az  {st:Stmt}     {kV doc pm cdv ct:Value}(l:K.lookup f=some ⟨oc,od,.func (PySem.W.fnOf x qual (Al st) (Ak st) (Ab st) .none kV doc pm an cdv ct),osl⟩)
  (c:PySem.W.codeIn K cdv qual=true) (k:PySem.W.keepIn K (.ref f)=true):Fun K x qual st f (PySem.W.fnOf x qual (Al st) (Ak st) (Ab st) .none kV doc pm an cdv ct):=⟨⟨oc,od,kV,doc,pm,an,cdv,ct,osl,rfl,l,c⟩,k⟩
end
theorem NV   (hr:Room k A):A.units+1<cLine:=Nat.lt_of_le_of_lt (Nat.add_le_add_left (by decide:1<=64) _) hr.units
section
variable {X:Cx}
theorem pv (i:Nat)   (hN:X.N[i]?=some x:=by rfl)(hv:Vis X.env.scope x:=by first|exact Or.inl rfl|exact Or.inr (Or.inl rfl)|exact Or.inr (Or.inr rfl))(hd:(x==("__debug__" : Str))=false:=by decide)
  (hcd:(x==("__classdict__" : Str))=false:=by decide):PE X (.Name x pos) (tVar i):=Jg_ hN hv hd hcd
end
theorem ite2 {c A B:Prop}[Decidable c](h1:c->A)(h2:¬ c->B):if c then A else B:=by
 by_cases h:c
 ·rw[if_pos h]
  exact h1 h
 ·rw[if_neg h]
  exact h2 h
def Same (H H':Hp):Prop:=∀b o,H b=some o->H' b=some o
theorem Same.refl (H:Hp):Same H H:=fun _ _ h=>h
theorem Same.trans {H H1 H2:Hp}(a:Same H H1)(b:Same H1 H2):Same H H2:=fun c o h=>b c o (a c o h)
theorem Same.free  (e:Same H H')  (h:H' l=Option.none):H l=Option.none:=by
 cases q:H l with
 |none=>rfl
 |some o=>
  rw[e l o q]at h
  cases h
theorem Same.seq {K:PySem.W.Frag}    (e:Same H H')(h:SqL K H a xs):SqL K H' a xs:=by
 rcases h with (h|⟨o,h⟩)|h
 ·exact .inl (.inl (e _ _ h))
 ·exact .inl (.inr ⟨o,e _ _ h⟩)
 ·exact .inr h
end L2
set_option maxHeartbeats 4000000
namespace L2
open PySem PySem.Spec PyProof.Rows
section
variable {κ:Type} [DecidableEq κ]
def valV (kvs:List (κ×V))(k:κ):Option V:=(kvs.find? fun kv=>decide (kv.1=k)).map (·.2)
def putK (kvs:List (κ×V))(k:κ)(v:V):List (κ×V):=
 if (kvs.any fun kv=>decide (kv.1=k))=true then kvs.map (fun kv=>if kv.1=k then (kv.1,v) else kv) else kvs++[(k,v)]
theorem Wy {p:κ×V}{r:List (κ×V)}{k:κ}(e:p.1=k):valV (p::r) k=some p.2:=by simp[valV,List.find?_cons,e]
theorem Wz {p:κ×V}{r:List (κ×V)}{k:κ}(e:¬ p.1=k):valV (p::r) k=valV r k:=by simp[valV,List.find?_cons,e]
theorem J3 (k:κ):∀kvs:List (κ×V),(kvs.any fun kv=>decide (kv.1=k))=(valV kvs k).isSome
 |[]=>rfl
 |p::r=>by
  rw[List.any_cons]
  by_cases e:p.1=k
  ·simp only[Wy e,decide_eq_true e,Bool.true_or,Option.isSome_some]
  ·rw[Wz e,decide_eq_false e,Bool.false_or];exact J3 k r
theorem SX (kvs:List (κ×V))(k:κ)(v:V):(putK kvs k v).length<=kvs.length+1:=by
 unfold putK
 split
 ·rw[List.length_map];omega
 ·rw[List.length_append,List.length_cons,List.length_nil];omega
theorem FX_ {kvs:List (κ×V)}{k:κ}(v:V)(h:valV kvs k=none):putK kvs k v=kvs++[(k,v)]:=by
 unfold putK
 rw[J3,h]
 exact if_neg (by decide)
theorem RelO.isSome_eq   (r:RelO o u):o.isSome=u.isSome:=by
 cases o with
 |none=>cases u with
  |none=>rfl
  |some _=>exact (show False from r).elim
 |some _=>cases u with
  |none=>exact (show False from r).elim
  |some _=>rfl
theorem RelO.getD     (r:RelO o u)(rd:RelV d d'):RelV (o.getD d) (u.getD d'):=by
 cases o with
 |none=>cases u with
  |none=>exact rd
  |some _=>exact (show False from r).elim
 |some _=>cases u with
  |none=>exact (show False from r).elim
  |some _=>exact r
theorem KV.val   (r:KV kvs vs)(k:κ):RelO (valV kvs k) (valueAt vs k):=by
 unfold KV at r
 induction r with
 |nil=>exact True.intro
 |@cons p q ps qs h t ih=>
  obtain⟨h1,h2⟩:=h
  by_cases e:p.1=k
  ·have e':q.1=k:=h1.symm.trans e
   have b:valueAt (q::qs) k=some q.2:=by simp[valueAt,List.find?_cons,e']
   rw[Wy e,b];exact h2
  ·have e':¬ q.1=k:=fun z=>e (h1.trans z)
   have b:valueAt (q::qs) k=valueAt qs k:=by simp[valueAt,List.find?_cons,e']
   rw[Wz e,b];exact ih
theorem KV.any   (r:KV kvs vs)(k:κ):(kvs.any fun kv=>decide (kv.1=k))=vs.any fun kv=>decide (kv.1=k):=by
 unfold KV at r
 induction r with
 |nil=>rfl
 |cons h t ih=>rw[List.any_cons,List.any_cons,ih,h.1]
theorem KV.repl   (r:KV kvs vs)(k:κ)   (ry:RelV y u):
  KV (kvs.map fun kv=>if kv.1=k then (kv.1,y) else kv) (vs.map fun kv=>if kv.1=k then (kv.1,u) else kv):=by
 unfold KV at r ⊢
 induction r with
 |nil=>exact .nil
 |@cons p q ps qs h t ih=>
  rw[List.map_cons,List.map_cons]
  refine .cons ?_ ih
  obtain⟨h1,h2⟩:=h
  by_cases e:p.1=k
  ·rw[if_pos e,if_pos (h1.symm.trans e)];exact⟨h1,ry⟩
  ·rw[if_neg e,if_neg (fun z=>e (h1.trans z))];exact⟨h1,h2⟩
theorem KV.put   (r:KV kvs vs)(k:κ)   (ry:RelV y u):KV (putK kvs k y) (stored vs k u):=by
 unfold putK stored
 rw[r.any k]
 by_cases e:(vs.any fun kv=>decide (kv.1=k))=true
 ·rw[if_pos e,if_pos e];exact r.repl k ry
 ·rw[if_neg e,if_neg e];exact Paired.snoc r ⟨rfl,ry⟩
theorem KV.length {kvs:List (κ×V)}{vs:List (κ×Value)}(r:KV kvs vs):kvs.length=vs.length:=Paired.length r
end
theorem Es_     (r:RelV (kV k) u):(Ec P w).is k u=true:=by
 cases k with
 |inl i=>obtain⟨t,e⟩:=(show ∃t,u=Value.int i t from r);subst e;exact AH_ P w i t
 |inr x=>obtain⟨t,e⟩:=(show ∃t,u=Value.str x t from r);subst e;exact AI_ P w x t
theorem YS {P:Program}{w:World}:∀{ks:List Key} {us:List Value},Vals (ks.map kV) us->ItemsAre (Ec P w) ks us
 |[],_,r=>by rw[List.map_nil]at r;cases r;exact .nil
 |k::ks,_,r=>by
  rw[List.map_cons]at r
  cases r with
  |cons h t=>exact .cons (Es_ h) (YS t)
abbrev KT (H:Hp):List (List Key×V)->List (List Key×Addr×Value)->Prop:=Paired fun p q=>p.1=q.1/\H q.2.1=some (.tup (p.1.map kV))/\RelV p.2 q.2.2
theorem KT.val    (r:KT H kvs xs)(k:List Key):RelO (valV kvs k) ((atKey xs k).map (·.2)):=by
 induction r with
 |nil=>exact True.intro
 |@cons p q ps qs h t ih=>
  obtain⟨h1,_,h2⟩:=h
  by_cases e:p.1=k
  ·have e':q.1=k:=h1.symm.trans e
   have b:atKey (q::qs) k=some q.2:=by simp[atKey,List.find?_cons,e']
   rw[Wy e,b];exact h2
  ·have e':¬ q.1=k:=fun z=>e (h1.trans z)
   have b:atKey (q::qs) k=atKey qs k:=by simp[atKey,List.find?_cons,e']
   rw[Wz e,b];exact ih
theorem KT.repl    (r:KT H kvs xs)(k:List Key)   (ry:RelV y u):
  KT H (kvs.map fun kv=>if kv.1=k then (kv.1,y) else kv) (xs.map (putAt k u)):=by
 induction r with
 |nil=>exact .nil
 |@cons p q ps qs h t ih=>
  rw[List.map_cons,List.map_cons]
  refine .cons ?_ ih
  obtain⟨h1,h2,h3⟩:=h
  unfold putAt
  by_cases e:p.1=k
  ·rw[if_pos e,if_pos (h1.symm.trans e)];exact⟨h1,h2,ry⟩
  ·rw[if_neg e,if_neg (fun z=>e (h1.trans z))];exact⟨h1,h2,h3⟩
theorem KT.put    (r:KT H kvs xs)(k:List Key)    (hb:H b=some (.tup (k.map kV)))(ry:RelV y u):
  KT H (putK kvs k y) (storedH xs k b u):=by
 have e:(kvs.any fun kv=>decide (kv.1=k))=(atKey xs k).isSome:=by
  rw[J3,(r.val k).isSome_eq,Option.isSome_map]
 unfold putK storedH
 rw[e]
 by_cases q:(atKey xs k).isSome=true
 ·rw[if_pos q,if_pos q];exact r.repl k ry
 ·rw[if_neg q,if_neg q];exact Paired.snoc r ⟨rfl,hb,ry⟩
theorem KT.keeps    (r:KT H kvs xs)(ht:∀b ys,H b=some (.tup ys)->H' b=some (.tup ys)):KT H' kvs xs:=
 Paired.mapP r fun _ _ z=>⟨z.1,ht _ _ z.2.1,z.2.2⟩
section
variable {P:Program} {w:World} {H:Hp} {h:Heap} {a:Addr}
theorem FY_  (ok:HOk P w H h)(e:Rd H a u):C4 P w H h a u:=e.ok ok
theorem Db_  (ok:HOk P w H h)(e:Rd H a (.dK kvs)):kvs.length<=sizeLine/\(a==sysModules)=false/\∃vs,KV kvs vs/\h.DictOf (Ec P w) a vs:=
 show C4 P w H h a (.dK kvs) from FY_ ok e
theorem KF_  (ok:HOk P w H h)(e:H a=some (.dK kvs)):kvs.length<=sizeLine/\(a==sysModules)=false/\∃vs,KV kvs vs/\h.DictOf (Ec P w) a vs:=Db_ ok (.inl e)
theorem YT  (ok:HOk P w H h)(e:H a=some (.tup (ks.map kV))):(tupleKind (Ec P w)).is h ks a:=by
 obtain⟨_,its,r,o,h1,h2,n,h3⟩:=(show C4 P w H h a (.tup (ks.map kV)) from ok a _ e)
 exact⟨o,its.toArray,n,h1,h2,h3,by simpa using YS r⟩
theorem Dc_  (ok:HOk P w H h)(e:Rd H a (.dT kvs)):kvs.length<=sizeLine/\(a==sysModules)=false /\
  ∃xs,KT H kvs xs/\h.DictOfH (tupleKind (Ec P w)) a xs:=by
 obtain⟨z,y,xs,r,o,es,ep,h1,h2,h3,h4,h5⟩:=(show C4 P w H h a (.dT kvs) from FY_ ok e)
 refine⟨z,y,xs,r,o,es,ep,h1,h2,h3,h4,fun x hx=>?_,h5⟩
 have all:∀{l:List (List Key×V)} {m:List (List Key×Addr×Value)},KT H l m->∀x∈m,(tupleKind (Ec P w)).is h x.1 x.2.1:=by
  intro l m q
  induction q with
  |nil=>intro x hx;exact nomatch hx
  |@cons p q ps qs hq t ih=>
   intro x hx
   rcases List.mem_cons.mp hx with e|hx
   ·subst e
    exact YT ok (by rw[<-hq.1];exact hq.2.1)
   ·exact ih x hx
 exact all r x hx
theorem KG_  (ok:HOk P w H h)(e:H a=some (.dT kvs)):kvs.length<=sizeLine/\(a==sysModules)=false /\
  ∃xs,KT H kvs xs/\h.DictOfH (tupleKind (Ec P w)) a xs:=Dc_ ok (.inl e)
end
def DGet (H:Hp)(a:Addr)(y:V)(r:Option V):Prop:=
 (∃kvs k,Rd H a (.dK kvs)/\y=kV k/\r=valV kvs k) \/ ∃kvs k b,Rd H a (.dT kvs)/\y=.ref b/\H b=some (.tup (k.map kV))/\r=valV kvs k
def DPut (H:Hp)(a:Addr)(y v:V)(H':Hp):Prop:=
 (∃kvs k,H a=some (.dK kvs)/\y=kV k/\kvs.length<sizeLine/\H'=upd H a (.dK (putK kvs k v))) \/
 ∃kvs k b,H a=some (.dT kvs)/\y=.ref b/\H b=some (.tup (k.map kV))/\kvs.length<sizeLine/\H'=upd H a (.dT (putK kvs k v))
theorem DGet.t     (e:H a=some (.dT kvs))(eb:H b=some (.tup (k.map kV))):DGet H a (.ref b) (valV kvs k):=.inr ⟨kvs,k,b,.inl e,rfl,eb,rfl⟩
theorem DPut.t      (e:H a=some (.dT kvs))(eb:H b=some (.tup (k.map kV)))(hl:kvs.length<sizeLine):
  DPut H a (.ref b) v (upd H a (.dT (putK kvs k v))):=.inr ⟨kvs,k,b,e,rfl,eb,hl,rfl⟩
section
variable {X:Cx} {pins:List (Addr×Obj)} {σ:St} {H:Hp} {s:Shared} {a:Addr} {y v:V} {u r:Value} {o:Option V} {A:Around} {E:Value->Shared->Prop}
theorem Inv.big (I:Inv X pins σ H s):sysModules<s.heap.objs.size:=by
 have h:mainGlobals<s.heap.objs.size:=(I.mod.glob.keeps I.bk).lt
 exact Nat.lt_trans (by decide) h
theorem Et_  (hu:A.units+1<cLine)(I:Inv X pins σ H s)(g:DGet H a y (some v))(ry:RelV y u)(h:∀w' s',Inv X pins σ H s'->RelV v w'->Q w' s'):
  wpAny (model X.prog X.w) A (getItem (.ref a) u) Q E s:=by
 rcases g with ⟨kvs,k,e,ey,l⟩|⟨kvs,k,b,e,ey,eb,l⟩
 ·subst ey
  obtain⟨z,hd,vs,rel,dd⟩:=Db_ I.hok e
  obtain⟨w',hw,rw'⟩:=RelO.some_of (v:=v) (o:=valueAt vs k) (by rw[l];exact rel.val k)
  exact wpAny_getItem_of (Es_ ry) dd.mapOf hw (h w' _ (I.tok _) rw')
 ·subst ey
  cases (show u=Value.ref b from ry)
  obtain⟨z,hd,xs,rel,dd⟩:=Dc_ I.hok e
  obtain⟨w',hw,rw'⟩:=RelO.some_of (v:=v) (o:=(atKey xs k).map (·.2)) (by rw[l];exact rel.val k)
  obtain⟨p,hp,hp2⟩:=Option.map_eq_some_iff.mp hw
  refine wpAny_getItem_heap (tupleKind_room_in1 hu) (YT I.hok eb) dd hp ?_
  rw[hp2]
  exact h w' _ (I.tok _) rw'
theorem AO_    (I:Inv X pins σ H s)(mu:Mut (H a))(hs:Heap.SameBut a s.heap h')(he:∃q,h'.get? a=some q)(new:C4 X.prog X.w (upd H a ob) h' a ob):
  Inv X pins σ (upd H a ob) {s with heap:=h',toks:=t' }:=
 I.write (x:=a) (e:=a) mu (.inl rfl) (fun b q hb z=>(hs.2 b hb).trans z) he new
theorem Jx_       (z:kvs.length<=sizeLine)(hd:(a==sysModules)=false)(rel:KV kvs vs)(dd:h'.DictOf (Ec P w) a vs):
  C4 P w H' h' a (.dK kvs):=⟨z,hd,vs,rel,dd⟩
theorem Eu_   (hu:A.units+1<cLine)(I:Inv X pins σ H s)(g:DPut H a y v H')(ry:RelV y u)(rv:RelV v r)(h:∀s',Inv X pins σ H' s'->Q () s'):
  wpAny (model X.prog X.w) A (setItem (.ref a) u r) Q E s:=by
 rcases g with ⟨kvs,k,e,ey,l,eH⟩|⟨kvs,k,b,e,ey,eb,l,eH⟩
 ·subst ey eH
  obtain⟨z,hd,vs,rel,dd⟩:=KF_ I.hok e
  have hz:vs.length<=sizeLine:=by rw[<-rel.length];exact z
  have hl:(putK kvs k v).length<=sizeLine:=by have:=SX kvs k v;omega
  refine wpAny_setItem_pairs (hsz:=hz) (Es_ ry) dd fun h' dd' hs=>h _ ?_
  have he:∃q,h'.get? a=some q:=let ⟨q,_,_,hq,_⟩:=dd';⟨q,hq⟩
  exact AO_ I (by rw[e];exact True.intro) hs he (Jx_ hl hd (rel.put k rv) dd')
 ·subst ey eH
  cases (show u=Value.ref b from ry)
  obtain⟨z,hd,xs,rel,dd⟩:=KG_ I.hok e
  have hz:xs.length<=sizeLine:=by rw[<-Paired.length rel];exact z
  have hl:(putK kvs k v).length<=sizeLine:=by have:=SX kvs k v;omega
  refine wpAny_setItem_heap (hsz:=hz) (tupleKind_room_in1 hu) (YT I.hok eb) dd fun h' dd' hs=>h _ ?_
  obtain⟨q,es,ep,hq,h2,h3,h4,_,h5⟩:=dd'
  refine AO_ I (by rw[e];exact True.intro) hs ⟨q,hq⟩ ⟨hl,hd,_,(rel.put k eb rv).keeps fun c ys ec=>?_,q,es,ep,hq,h2,h3,h4,h5⟩
  rw[Ah (KC_ ec e (fun z=>nomatch z))]
  exact ec
end
def NoSl (i:Expr):Prop:=∀ov iv,subscripted i false ov iv=operate [ov,iv] (getItem ov iv)
theorem Ip_         {T id:String}
  (hl:typeLookup (.type T) "__getitem__"=pure (some (.builtin id))) (hs:NoSl slice)
  (h:wpAny (model prog w) A (eval value env) (fun o s₁=>wpAny (model prog w) A (eval slice env) (fun i s₂=>s₂.TypeIs o T/\wpAny (model prog w) A (getItem o i) Q E s₂) E s₁) E s):
  wpAny (model prog w) A (eval (.Subscript value slice pos) env) Q E s:=by
 refine Subscript_ (wpAny_mono h (fun o s₁ h₁=>wpAny_mono h₁ (fun i s₂ h₂=>?_) fun _ _ x=>x) fun _ _ x=>x)
 obtain⟨hT,h₂⟩:=h₂
 unfold subscriptTail
 refine wpAny_bind ?_
 rw[getitemInPython_of_ne hT.not_modules]
 refine wpAny_bind (wpAny_specialOf hT hl ?_)
 have fin:wpAny (model prog w) A (subscripted slice false o i) (fun r s₃=>wpAny (model prog w) A (letTemporaryGo value o r >>= fun _=>pure r) Q E s₃) E s₂:=by
  rw[hs o i]
  exact wpAny_operating (wpAny_mono h₂ (fun r s₃ h₃=>wpAny_bind (wpAny_letTemporaryGo (wpAny_pure h₃))) fun _ _ x=>x)
 first
  | exact wpAny_pure (wpAny_bind fin)
  | exact wpAny_bind (wpAny_pure (wpAny_bind fin))
  | exact wpAny_bind fin
theorem AP_         (I:Inv X pins σ H s)(g:DGet H a y o):s.TypeIs (.ref a) "dict" := by
 rcases g with ⟨kvs,k,e,_,_⟩|⟨kvs,k,b,e,_,_,_⟩
 ·obtain⟨_,_,vs,_,dd⟩:=Db_ I.hok e
  exact dd.typeIs
 ·obtain⟨_,_,xs,_,dd⟩:=Dc_ I.hok e
  exact dd.typeIs
def Jy_ (td ty:TE):TE:=fun σ H Q=>td σ H fun x H1=>ty σ H1 fun y H2=>∃a v,x=.ref a/\DGet H2 a y (some v)/\Q v H2
def Jz_ (td ty tv:TE):TS:=fun D σ H=>tv σ H fun v H1=>td σ H1 fun x H2=>ty σ H2 fun y H3=>∃a H4,x=.ref a/\DPut H3 a y v H4/\D.nx σ H4
section
variable {X:Cx} {o i e value:Expr} {pos pos' tpos:Pos} {td ty tv:TE}
theorem SY (hu:X.A.units+1<cLine)(ho:PE X o td)(hi:PE X i ty)(hs:NoSl i):PE X (.Subscript o i pos) (Jy_ td ty):=by
 intro pins s σ H Q I h
 refine Ip_ PySem.F.slot_dict_getitem.lookup hs (thn (ho pins s σ H _ I h) fun u s1 ⟨x,H1,I1,rx,q1⟩=>thn (hi pins s1 σ H1 _ I1 q1) fun iv s2 ⟨y,H2,I2,ry,a,v,ex,g,q2⟩=>?_)
 subst ex
 obtain rfl:u=Value.ref a:=rx
 exact⟨AP_ I2 g,Et_ hu I2 g ry fun w' s3 I3 rw'=>⟨v,H2,I3,rw',q2⟩⟩
theorem NW (hu:X.A.units+1<cLine)(ho:PE X o td)(hi:PE X i ty)(hv:PE X value tv)(hs:swapsWith value (some (.Subscript o i pos')) pos.line X.env=pure false):
  PS X (.Assign [.Subscript o i pos'] value pos) (Jz_ td ty tv):=by
 intro pins s σ H D I h
 refine wpAny_Assign_Subscript (thn (hv pins s σ H _ I h) fun r s1 ⟨v,H1,I1,rv,q1⟩=>thn (ho pins s1 σ H1 _ I1 q1) fun u s2 ⟨x,H2,I2,rx,q2⟩=>thn (hi pins s2 σ H2 _ I2 q2) fun iv s3 ⟨y,H3,I3,ry,a,H4,ex,g,q3⟩=>?_) hs
 subst ex
 obtain rfl:u=Value.ref a:=rx
 exact Eu_ hu I3 g ry rv fun s4 I4=>⟨σ,H4,I4,q3⟩
end
theorem FZ_    (h:Heap)(hb:sysModules<h.objs.size):C4 P w H (h.push {cls:=.type "dict",data:=.dict #[]}) h.objs.size (.dT []):=
 ⟨Nat.zero_le _,beq_eq_false_iff_ne.mpr (Ne.symm (Nat.ne_of_lt hb)),[],.nil,_,#[],0,Heap.get?_push_size _ rfl,⟨rfl,rfl,rfl⟩,rfl,rfl,List.nodup_nil⟩
def GZ_:TE:=fun _ H Q=>∀p,H p=none->Q (.ref p) (upd H p (.dT []))
section
variable {X:Cx} {pos:Pos}
theorem M3:PE X (.Dict [] [] pos) GZ_:=fun pins s σ H Q I h=>
 wpAny_Dict_empty ⟨.ref s.heap.objs.size,_,I.laid (a:=s.heap.objs.size) (o:=.dT []) (t':=s.toks) (fun _ _ q=>Heap.get?_push_of_some _ q) (Nat.le_refl _) (FZ_ s.heap I.big),rfl,h _ (I.hok.fresh (Nat.le_refl _))⟩
end
structure M1 (X:Cx)(o:Expr)(m:Str)(apos:Pos)(e:Expr)(cpos:Pos):Prop where
 base:attributeBase o m X.env (eval o X.env)=eval o X.env
 few:((backTo cpos (starEach [e] X.env)).all (fun x => !x.1)&&(backToKw cpos (keywordEach [] X.env)).all (fun x=>x.1.isSome)
  && decide (([e]:List Expr).length+([]:List Keyword).length+(if ([]:List Keyword).isEmpty then 0 else 1)<30))=true
 line:(apos.endLine==cpos.line)=true
 trees:backTo cpos (starEach [e] X.env)=[(false,eval e X.env)]
structure M2 (X:Cx)(o:Expr)(m:Str)(apos:Pos)(e f:Expr)(cpos:Pos):Prop where
 base:attributeBase o m X.env (eval o X.env)=eval o X.env
 few:((backTo cpos (starEach [e,f] X.env)).all (fun x => !x.1)&&(backToKw cpos (keywordEach [] X.env)).all (fun x=>x.1.isSome)
  && decide (([e,f]:List Expr).length+([]:List Keyword).length+(if ([]:List Keyword).isEmpty then 0 else 1)<30))=true
 line:(apos.endLine==cpos.line)=true
 trees:backTo cpos (starEach [e,f] X.env)=[(false,eval e X.env),(false,eval f X.env)]
def IsD (H:Hp)(a:Addr):Prop:=(∃kvs,Rd H a (.dK kvs)) \/ ∃kvs,Rd H a (.dT kvs)
theorem Ha_       (I:Inv X pins σ H s)(d:IsD H a):
  s.TypeIs (.ref a) "dict" /\ (∀b,Value.ref a=.ref b->∃ob,s.heap.get? b=some ob/\ob.dict=none)/\(a==sysModules)=false:=by
 rcases d with ⟨kvs,e⟩|⟨kvs,e⟩
 ·obtain⟨_,hd,vs,_,dd⟩:=Db_ I.hok e
  refine⟨dd.typeIs,fun b q=>?_,hd⟩
  cases q
  obtain⟨ob,_,_,h1,h2,_⟩:=dd
  exact⟨ob,h1,h2.2.1⟩
 ·obtain⟨_,hd,xs,_,dd⟩:=Dc_ I.hok e
  refine⟨dd.typeIs,fun b q=>?_,hd⟩
  cases q
  obtain⟨ob,_,_,h1,h2,_⟩:=dd
  exact⟨ob,h1,h2.2.1⟩
section
variable {X:Cx} {pins:List (Addr×Obj)} {σ:St} {H:Hp} {s:Shared} {a:Addr} {y d:V} {u r:Value} {o:Option V} {A:Around} {E:Value->Shared->Prop}
theorem JA_  (hu:A.units+1<cLine)(I:Inv X pins σ H s)(g:DGet H a y o)(ry:RelV y u)(h:∀w' s',Inv X pins σ H s'->RelV (o.getD .non) w'->Q w' s'):
  wpAny (model X.prog X.w) A (call (.builtin "dict.get") [.ref a,u]) Q E s:=by
 rcases g with ⟨kvs,k,e,ey,l⟩|⟨kvs,k,b,e,ey,eb,l⟩
 ·subst ey
  obtain⟨z,hd,vs,rel,dd⟩:=Db_ I.hok e
  refine call_meetsIn PySem.F.slot_dict_get dd.typeIs PySem.F.entry_dict_get (PySem.F.args_dict_get_2 _ _) (meets_dict_get (Ec X.prog X.w) a (Es_ ry) hd) ⟨_,dd.mapOf,h _ _ (I.tok _) ?_⟩
  rw[l]
  exact (rel.val k).getD rfl
 ·subst ey
  cases (show u=Value.ref b from ry)
  obtain⟨z,hd,xs,rel,dd⟩:=Dc_ I.hok e
  refine call_meetsIn PySem.F.slot_dict_get dd.typeIs PySem.F.entry_dict_get (PySem.F.args_dict_get_2 _ _) (meetsH_dict_get (tupleKind (Ec X.prog X.w)) a b hd) ⟨tupleKind_room_in1 hu,k,xs,YT I.hok eb,dd,h _ _ (I.tok _) ?_⟩
  rw[l]
  exact (rel.val k).getD rfl
theorem JB_  (hu:A.units+1<cLine)(I:Inv X pins σ H s)(g:DGet H a y o)(ry:RelV y u)(rd:RelV d r)(h:∀w' s',Inv X pins σ H s'->RelV (o.getD d) w'->Q w' s'):
  wpAny (model X.prog X.w) A (call (.builtin "dict.get") [.ref a,u,r]) Q E s:=by
 rcases g with ⟨kvs,k,e,ey,l⟩|⟨kvs,k,b,e,ey,eb,l⟩
 ·subst ey
  obtain⟨z,hd,vs,rel,dd⟩:=Db_ I.hok e
  refine call_meetsIn PySem.F.slot_dict_get dd.typeIs PySem.F.entry_dict_get (PySem.F.args_dict_get_3 _ _ _) (meets_dict_get_default (Ec X.prog X.w) a (Es_ ry) hd r) ⟨_,dd.mapOf,h _ _ (I.tok _) ?_⟩
  rw[l]
  exact (rel.val k).getD rd
 ·subst ey
  cases (show u=Value.ref b from ry)
  obtain⟨z,hd,xs,rel,dd⟩:=Dc_ I.hok e
  refine call_meetsIn PySem.F.slot_dict_get dd.typeIs PySem.F.entry_dict_get (PySem.F.args_dict_get_3 _ _ _) (meetsH_dict_get_default (tupleKind (Ec X.prog X.w)) a b hd r) ⟨tupleKind_room_in1 hu,k,xs,YT I.hok eb,dd,h _ _ (I.tok _) ?_⟩
  rw[l]
  exact (rel.val k).getD rd
end
def Hb_ (td ty:TE):TE:=fun σ H Q=>td σ H fun x H1=>∃a,x=.ref a/\IsD H1 a/\ty σ H1 fun y H2=>∃o,DGet H2 a y o/\Q (o.getD .non) H2
def Hc_ (td ty tx:TE):TE:=fun σ H Q=>td σ H fun x H1=>∃a,x=.ref a/\IsD H1 a/\ty σ H1 fun y H2=>tx σ H2 fun z H3=>∃o,DGet H3 a y o/\Q (o.getD z) H3
section
variable {X:Cx} {o e f:Expr} {apos cpos:Pos} {td ty tx:TE}
theorem Cn_ (hu:X.A.units+1<cLine)(ho:PE X o td)(he:PE X e ty)(m:M1 X o "get" apos e cpos):PE X (.Call (.Attribute o "get" apos) [e] [] cpos) (Hb_ td ty):=by
 intro pins s σ H Q I h
 refine wpAny_Call_method m.base m.few m.line PySem.F.plainAttrs_dict PySem.F.slot_dict_get PySem.F.type_dict_get (thn (ho pins s σ H _ I h) fun u s1 ⟨x,H1,I1,rx,a,ex,d,q1⟩=>?_)
 subst ex
 obtain rfl:u=Value.ref a:=rx
 obtain⟨t1,t2,_⟩:=Ha_ I1 d
 refine⟨t1,t2,?_⟩
 rw[m.trees]
 refine Calls.callWith_builtin rfl (Calls.evalArgs_plain (Calls.spliced_cons (thn (he pins s1 σ H1 _ I1 q1) fun iv s2 ⟨y,H2,I2,ry,ov,g,q2⟩=>Calls.spliced_nil ?_)))
 exact JA_ hu I2 g ry fun w' s3 I3 rw'=>⟨_,H2,I3,rw',q2⟩
theorem Ga_ (hu:X.A.units+1<cLine)(ho:PE X o td)(he:PE X e ty)(hf:PE X f tx)(m:M2 X o "get" apos e f cpos):PE X (.Call (.Attribute o "get" apos) [e,f] [] cpos) (Hc_ td ty tx):=by
 intro pins s σ H Q I h
 refine wpAny_Call_method m.base m.few m.line PySem.F.plainAttrs_dict PySem.F.slot_dict_get PySem.F.type_dict_get (thn (ho pins s σ H _ I h) fun u s1 ⟨x,H1,I1,rx,a,ex,d,q1⟩=>?_)
 subst ex
 obtain rfl:u=Value.ref a:=rx
 obtain⟨t1,t2,_⟩:=Ha_ I1 d
 refine⟨t1,t2,?_⟩
 rw[m.trees]
 refine Calls.callWith_builtin rfl (Calls.evalArgs_plain (Calls.spliced_cons (thn (he pins s1 σ H1 _ I1 q1) fun iv s2 ⟨y,H2,I2,ry,q2⟩ =>
  Calls.spliced_cons (thn (hf pins s2 σ H2 _ I2 q2) fun fv s3 ⟨z,H3,I3,rz,ov,g,q3⟩=>Calls.spliced_nil ?_))))
 exact JB_ hu I3 g ry rz fun w' s4 I4 rw'=>⟨_,H3,I4,rw',q3⟩
end
end L2
namespace L2
open PySem PySem.Spec PyProof.Rows
def clOf (env:Env):List (Str×NameKind)->List (Str×Addr)->List (Str×Addr)
 |[],acc=>acc
 | (n,k)::r,acc=>if (k == .free)=true then clOf env r ((n,(env.cells.lookup n).getD 0)::acc) else clOf env r acc
theorem Wa   (h:∀p∈scope.names,p.2=.free->∃c,env.cells.lookup p.1=some c):closureFor scope env=pure (clOf env scope.names []):=by
 have go:∀(l:List (Str×NameKind)) (acc:List (Str×Addr)),(∀p∈l,p.2=.free->∃c,env.cells.lookup p.1=some c) ->
   (forIn l acc fun (x:Str×NameKind) (cs:List (Str×Addr))=>(if (x.2 == .free)=true then do let c <- cellOf env x.1;pure (ForInStep.yield ((x.1,c)::cs)) else pure (ForInStep.yield cs):Sem (ForInStep (List (Str×Addr)))))=(pure (clOf env l acc):Sem (List (Str×Addr))):=by
  intro l
  induction l with
  |nil=>intro acc _;rfl
  |cons p r ih=>
   intro acc hl
   obtain⟨n,k⟩:=p
   rw[List.forIn_cons]
   by_cases hk:(k == .free)=true
   ·obtain⟨c,hc⟩:=hl (n,k) List.mem_cons_self (by simpa using hk)
    have e1:cellOf env n=pure c:=by unfold cellOf;rw[hc]
    have ih':=ih ((n,c)::acc) fun q hq=>hl q (List.mem_cons_of_mem _ hq)
    show ((if (k == .free)=true then do let c <- cellOf env n;pure (ForInStep.yield ((n,c)::acc)) else pure (ForInStep.yield acc):Sem _) >>= _)=_
    rw[if_pos hk,e1]
    show (forIn r ((n,c)::acc) _:Sem _)=_
    rw[clOf,if_pos hk,hc]
    exact ih'
   ·have ih':=ih acc fun q hq=>hl q (List.mem_cons_of_mem _ hq)
    show ((if (k == .free)=true then do let c <- cellOf env n;pure (ForInStep.yield ((n,c)::acc)) else pure (ForInStep.yield acc):Sem _) >>= _)=_
    rw[if_neg hk]
    show (forIn r acc _:Sem _)=_
    rw[clOf,if_neg hk]
    exact ih'
 have e:=go scope.names [] h
 unfold closureFor
 show (forIn scope.names [] _ >>= fun cs=>pure cs:Sem _)=_
 have e2:(forIn scope.names [] (fun (x:Str×NameKind) (r:List (Str×Addr))=>(match x with
   | (name,kind)=>if (kind == .free)=true then do let c <- cellOf env name;pure (ForInStep.yield ((name,c)::r)) else do pure PUnit.unit;pure (ForInStep.yield r):Sem (ForInStep (List (Str×Addr))))))=(pure (clOf env scope.names []):Sem (List (Str×Addr))):=e
 exact congrArg (fun z=>z >>= fun cs=>pure cs) e2
theorem WA {env:Env}:∀(l:List (Str×NameKind)) (acc:List (Str×Addr)),(∀p∈l,p.2=.free->∃c,env.cells.lookup p.1=some c)->(∀q∈acc,env.cells.lookup q.1=some q.2)->∀q∈clOf env l acc,env.cells.lookup q.1=some q.2
 |[],_,_,ha,q,hq=>ha q hq
 | (n,k)::r,acc,hl,ha,q,hq=>by
  unfold clOf at hq
  by_cases hk:(k == .free)=true
  ·rw[if_pos hk]at hq
   obtain⟨c,hc⟩:=hl (n,k) List.mem_cons_self (by simpa using hk)
   refine WA r _ (fun p hp=>hl p (List.mem_cons_of_mem _ hp)) (fun p hp=>?_) q hq
   rcases List.mem_cons.mp hp with rfl|hp
   ·show env.cells.lookup n=some ((env.cells.lookup n).getD 0)
    rw[hc];rfl
   ·exact ha p hp
  ·rw[if_neg hk]at hq
   exact WA r _ (fun p hp=>hl p (List.mem_cons_of_mem _ hp)) ha q hq
theorem Sw {env:Env}:∀(l:List (Str×NameKind)) (acc:List (Str×Addr)) (x:Str),((x,NameKind.free)∈l \/ ∃c,(x,c)∈acc)->∃c,(x,c)∈clOf env l acc
 |[],_,_,h=>by
  rcases h with h|h
  ·cases h
  ·exact h
 | (n,k)::r,acc,x,h=>by
  unfold clOf
  by_cases hk:(k == .free)=true
  ·rw[if_pos hk]
   refine Sw r _ x ?_
   rcases h with h|⟨c,h⟩
   ·rcases List.mem_cons.mp h with h|h
    ·cases h
     exact .inr ⟨_,List.mem_cons_self⟩
    ·exact .inl h
   ·exact .inr ⟨c,List.mem_cons_of_mem _ h⟩
  ·rw[if_neg hk]
   refine Sw r _ x ?_
   rcases h with h|h
   ·rcases List.mem_cons.mp h with h|h
    ·cases h
     exact absurd rfl hk
    ·exact .inl h
   ·exact .inr h
theorem Gr {β:Type}:∀{l:List (Str×β)} {x:Str} {c:β},(x,c)∈l->∃c',l.lookup x=some c'
 |[],_,_,h=>by cases h
 | (n,d)::r,x,c,h=>by
  by_cases hx:(x==n)=true
  ·exact⟨d,by rw[List.lookup_cons,hx]⟩
  ·rcases List.mem_cons.mp h with h|h
   ·cases h;exact absurd (beq_self_eq_true _) hx
   ·obtain⟨c',e⟩:=Gr h
    exact⟨c',by rw[List.lookup_cons];simp only[Bool.not_eq_true]at hx;rw[hx];exact e⟩
def relF (env:Env):Str×NameKind->Str×NameKind:=fun (n,k)=>if (k==NameKind.free&&env.scope.kind == .function&&env.kindOf n==some .cell) then (n,NameKind.cell) else (n,k)
theorem WB    (h:(k==NameKind.free&&env.scope.kind == .function&&env.kindOf n==some .cell)=true):relF env (n,k)=(n,.cell):=if_pos h
theorem AQ_    (h:¬ (k==NameKind.free&&env.scope.kind == .function&&env.kindOf n==some .cell)=true):relF env (n,k)=(n,k):=if_neg h
theorem Lm {env:Env}:∀{names:List (Str×NameKind)} {x:Str} {k:NameKind},(∀y∈names,y.2 ≠ .cell) ->
  (names.map (relF env)).lookup x=some k->(k=.cell\/k=.free)->(x,NameKind.free)∈names
 |[],_,_,_,h,_=>by simp at h
 | (n,k')::r,x,k,hc,h,hk=>by
  have ih := @Lm env r x k (fun y hy=>hc y (List.mem_cons_of_mem _ hy))
  rw[List.map_cons]at h
  by_cases hb:(k'==NameKind.free&&env.scope.kind == .function&&env.kindOf n==some .cell)=true
  ·rw[WB hb,List.lookup_cons]at h
   cases hx:x==n with
   |true=>
    have e:x=n:=by simpa using hx
    subst e
    have e2:k'=.free:=by
     simp only[Bool.and_eq_true]at hb
     simpa using hb.1.1
    subst e2
    exact List.mem_cons_self
   |false=>
    rw[hx]at h
    exact List.mem_cons_of_mem _ (ih h hk)
  ·rw[AQ_ hb,List.lookup_cons]at h
   cases hx:x==n with
   |true=>
    rw[hx]at h
    have e:x=n:=by simpa using hx
    subst e
    have e2:k'=k:=Option.some.inj h
    subst e2
    rcases hk with rfl|rfl
    ·exact absurd rfl (hc _ List.mem_cons_self)
    ·exact List.mem_cons_self
   |false=>
    rw[hx]at h
    exact List.mem_cons_of_mem _ (ih h hk)
theorem Rt {env:Env}:∀{names:List (Str×NameKind)} {x:Str},names.lookup x=some .free ->
  ∃k,(k=NameKind.cell\/k=NameKind.free)/\(names.map (relF env)).lookup x=some k
 |[],_,h=>by simp at h
 | (n,k')::r,x,h=>by
  have ih := @Rt env r x
  rw[List.lookup_cons]at h
  rw[List.map_cons]
  cases hx:x==n with
  |true=>
   rw[hx]at h
   have e2:k'=.free:=Option.some.inj h
   subst e2
   by_cases hb:((NameKind.free:NameKind)==NameKind.free&&env.scope.kind == .function&&env.kindOf n==some .cell)=true
   ·exact⟨.cell,.inl rfl,by rw[WB hb,List.lookup_cons,hx]⟩
   ·exact⟨.free,.inr rfl,by rw[AQ_ hb,List.lookup_cons,hx]⟩
  |false=>
   rw[hx]at h
   obtain⟨k,hk,e⟩:=ih h
   refine⟨k,hk,?_⟩
   by_cases hb:(k'==NameKind.free&&env.scope.kind == .function&&env.kindOf n==some .cell)=true
   ·rw[WB hb,List.lookup_cons,hx];exact e
   ·rw[AQ_ hb,List.lookup_cons,hx];exact e
end L2
namespace L2
open PySem PySem.Spec PyProof.Rows
section
variable {prog:Program} {w:World} {A:Around} {R:Result->Shared->Prop} {s:Shared}
theorem YU {elt target iter:Expr}    {it acc:Value}  (I:Nat->Shared->Prop)
  (turn:∀n s,I n s->wpAny (model prog w) A (pyNext it) (fun r s₁=>match r with
   |none=>R (.ok .next) s₁
   |some v=>wpAny (model prog w) A (letOwnedTupleGo target it v) (fun _ s₁'=>wpAny (model prog w) A (assign target env v) (fun _ s₂=>
     wpAny (model prog w) A (forIn ifs true fun c r=>if r=true then do let ok <- isTrue c env (eval c env);pure (ForInStep.yield ok) else pure (ForInStep.yield r)) (fun ok s₃=>
      if ok=true then wpAny (model prog w) A (eval elt env) (fun x s₄=>
       wpAny (model prog w) A (call (.builtin "list.append") [acc,x]) (fun _ s₅=>∃m,m<n/\I m s₅) (notedBy (model prog w) A env fun e s'=>R (.error e) s') s₄) (notedBy (model prog w) A env fun e s'=>R (.error e) s') s₃
      else ∃m,m<n/\I m s₃) (notedBy (model prog w) A env fun e s'=>R (.error e) s') s₂) (notedBy (model prog w) A env fun e s'=>R (.error e) s') s₁') (notedBy (model prog w) A env fun e s'=>R (.error e) s') s₁) (notedBy (model prog w) A env fun e s'=>R (.error e) s') s)
  (n:Nat) (h:I n s):
  codeAny (model prog w) A (.compLoop (.ListComp elt [⟨target,iter,ifs,0⟩] scope pos) 0 it acc env) R s:=by
 refine codeAny_loop rfl I (fun n s hI=>?_) n h
 show wpAny _ A ((compTurn (.ListComp elt [⟨target,iter,ifs,0⟩] scope pos) 0 it acc env).onRaise (fun x=>do noteFrame x env;theTreesLotGoes x)) _ _ s
 refine wpAny_noted ?_
 rw[compTurn_list]
 refine wpAny_bind (wpAny_standAt (wpAny_bind (wpAny_mono (turn n s hI) (fun r s₁ h₁=>?_) fun _ _ h'=>h')))
 cases r with
 |none=>exact wpAny_pure h₁
 |some v=>
  refine wpAny_bind (wpAny_mono h₁ (fun _ s₁' h₁'=>?_) fun _ _ h'=>h')
  refine wpAny_bind (wpAny_mono h₁' (fun _ s₂ h₂=>wpAny_bind (wpAny_mono h₂ (fun ok s₃ h₃=>?_) fun _ _ h'=>h')) fun _ _ h'=>h')
  cases ok with
  |false=>exact wpAny_pure ⟨rfl,h₃⟩
  |true=>
   exact wpAny_bind (wpAny_bind (wpAny_mono h₃ (fun x s₄ h₄=>wpAny_bind (wpAny_mono h₄ (fun _ s₅ h₅=>wpAny_pure (wpAny_pure ⟨rfl,h₅⟩)) fun _ _ h'=>h')) fun _ _ h'=>h'))
end
abbrev Cx.blk (X:Cx)(N:List Str)(sc:Scope)(C:Addr)(s₀:Shared)(H₀:Hp)(ex:List Addr):Cx:=
 {X with N:=N,env:=compEnvC sc (clOf X.env sc.names []) C X.env,outer:=X.stack,s₀:=s₀,H₀:=H₀,ex:=ex,fn:=fun _=>false,pn:=[],xe:=fun _ _=>False}
structure BlkSc (X:Cx)(sc:Scope):Prop where
 kind:sc.kind=.function
 nocell:∀y∈sc.names,y.2 ≠ .cell
 loc:∀y∈sc.names,y.2=.local->sc.names.lookup y.1=some .local
 free:∀y∈sc.names,y.2=.free->X.env.kindOf y.1=some .cell\/X.env.kindOf y.1=some .free
abbrev Caps:=List (Str×Option Nat)
def Caps.names (c:Caps):List Str:=c.map (·.1)
def Caps.st (c:Caps)(σ:St):St:=c.map fun p=>p.2.bind fun j=>(σ[j]?).join
def Ln (N:List Str)(sc:Scope):Caps->Prop
 |[]=>True
 | (_,none)::r=>Ln N sc r
 | (x,some j)::r=>(N[j]?=some x/\sc.names.lookup x=some .free)/\Ln N sc r
theorem Ln.get {N:List Str}{sc:Scope}:∀{c:Caps} {i:Nat} {x:Str} {j:Nat},Ln N sc c->c[i]?=some (x,some j)->N[j]?=some x/\sc.names.lookup x=some .free
 |[],_,_,_,_,h=>by simp at h
 | (y,none)::r,0,x,j,_,h=>by simp at h
 | (y,none)::r,i+1,x,j,ok,h=>Ln.get (c:=r) (i:=i) ok (by simpa using h)
 | (y,some k)::r,0,x,j,ok,h=>by
  simp only[List.getElem?_cons_zero,Option.some.injEq,Prod.mk.injEq]at h
  obtain⟨rfl,rfl⟩:=h
  exact ok.1
 | (y,some k)::r,i+1,x,j,ok,h=>Ln.get (c:=r) (i:=i) ok.2 (by simpa using h)
section
variable {X:Cx} {pins:List (Addr×Obj)} {σ:St} {H:Hp} {s:Shared} {sc:Scope} {fp:List Addr}
theorem S0 (I:Inv X pins σ H s)(S:BlkSc X sc):∀p∈sc.names,p.2=.free->∃c,X.env.cells.lookup p.1=some c:=fun p hp e=>I.ok.has p.1 (S.free p hp e)
theorem F5 (I:Inv X pins σ H s)(S:BlkSc X sc)   (h:(clOf X.env sc.names []).lookup x=some c):X.env.cells.lookup x=some c:=
 WA sc.names [] (S0 I S) (fun q hq=>by cases hq) (x,c) (PySem.mem_of_lookup h)
theorem JC_ {N:List Str}{C:Addr}(I:Inv X pins σ H s)(S:BlkSc X sc)(hC:s.heap.objs.size<=C)(hf:∀b∈fp,FpOk X pins H b)(ho:∀b∈fp,∃o,s.heap.get? b=some o):(X.blk N sc C s H fp).Ok where
 mod:=I.ok.mod
 kind:=S.kind
 glob:=I.ok.glob
 blt:=I.ok.blt
 above:=hC
 inj:=fun x y c h1 h2=>I.ok.inj x y c (F5 I S h1) (F5 I S h2)
 has:=fun x hx=>by
  have hx':(x,NameKind.free)∈sc.names:=by
   rcases hx with hx|hx
   ·exact Lm (env:=X.env) S.nocell hx (.inl rfl)
   ·exact Lm (env:=X.env) S.nocell hx (.inr rfl)
  obtain⟨c,hc⟩:=Sw (env:=X.env) sc.names [] x (.inl hx')
  exact Gr hc
 cab:=fun x c h=>absurd (show false=true from h) Bool.false_ne_true
 hd:=I.ok.hd
 frames:=I.ok.frames
 stk:=.inl rfl
 exf:=fun b hb=>by
  obtain⟨o,ho⟩:=ho b hb
  refine⟨Nat.ne_of_lt (Nat.lt_of_lt_of_le (Heap.lt_size ho) hC),fun x c h=>(hf b hb).2.2.2.2.1 x c (F5 I S h)⟩
 bs:=I.bs
 bsz:=Nat.le_trans I.ok.bsz I.sz
 noex:=fun b o e hb=>by
  rcases (hf b hb).2.2.2.1 with z|z
  ·exact I.ok.noex b o e z
  ·exact absurd (Nat.lt_of_lt_of_le (Heap.lt_size (I.ok.bs b o e).1) z) (Nat.lt_irrefl _)
 exfs:=fun b hb z=>by
  rcases List.mem_cons.mp (I.stkSub b z) with e|e
  ·exact (hf b hb).2.1 e
  ·exact (hf b hb).2.2.1 e
 funs:=I.stack
 frf:=I.stkFree
theorem Ev_ {c:Caps}{C:Addr}{s4:Shared}{m:Str->Option Value}(I:Inv X pins σ H s)(S:BlkSc X sc)(hc:Ln X.N sc c)(hC:s.heap.objs.size<=C)(hf:∀b∈fp,FpOk X pins H b)(ho:∀b∈fp,∃o,s.heap.get? b=some o)
  (hos:s4.os=s.os) (hb:s4.gens=s.gens) (hk:∀b o,s.heap.get? b=some o->s4.heap.get? b=some o) (hn:s4.heap.Ns C m):Inv (X.blk c.names sc C s H fp) [] (c.st σ) H s4 where
 ok:=JC_ I S hC hf ho
 os:=hos
 bare:=by rw[hb];exact I.bare
 base:=Un.kept hk
 loc:=by
  refine⟨m,hn,fun i x v h1 h2 hv=>?_⟩
  have h1':(c.map (·.1))[i]?=some x:=h1
  have h2':(c.map fun p=>p.2.bind fun j=>(σ[j]?).join)[i]?=some (some v):=h2
  rw[List.getElem?_map]at h1' h2'
  cases e:c[i]? with
  |none=>rw[e]at h1';cases h1'
  |some p=>
   obtain⟨y,oj⟩:=p
   rw[e]at h1' h2'
   have e1:y=x:=Option.some.inj h1'
   subst e1
   have e2:(oj.bind fun j=>(σ[j]?).join)=some v:=Option.some.inj h2'
   cases oj with
   |none=>cases e2
   |some j=>
    have e3:(σ[j]?).join=some v:=e2
    have e4:σ[j]?=some (some v):=by
     cases q:σ[j]? with
     |none=>rw[q]at e3;cases e3
     |some z=>rw[q]at e3;exact congrArg some e3
    obtain⟨k1,k2⟩:=Ln.get hc e
    have k3:X.env.kindOf y=some .cell\/X.env.kindOf y=some .free:=S.free (y,.free) (PySem.mem_of_lookup k2) rfl
    have vis:Vis X.env.scope y:=by
     rcases k3 with k|k
     ·exact .inr (.inl k)
     ·exact .inr (.inr k)
    obtain⟨mX,hnX,hl⟩:=I.loc
    obtain⟨u,r,l⟩:=hl j y v k1 e4 vis
    refine⟨u,r,?_⟩
    rcases l with ⟨k,_⟩|⟨_,ca,hca,z⟩
    ·rcases k3 with k' | k'<;>(rw[k]at k';cases k')
    ·obtain⟨kd,hkd,ek⟩:=Rt (env:=X.env) k2
     have hk2:(compEnvC sc (clOf X.env sc.names []) C X.env).kindOf y=some kd:=ek
     obtain⟨c',hc'⟩:=Sw (env:=X.env) sc.names [] y (.inl (PySem.mem_of_lookup k2))
     obtain⟨c2,hc2⟩:=Gr hc'
     have e5:=F5 I S hc2
     rw[hca]at e5
     have e6:ca=c2:=Option.some.inj e5
     subst e6
     refine .inr ⟨?_,ca,hc2,?_⟩
     ·rcases hkd with rfl|rfl
      ·exact .inl hk2
      ·exact .inr hk2
     ·obtain⟨oc,hoc,hd⟩:=z
      exact⟨oc,hk _ _ hoc,hd⟩
 cell:=fun x ca h=>by
  obtain⟨v,oc,hoc,hd⟩:=I.cell x ca (F5 I S h)
  exact⟨v,oc,hk _ _ hoc,hd⟩
 free:=I.hok.fresh hC
 freeC:=fun x ca h=>I.freeC x ca (F5 I S h)
 pin:=fun p hp=>absurd (show p∈([]:List (Addr×Obj)) from hp) (by simp)
 hok:=I.hok.kept hk
 len:=by show (c.map _).length=(c.map _).length;rw[List.length_map,List.length_map]
theorem HOk.track       (x:HOk P w H h)(hn:H a=none)(new:C4 P w (upd H a o) h a o):HOk P w (upd H a o) h:=fun b u e=>by
 by_cases hb:b=a
 ·subst hb;rw[Ae]at e;cases e;exact new
 ·rw[Ah hb]at e
  exact (x b u e).stay (fun c v _ q=>q) (fun c q=>by rw[Ah (B8 q hn)];exact q) fun c xs q=>by rw[Ah (B8 q hn)];exact q
theorem Un.track {fs ex:List Addr}{H H':Hp}{h h':Heap}{a:Addr}{o:HO}(u:Un fs ex H H' h h')(ha:h.objs.size<=a)(hn:H' a=none):Un fs ex H (upd H' a o) h h' where
 keep:=u.keep
 slot:=u.slot
 free:=fun b ob q n hx=>by rw[Ah (Nat.ne_of_lt (Nat.lt_of_lt_of_le (Heap.lt_size q) ha))];exact u.free b ob q n hx
 there:=u.there
 tups:=fun b xs q=>by rw[Ah (B8 (u.tups b xs q) hn)];exact u.tups b xs q
 frzs:=fun b ob xs q=>by rw[Ah (B8 (u.frzs b ob xs q) hn)];exact u.frzs b ob xs q
 tbls:=fun b ps q=>by
  obtain⟨more,e⟩:=u.tbls b ps q
  exact⟨more,by rw[Ah (B8 e hn)];exact e⟩
theorem Iq_ {c:Caps}{C D:Addr}{s':Shared}{σ':St}{H':Hp}{o:HO}(I:Inv X pins σ H s)(J:Inv (X.blk c.names sc C s H fp) [] σ' H' s')(hf:∀b∈fp,FpOk X pins H b)(hD:s.heap.objs.size<=D)(hn:H' D=none)
  (new:C4 X.prog X.w (upd H' D o) s'.heap D o):Inv X pins σ (upd H' D o) s':=by
 have u:Un (frs X.stack) fp H H' s.heap s'.heap:=J.base
 exact I.call' J.os (u.track hD hn) (J.hok.track hn new) J.bare fun b hb=>⟨(hf b hb).2.2.2.1,(hf b hb).2.1,(hf b hb).2.2.2.2.1,(hf b hb).2.2.2.2.2⟩
end
def PF (X:Cx)(ifs:List Expr)(t:TT):Prop:=
 ∀(pins:List (Addr×Obj)) (s:Shared) (σ:St) (H:Hp) (Q:Bool->Hp->Prop),Inv X pins σ H s->t σ H Q ->
  wpAny (model X.prog X.w) X.A (forIn ifs true fun c r=>if r=true then do let ok <- isTrue c X.env (eval c X.env);pure (ForInStep.yield ok) else pure (ForInStep.yield r)) (TP X pins σ Q) X.xe s
def Ir_:TT:=fun _ H Q=>Q true H
theorem OF  : PF X [] Ir_:=fun _ _ _ H _ I h=>wpAny_tests_nil ⟨H,I,h⟩
def Is_ (wi:TI)(cp:Caps)(g:TG)(tc:TT)(te:TE):TE:=fun σ H Q=>wi σ H fun J H1=>∃W:Nat->Nat->List V->St->Hp->Prop,(∃m,W 0 m [] (cp.st σ) H1)/\∀i m ys σ' H',W i m ys σ' H' ->
 ys.length<sizeLine/\((J.stop i H'/\∀D,H' D=none->Q (.ref D) (upd H' D (.lst ys)))\/(J.go i H'/\∃N:List V->St->Hp->Prop,(∀zs σ2 H2,N zs σ2 H2->∃m',m'<m/\W (i+1) m' zs σ2 H2)/\∀x H2,J.yld i H' x H2->g x σ' H2 fun σ2 H3=>tc σ2 H3 fun b H4=>
  if b=true then te σ2 H4 fun v H5=>N (ys++[v]) σ2 H5 else N ys σ2 H4))
section
variable {X:Cx} {tg iter elt:Expr} {ifs:List Expr} {sc:Scope} {pos:Pos} {wi:TI} {cp:Caps} {g:TG} {tc:TT} {te:TE}
theorem YV (hc:X.calm=true)(S:BlkSc X sc)(hcp:Ln X.N sc cp)
  (hg:∀C s₀ H₀ ex,PG (X.blk cp.names sc C s₀ H₀ ex) tg g) (hf:∀C s₀ H₀ ex,PF (X.blk cp.names sc C s₀ H₀ ex) ifs tc) (he:∀C s₀ H₀ ex,PE (X.blk cp.names sc C s₀ H₀ ex) elt te)
  {pins:List (Addr×Obj)} {σ:St} {H:Hp} {s:Shared} {J:It} {it:Addr} {fp:List Addr} {tn:Nat->Heap->Prop} {Q:VK} {RR:Value->Addr->Result->Shared->Prop} {E:Value->Shared->Prop}
  (I:Inv X pins σ H s) (T:Turn X.prog X.w X.K tg J fp it tn) (st:tn 0 s.heap) (fpo:∀b∈fp,FpOk X pins H b)
  (hw:∃W:Nat->Nat->List V->St->Hp->Prop,(∃m,W 0 m [] (cp.st σ) H)/\∀i m ys σ' H',W i m ys σ' H' ->
   ys.length<sizeLine/\((J.stop i H'/\∀D,H' D=none->Q (.ref D) (upd H' D (.lst ys)))\/(J.go i H'/\∃N:List V->St->Hp->Prop,(∀zs σ2 H2,N zs σ2 H2->∃m',m'<m/\W (i+1) m' zs σ2 H2)/\∀x H2,J.yld i H' x H2->g x σ' H2 fun σ2 H3=>tc σ2 H3 fun b H4=>
    if b=true then te σ2 H4 fun v H5=>N (ys++[v]) σ2 H5 else N ys σ2 H4)))
  (hR:∀D C s' H' (m:Str->Option Value),Inv X pins σ H' s'->Q (.ref D) H'->s'.heap.Ns C m->H' C=none->C≠X.env.locals->X.s₀.heap.objs.size<=C->(∀x c,X.env.cells.lookup x=some c->c≠C)->(∀p∈X.pn++pins,p.1≠C)->RR (.ref D) C (.ok .next) s'):
  wpAny (model X.prog X.w) X.A (newList []) (fun acc s₃=>wpAny (model X.prog X.w) X.A (newFunctionEnv sc X.env.globals (clOf X.env sc.names []) [] X.env.qual none .none (some X.env)) (fun cenv s₄=>
   codeAny (model X.prog X.w) X.A (.compStart (.ListComp elt [⟨tg,iter,ifs,0⟩] sc pos) 0 (.ref it) acc {cenv with scope:=relabel sc X.env}) (RR acc cenv.locals) s₄) E s₃) E s:=by
 obtain⟨W,⟨m0,w0⟩,turn⟩:=hw
 refine wpAny_newObj_type (wpAny_newFunctionEnv S.nocell (by intro y hy;simp at hy) (fun h₁ hns₁ hsb₁=>?_) S.kind)
 dsimp only at hns₁ hsb₁ ⊢
 generalize hH2:s.heap.push {cls:=.type "list",dict:=none,data:=.seq ([]:List Value).toArray}=H2 at hns₁ hsb₁ ⊢
 have hC:H2.objs.size=s.heap.objs.size+1:=by rw[<-hH2,Heap.size_push]
 have hDC:s.heap.objs.size≠H2.objs.size:=by rw[hC];exact Nat.ne_of_lt (Nat.lt_succ_self _)
 have hCle:s.heap.objs.size<=H2.objs.size:=by rw[hC];exact Nat.le_succ _
 have below:∀b,b<s.heap.objs.size->b≠H2.objs.size:=fun b hb=>by rw[hC];exact Nat.ne_of_lt (Nat.lt_succ_of_lt hb)
 have old:∀b o,s.heap.get? b=some o->h₁.get? b=some o:=fun b o e=>hsb₁.extBut b o (below b (Heap.lt_size e)) (Heap.get?_push_of_some _ (hH2 ▸ Heap.get?_push_of_some _ e))
 have hacc:h₁.get? s.heap.objs.size=some {cls:=.type "list",data:=.seq ([]:List Value).toArray 0}:=hsb₁.extBut _ _ hDC (Heap.get?_push_of_some _ (hH2 ▸ Heap.get?_push_size _ rfl))
 have hst₁:tn 0 h₁:=T.keep 0 _ _ st fun b _ o e=>old b o e
 have hobj:∀b∈fp,∃o,s.heap.get? b=some o:=fun b hb=>let ⟨o,e,_⟩:=T.obj 0 _ st b hb;⟨o,e⟩
 have J0:Inv (X.blk cp.names sc H2.objs.size s H fp) [] (cp.st σ) H {s with heap:=h₁,toks:=s.toks+([]:List (Str×Value)).length}:=Ev_ I S hcp hCle fpo hobj rfl rfl old hns₁
 have nfs:∀b,s.heap.objs.size<=b->b∉frs X.stack:=fun b hb z=>by
  rcases List.mem_cons.mp (I.stkSub b z) with e|e
  ·exact absurd (Nat.lt_of_lt_of_le I.lt (by rw[<-e];exact hb)) (Nat.lt_irrefl _)
  ·exact I.nofs hb e
 have ncell:∀b,s.heap.objs.size<=b->∀x c,X.env.cells.lookup x=some c->c≠b:=fun b hb x c e z=>by
  obtain⟨v,q⟩:=I.cell x c e
  exact absurd (Nat.lt_of_lt_of_le q.lt (by rw[z];exact hb)) (Nat.lt_irrefl _)
 have fpb:∀{pins':List (Addr×Obj)} {H':Hp},(∀b∈fp,H' b=none)->(∀p∈pins',p.1∉fp)->∀b∈fp,FpOk (X.blk cp.names sc H2.objs.size s H fp) pins' H' b:=fun {pins' H'} hn hp b hb=>by
  obtain⟨o,e⟩:=hobj b hb
  refine⟨hn b hb,below b (Heap.lt_size e),fun z=>?_,.inl hb,fun x c h=>(fpo b hb).2.2.2.2.1 x c (F5 I S h),fun p hp' z=>?_⟩
  ·rcases List.mem_cons.mp (I.stkSub b z) with e|e
   ·exact (fpo b hb).2.1 e
   ·exact (fpo b hb).2.2.1 e
  ·have hp'':p∈pins':=by simpa using hp'
   exact hp p hp'' (by rw[z];exact hb)
 have loop:∀s₃:Shared,s₃={s with heap:=h₁,toks:=s.toks+([]:List (Str×Value)).length} ->
   codeAny (model X.prog X.w) X.A (.compLoop (.ListComp elt [⟨tg,iter,ifs,0⟩] sc pos) 0 (.ref it) (.ref s.heap.objs.size) (compEnvC sc (clOf X.env sc.names []) H2.objs.size X.env))
    (RR (.ref s.heap.objs.size) H2.objs.size) s₃:=by
  rintro s₃ rfl
  refine YU (fun n s'=>∃i σ' H' ys its k,Inv (X.blk cp.names sc H2.objs.size s H fp) [] σ' H' s'/\tn i s'.heap/\(∀b∈fp,H' b=none)/\H' s.heap.objs.size=none /\
   s'.heap.get? s.heap.objs.size=some {cls:=.type "list",data:=.seq its.toArray k}/\Vals ys its/\W i n ys σ' H') ?_ m0
   ⟨0,_,H,[],[],0,J0,hst₁,fun b hb=>(fpo b hb).1,I.hok.fresh (Nat.le_refl _),hacc,.nil,w0⟩
  rintro n s3 ⟨i,σ3,H3,ys,its,k,I3,st3,fr3,hD3,e3,rv,w3⟩
  obtain⟨hz,tr⟩:=turn i n ys σ3 H3 w3
  have hlen:=rv.length
  -- the accumulator stands still while anything else runs
  have dpin:∀p ∈ [(s.heap.objs.size,({cls:=.type "list",data:=.seq its.toArray k}:Obj))],p.1∉fp:=fun p hp z=>by
   have e:p=_:=List.mem_singleton.mp hp
   subst e
   obtain⟨o,e⟩:=hobj _ z
   exact absurd (Heap.lt_size e) (Nat.lt_irrefl _)
  have I3':Inv (X.blk cp.names sc H2.objs.size s H fp) [(s.heap.objs.size,({cls:=.type "list",data:=.seq its.toArray k}:Obj))] σ3 H3 s3:=I3.pins_of fun p hp=>by
   have e:p=_:=List.mem_singleton.mp hp
   subst e
   exact⟨e3,hD3,hDC,nfs _ (Nat.le_refl _),fun v z=>by cases z⟩
  have stat:∀b∈fp,FpOk (X.blk cp.names sc H2.objs.size s H fp) [(s.heap.objs.size,({cls:=.type "list",data:=.seq its.toArray k}:Obj))] H3 b:=fpb fr3 dpin
  rcases tr with ⟨stop,qn⟩|⟨go,N,hN,step⟩
  ·refine thn (T.done (X.blk cp.names sc H2.objs.size s H fp) rfl rfl rfl hc i _ s3 σ3 H3 _ I3' stat st3 stop) fun r s4 ⟨hr,I4⟩=>?_
   subst hr
   obtain⟨e4,n4,_⟩:=I4.pin (s.heap.objs.size,({cls:=.type "list",data:=.seq its.toArray k}:Obj)) (by simp)
   have new:C4 X.prog X.w (upd H3 s.heap.objs.size (.lst ys)) s4.heap s.heap.objs.size (.lst ys):=⟨Nat.le_of_lt hz,its,k,rv,e4⟩
   obtain⟨mC,hnC,_⟩:=I4.loc
   have I4':Inv (X.blk cp.names sc H2.objs.size s H fp) [] σ3 H3 s4:=I4.pins_of fun p hp=>by cases hp
   have I5:=Iq_ I I4' fpo (Nat.le_refl _) n4 new
   refine hR _ _ s4 _ mC I5 (qn _ n4) hnC ?_ (Nat.ne_of_gt (Nat.lt_of_lt_of_le I.lt hCle)) (Nat.le_trans I.sz hCle) (ncell _ hCle) fun p hp z=>?_
   ·rw[Ah (Ne.symm hDC)];exact I4.free
   ·exact absurd (Nat.lt_of_lt_of_le (Heap.lt_size (I.pin p hp).1) (by rw[z];exact hCle)) (Nat.lt_irrefl _)
  ·refine thn (T.item (X.blk cp.names sc H2.objs.size s H fp) rfl rfl rfl hc i _ s3 σ3 H3 _ I3' stat st3 go) fun r s4 ⟨u,hr,h4⟩=>?_
   subst hr
   refine thn h4 fun _ s5 ⟨x,H5,I5,r5,y5,st5,fr5⟩=>?_
   have I5':=I5.pinned (fpb fr5 dpin) (T.obj _ _ st5)
   have fin:∀{σ7:St} {H7:Hp} {s7:Shared},Inv (X.blk cp.names sc H2.objs.size s H fp) ([(s.heap.objs.size,({cls:=.type "list",data:=.seq its.toArray k}:Obj))]++YI fp s5.heap) σ7 H7 s7 ->
     s7.heap.get? s.heap.objs.size=some {cls:=.type "list",data:=.seq its.toArray k}/\H7 s.heap.objs.size=none/\(∀b∈fp,H7 b=none)/\∀b∈fp,∀o,s5.heap.get? b=some o->s7.heap.get? b=some o:=fun {σ7 H7 s7} I7=>by
    obtain⟨e7,n7,_⟩:=I7.pin (s.heap.objs.size,({cls:=.type "list",data:=.seq its.toArray k}:Obj)) (by simp)
    refine⟨e7,n7,fun b hb=>?_,fun b hb o e=>?_⟩
    ·obtain⟨o,e,_⟩:=T.obj _ _ st5 b hb
     exact (I7.pin (b,o) (List.mem_append_right _ (List.mem_append_right _ (MZ hb e)))).2.1
    ·exact (I7.pin (b,o) (List.mem_append_right _ (List.mem_append_right _ (MZ hb e)))).1
   refine wpAny_mono (hg _ _ _ _ _ s5 σ3 H5 x u _ I5' r5 (step x H5 y5)) (fun _ s6 ⟨σ6,H6,I6,q6⟩=>?_) fun _ _ z=>False.elim z
   refine wpAny_mono (hf _ _ _ _ _ s6 σ6 H6 _ I6 q6) (fun ok s7 ⟨H7,I7,q7⟩=>?_) fun _ _ z=>False.elim z
   cases ok with
   |false=>
    rw[if_neg Bool.false_ne_true]
    rw[if_neg Bool.false_ne_true]at q7
    obtain⟨m',hm,w7⟩:=hN _ _ _ q7
    obtain⟨e7,n7,fr7,k7⟩:=fin I7
    exact⟨m',hm,i+1,σ6,H7,ys,its,k,I7.pins_of (fun p hp=>by cases hp),T.keep _ _ _ st5 k7,fr7,n7,e7,rv,w7⟩
   |true=>
    rw[if_pos rfl]
    rw[if_pos rfl]at q7
    refine wpAny_mono (he _ _ _ _ _ s7 σ6 H7 _ I7 q7) (fun v s8 ⟨y,H8,I8,r8,q8⟩=>?_) fun _ _ z=>False.elim z
    obtain⟨m',hm,w8⟩:=hN _ _ _ q8
    obtain⟨e8,n8,fr8,k8⟩:=fin I8
    refine call_meets F.slot_list_append ⟨_,e8,rfl⟩ F.entry_list_append (F.args_list_append_2 _ _) (PySem.list_append s.heap.objs.size its.toArray k v (by rw[List.size_toArray];omega)) ⟨e8,?_⟩
    obtain⟨k',q⟩:∃k',(s8.heap.update s.heap.objs.size (Obj.mapSeq fun x=>x.push v)).get? s.heap.objs.size=some {cls:=.type "list",data:=.seq (its++[v]).toArray k' }:=⟨_,by
     have q:=PySem.IsL.update e8 fun x=>x.push v
     have e:(its++[v]).toArray=its.toArray.push v:=by simp
     rw[e]
     exact q⟩
    have I8':Inv (X.blk cp.names sc H2.objs.size s H fp) [] σ6 H8 s8:=I8.pins_of fun p hp=>by cases hp
    have I9:Inv (X.blk cp.names sc H2.objs.size s H fp) [] σ6 H8 {s8 with heap:=s8.heap.update s.heap.objs.size (Obj.mapSeq fun x=>x.push v),toks:=s8.toks}:=
     I8'.turned (it:=s.heap.objs.size) (fun b o hb e=>(Heap.get?_update_other _ _ (Ne.symm hb)).trans e) n8 hDC (.inr (Nat.le_refl _)) (fun x c e=>ncell _ (Nat.le_refl _) x c (F5 I S e)) (fun p hp=>by cases hp)
    refine⟨m',hm,i+1,σ6,H8,ys++[y],its++[v],k',I9,T.keep (i+1) s5.heap _ st5 (fun b hb o e=>?_),fr8,n8,q,rv.append (.cons r8 .nil),w8⟩
    ·refine (Heap.get?_update_other _ _ ?_).trans (k8 b hb o e)
     intro z
     obtain⟨ob,eb⟩:=hobj b hb
     exact absurd (Heap.lt_size eb) (by rw[<-z];exact Nat.lt_irrefl _)
 exact codeAny_compStart_list (loop _ rfl) (T.self _ 0 _ _ _ hst₁ (loop _ rfl))
theorem Lo (hc:X.calm=true)(S:BlkSc X sc)(hcp:Ln X.N sc cp)(hi:PI X tg iter wi)
  (hg:∀C s₀ H₀ ex,PG (X.blk cp.names sc C s₀ H₀ ex) tg g) (hf:∀C s₀ H₀ ex,PF (X.blk cp.names sc C s₀ H₀ ex) ifs tc) (he:∀C s₀ H₀ ex,PE (X.blk cp.names sc C s₀ H₀ ex) elt te)
  (hs:∀x,foldedSetIterable iter X.env x=pure x:=by intro _;rfl):PE X (.ListComp elt [⟨tg,iter,ifs,0⟩] sc pos) (Is_ wi cp g tc te):=by
 intro pins s σ H Q I h
 rw[eval_ListComp]
 refine wpAny_comprehension_free (use:=none) rfl hs (Wa (S0 I S)) S.kind S.loc (thn (hi pins s σ H _ I h) fun xv s₁ h₁=>thn h₁ fun itv s₂ h₂=>?_)
 obtain⟨it,fp,tn,J,H2,e,I2,T,st2,f2,hw⟩:=h₂
 subst e
 refine YV (RR:=fun acc C=>compPost (model X.prog X.w) X.A X.xe none (EP X pins σ Q) acc C) hc S hcp hg hf he I2 T st2 f2 hw ?_
 intro D C s' H' m I' q hn hC hL hz hcl hp
 exact⟨m,hn,fun h' hs'=>⟨.ref D,H',I'.turned (t':=s'.toks) (it:=C) (fun b o hb e=>hs'.extBut b o hb e) hC hL (.inr hz) hcl hp,rfl,q⟩⟩
theorem It_    (hN:X.N.Nodup)(hi:X.N[i]?=some x)(hx:X.env.scope.names.lookup x=some .local)(hc:X.calm=true)(S:BlkSc X sc)(hcp:Ln X.N sc cp)(hit:PI X tg iter wi)
  (hg:∀C s₀ H₀ ex,PG (X.blk cp.names sc C s₀ H₀ ex) tg g) (hf:∀C s₀ H₀ ex,PF (X.blk cp.names sc C s₀ H₀ ex) ifs tc) (he:∀C s₀ H₀ ex,PE (X.blk cp.names sc C s₀ H₀ ex) elt te)
  (hsw:swapsWith (.ListComp elt [⟨tg,iter,ifs,0⟩] sc pos) (some (.Name x px)) spos.line X.env=pure true:=by rfl)
  (hs:∀x,foldedSetIterable iter X.env x=pure x:=by intro _;rfl):PS X (.Assign [.Name x px] (.ListComp elt [⟨tg,iter,ifs,0⟩] sc pos) spos) (tAsg (Is_ wi cp g tc te) (AJ_ i)):=by
 intro pins s σ H D I h
 rw[exec_Assign_Name_used _ _ _ _ hsw]
 refine wpAny_bind (wpAny_standAt (wpAny_bind ?_))
 show wpAny _ X.A (do let _ <- comprehension (.ListComp elt [⟨tg,iter,ifs,0⟩] sc pos) sc X.env _ (newList []) false (eval iter X.env) (some (assign (.Name x px) X.env))) _ _ s
 refine wpAny_bind (wpAny_mono (wpAny_comprehension_free (use:=some (assign (.Name x px) X.env)) (Q:=fun _ s'=>SP X pins D .next s') rfl hs (Wa (S0 I S)) S.kind S.loc
  (thn (hit pins s σ H _ I h) fun xv s₁ h₁=>thn h₁ fun itv s₂ h₂=>?_)) (fun _ s' hq=>wpAny_pure (wpAny_pure hq)) fun _ _ e=>e)
 obtain⟨it,fp,tn,J,H2,e,I2,T,st2,f2,hw⟩:=h₂
 subst e
 refine YV (RR:=fun acc C=>compPost (model X.prog X.w) X.A X.xe (some (assign (.Name x px) X.env)) (fun _ s'=>SP X pins D .next s') acc C) (Q:=fun v H1=>AJ_ i v σ H1 D.nx) hc S hcp hg hf he I2 T st2 f2 hw ?_
 intro Dl C s' H' m I' q hn hC hL hz hcl hp
 show wpAny _ X.A (assign (.Name x px) X.env (.ref Dl)) _ _ _
 refine wpAny_assign_Name (YG I' hN hi (.inl hx) (v:=.ref Dl) rfl (fun s'' I'' ⟨a,hsb,ha⟩=>?_) (.inr hx))
 have hne:C≠a:=by
  rcases ha with rfl|ha
  ·exact hL
  ·exact fun z=>hcl _ _ ha z.symm
 refine⟨m,hn.sameBut hsb hne,fun h' hs'=>⟨_,H',I''.turned (t':=s''.toks) (it:=C) (fun b o hb e=>hs'.extBut b o hb e) hC hL (.inr hz) hcl hp,q⟩⟩
end
theorem Ew_ {K:PySem.W.Frag}{a:Addr}{xs:List V}{g:TG}{tc:TT}{te:TE}{Q:VK}{σ:St}{H:Hp}(Pv:Nat->List V->St->Hp->Prop)(h0:Pv 0 [] σ H)(hz:xs.length<sizeLine)
  (hl:∀i ys σ H,i<=xs.length->Pv i ys σ H->SqL K H a xs/\ys.length<=i)
  (hs:∀i x ys σ H,xs[i]?=some x->Pv i ys σ H->g x σ H fun σ2 H2=>tc σ2 H2 fun b H3=>if b=true then te σ2 H3 fun v H4=>Pv (i+1) (ys++[v]) σ2 H4 else Pv (i+1) ys σ2 H3)
  (hd:∀ys σ H,Pv xs.length ys σ H->∀D,H D=none->Q (.ref D) (upd H D (.lst ys))):
  ∃W:Nat->Nat->List V->St->Hp->Prop,(∃m,W 0 m [] σ H)/\∀i m ys σ' H',W i m ys σ' H' ->
   ys.length<sizeLine/\(((Itl K a).stop i H'/\∀D,H' D=none->Q (.ref D) (upd H' D (.lst ys)))\/((Itl K a).go i H'/\∃N:List V->St->Hp->Prop,(∀zs σ2 H2,N zs σ2 H2->∃m',m'<m/\W (i+1) m' zs σ2 H2)/\∀x H2,(Itl K a).yld i H' x H2->g x σ' H2 fun σ2 H3=>tc σ2 H3 fun b H4=>
    if b=true then te σ2 H4 fun v H5=>N (ys++[v]) σ2 H5 else N ys σ2 H4)):=by
 refine⟨fun i m ys σ H=>m=xs.length-i/\i<=xs.length/\Pv i ys σ H,⟨xs.length,by simp,Nat.zero_le _,h0⟩,?_⟩
 rintro i m ys σ H ⟨rfl,hi,p⟩
 obtain⟨q,ly⟩:=hl i ys σ H hi p
 refine⟨by omega,?_⟩
 by_cases hlt:i<xs.length
 ·refine .inr ⟨⟨xs,xs[i],q,by simp[hlt]⟩,Pv (i+1),fun zs σ' H' p'=>⟨xs.length-(i+1),by omega,rfl,hlt,p'⟩,fun x H' y=>?_⟩
  obtain⟨e,y⟩:=y
  subst e
  exact hs i x ys σ _ (y xs q) p
 ·have e:i=xs.length:=by omega
  subst e
  exact .inl ⟨⟨xs,q,Nat.le_refl _⟩,hd ys σ H p⟩
theorem Gb_ {K:PySem.W.Frag}{a:Addr}{xs:List V}{g:TG}{tc:TT}{te:TE}{Q:VK}{σ:St}{H:Hp}(Pv:Nat->List V->St->Hp->Prop)(h0:Pv 0 [] σ H)(hz:xs.length<sizeLine)
  (hl:∀i ys σ H,i<=xs.length->Pv i ys σ H->SqT K H a xs/\ys.length<=i)
  (hs:∀i x ys σ H,xs[i]?=some x->Pv i ys σ H->g x σ H fun σ2 H2=>tc σ2 H2 fun b H3=>if b=true then te σ2 H3 fun v H4=>Pv (i+1) (ys++[v]) σ2 H4 else Pv (i+1) ys σ2 H3)
  (hd:∀ys σ H,Pv xs.length ys σ H->∀D,H D=none->Q (.ref D) (upd H D (.lst ys))):
  ∃W:Nat->Nat->List V->St->Hp->Prop,(∃m,W 0 m [] σ H)/\∀i m ys σ' H',W i m ys σ' H' ->
   ys.length<sizeLine/\(((Itt K a).stop i H'/\∀D,H' D=none->Q (.ref D) (upd H' D (.lst ys)))\/((Itt K a).go i H'/\∃N:List V->St->Hp->Prop,(∀zs σ2 H2,N zs σ2 H2->∃m',m'<m/\W (i+1) m' zs σ2 H2)/\∀x H2,(Itt K a).yld i H' x H2->g x σ' H2 fun σ2 H3=>tc σ2 H3 fun b H4=>
    if b=true then te σ2 H4 fun v H5=>N (ys++[v]) σ2 H5 else N ys σ2 H4)):=by
 refine⟨fun i m ys σ H=>m=xs.length-i/\i<=xs.length/\Pv i ys σ H,⟨xs.length,by simp,Nat.zero_le _,h0⟩,?_⟩
 rintro i m ys σ H ⟨rfl,hi,p⟩
 obtain⟨q,ly⟩:=hl i ys σ H hi p
 refine⟨by omega,?_⟩
 by_cases hlt:i<xs.length
 ·refine .inr ⟨⟨xs,xs[i],q,by simp[hlt]⟩,Pv (i+1),fun zs σ' H' p'=>⟨xs.length-(i+1),by omega,rfl,hlt,p'⟩,fun x H' y=>?_⟩
  obtain⟨e,y⟩:=y
  subst e
  exact hs i x ys σ _ (y xs q) p
 ·have e:i=xs.length:=by omega
  subst e
  exact .inl ⟨⟨xs,q,Nat.le_refl _⟩,hd ys σ H p⟩
theorem Dd_ {lo:Int}{n:Nat}{g:TG}{tc:TT}{te:TE}{Q:VK}{σ:St}{H:Hp}(Pv:Nat->List V->St->Hp->Prop)(h0:Pv 0 [] σ H)(hz:n<sizeLine)
  (hl:∀i ys σ H,i<=n->Pv i ys σ H->ys.length<=i)
  (hs:∀i ys σ H,i<n->Pv i ys σ H->g (.int (lo+i)) σ H fun σ2 H2=>tc σ2 H2 fun b H3=>if b=true then te σ2 H3 fun v H4=>Pv (i+1) (ys++[v]) σ2 H4 else Pv (i+1) ys σ2 H3)
  (hd:∀ys σ H,Pv n ys σ H->∀D,H D=none->Q (.ref D) (upd H D (.lst ys))):
  ∃W:Nat->Nat->List V->St->Hp->Prop,(∃m,W 0 m [] σ H)/\∀i m ys σ' H',W i m ys σ' H' ->
   ys.length<sizeLine/\(((Itr lo n).stop i H'/\∀D,H' D=none->Q (.ref D) (upd H' D (.lst ys)))\/((Itr lo n).go i H'/\∃N:List V->St->Hp->Prop,(∀zs σ2 H2,N zs σ2 H2->∃m',m'<m/\W (i+1) m' zs σ2 H2)/\∀x H2,(Itr lo n).yld i H' x H2->g x σ' H2 fun σ2 H3=>tc σ2 H3 fun b H4=>
    if b=true then te σ2 H4 fun v H5=>N (ys++[v]) σ2 H5 else N ys σ2 H4)):=by
 refine⟨fun i m ys σ H=>m=n-i/\i<=n/\Pv i ys σ H,⟨n,by simp,Nat.zero_le _,h0⟩,?_⟩
 rintro i m ys σ H ⟨rfl,hi,p⟩
 have ly:=hl i ys σ H hi p
 refine⟨by omega,?_⟩
 by_cases hlt:i<n
 ·refine .inr ⟨hlt,Pv (i+1),fun zs σ' H' p'=>⟨n-(i+1),by omega,rfl,hlt,p'⟩,fun x H' y=>?_⟩
  obtain⟨e,y⟩:=y
  subst e y
  exact hs i ys σ _ hlt p
 ·have e:i=n:=by omega
  subst e
  exact .inl ⟨Nat.le_refl _,hd ys σ H p⟩
end L2
namespace L2
open PySem PySem.Spec PyProof.Rows
section
variable {X:Cx}
theorem WD {bs:List Bool}{its:List Value}(r:Vals (bs.map V.bl) its){i:Nat}{v:Value}(h:its[i]?=some v):∃b,bs[i]?=some b/\v=.bool b:=by
 have hi:i<its.length:=(List.getElem?_eq_some_iff.mp h).1
 have hl:=r.length
 rw[List.length_map]at hl
 obtain⟨u,hu,ru⟩:=r.get (i:=i) (x:=V.bl bs[i]) (by rw[List.getElem?_map];simp[show i<bs.length by omega])
 rw[h]at hu
 cases hu
 exact⟨bs[i],by simp[show i<bs.length by omega],ru⟩
theorem range_all {bs:List Bool}:(List.range bs.length).all (fun i=>bs.getD i false)=bs.all id:=by
 rw[Bool.eq_iff_iff,List.all_eq_true,List.all_eq_true]
 constructor
 ·intro h x hx
  obtain⟨i,hi,e⟩:=List.getElem_of_mem hx
  have:=h i (List.mem_range.mpr hi)
  rw[List.getD_eq_getElem?_getD]at this
  simp[hi]at this
  rw[e]at this
  exact this
 ·intro h i hi
  have hi:=List.mem_range.mp hi
  rw[List.getD_eq_getElem?_getD]
  simp[hi]
  exact h _ (List.getElem_mem hi)
theorem AR_ {bs:List Bool}{its:List Value}{A:Around}{P:Program}{w:World}(r:Vals (bs.map V.bl) its):TruthOf P w A (fun i v=>its.toArray[i]?=some v) (fun i=>bs.getD i false):=by
 intro i v s Q E hv hq
 obtain⟨b,hb,e⟩:=WD r (by simpa using hv)
 subst e
 refine wpAny_truthy_bool ?_
 have e:bs.getD i false=b:=by rw[List.getD_eq_getElem?_getD,hb];rfl
 have hq':Q (bs.getD i false) s:=hq
 rw[e]at hq'
 exact hq'
theorem Gc_ (hc:X.calm=true):NT X (.builtin "all") (fun xs H Q=>∃(p:Addr) (bs:List Bool),xs=[.ref p]/\SqL X.K H p (bs.map V.bl)/\Q (.bl (bs.all id)) H):=by
 intro pins s σ H xs us Q I r h
 obtain⟨p,bs,rfl,hq,q⟩:=h
 obtain⟨u,rfl,ru⟩:=vals1 r
 cases ru
 obtain⟨its,rv,pl,hz⟩:=I.list hq
 have hlen:=rv.length
 rw[List.length_map]at hlen
 have hh:X.A.in1.handled=none:=I.ok.hd hc
 obtain⟨o,ho,_⟩:=id pl.isList
 have hne:p≠s.heap.objs.size:=Nat.ne_of_lt (Heap.lt_size ho)
 refine call_all_walk (wpAny_pyIter_list pl.isList ?_)
 refine⟨s.heap.objs.size,_,_,its.toArray.size,_,_,fun i=>bs.getD i false,rfl,Walks.list hh _ p hne its.toArray,⟨⟨_,Heap.get?_push_size _ rfl,rfl,rfl⟩,pl.isList.at fun o e=>Heap.get?_push_of_some _ e⟩,AR_ rv,fun h' tk hk=>?_⟩
 refine⟨.bl (bs.all id),H,I.kept (t':=tk) fun b o e=>hk b o ?_ (Heap.get?_push_of_some _ e),?_,q⟩
 ·intro hb
  have e':b=s.heap.objs.size:=by simpa using hb
  exact absurd (Heap.lt_size e) (by rw[e'];exact Nat.lt_irrefl _)
 ·rw[List.size_toArray,<-hlen,range_all];rfl
theorem Iq:NT X (.builtin "isinstance") (fun xs H Q=>∃x c cv t b,xs=[x,c]/\TyOf X.K H x t/\(∀u,RelV c u->u=cv)/\PySem.W.kitOne X.K t cv=some b/\Q (.bl b) H):=by
 intro pins s σ H xs us Q I r h
 obtain⟨x,c,cv,t,b,rfl,ty,hc,hk,q⟩:=h
 obtain⟨u,w',rfl,rx,rc⟩:=vals2 r
 rw[hc _ rc]
 exact Ei_ I rx ty hk fun tk=>⟨.bl b,H,I.tok tk,rfl,q⟩
def EqD (K:PySem.W.Frag)(H:Hp):Nat->V->V->Bool->Prop
 |0,x,y,b=>Ww x=true/\Ww y=true/\b=eqV x y
 |n+1,x,y,b=>(Ww x=true/\Ww y=true/\b=eqV x y) \/ ∃a c xs ys,x=.ref a/\y=.ref c/\((SqL K H a xs/\SqL K H c ys)\/(SqT K H a xs/\SqT K H c ys)) /\
   ∃e:Nat->Bool,(∀i x y,xs[i]?=some x->ys[i]?=some y->EqD K H n x y (e i))/\b=(decide (xs.length=ys.length)&&(List.range (min xs.length ys.length)).all e)
theorem in1_units (A:Around):A.in1.units=A.units+1:=rfl
theorem Co_  (h:Ww x=true):eqV x x=true:=by
 cases x<;>first|rfl|(simp[eqV];done)|exact absurd (show false=true from h) Bool.false_ne_true
theorem EqD.self     (I:Inv X pins σ H s):∀(n:Nat) {x:V} {b:Bool},EqD X.K H n x x b->b=true:=by
 intro n
 induction n with
 |zero=>
  rintro x b ⟨fx,_,rfl⟩
  exact Co_ fx
 |succ n ih=>
  rintro x b (⟨fx,_,rfl⟩|⟨a,c,xs,ys,rfl,e2,hq,e,he,rfl⟩)
  ·exact Co_ fx
  ·cases e2
   have exy:xs=ys:=by
    rcases hq with ⟨h1,h2⟩|⟨h1,h2⟩
    ·exact I.list_inj h1 h2
    ·exact I.tuple_inj h1 h2
   subst exy
   simp only[decide_true,Bool.true_and,Nat.min_self,List.all_eq_true,List.mem_range]
   intro i hi
   exact ih (he i xs[i] xs[i] (by simp[hi]) (by simp[hi]))
theorem Ex_   : ((List.range (min n m)).all e&&n==m)=(decide (n=m)&&(List.range (min n m)).all e):=by
 rw[Bool.and_comm]
 congr 1
theorem EqD.at     (I:Inv X pins σ H s):∀(n:Nat) (A:Around) {x y:V} {u v:Value} {b:Bool},A.units+n<cLine->RelV x u->RelV y v->EqD X.K H n x y b ->
  SeqAt.EqAt A s u v b/\∀a c,x=.ref a->y=.ref c->SeqAt.RcAt A s u v b:=by
 intro n
 induction n with
 |zero=>
  intro A x y u v b hu rx ry h
  obtain⟨fx,fy,rfl⟩:=h
  refine⟨GX_ rx ry fx fy,?_⟩
  rintro a c rfl rfl
  exact absurd (show false=true from fx) Bool.false_ne_true
 |succ n ih=>
  intro A x y u v b hu rx ry h
  have hself:=h
  rcases h with ⟨fx,fy,rfl⟩|⟨a,c,xs,ys,rfl,rfl,hq,e,he,rfl⟩
  ·refine⟨GX_ rx ry fx fy,?_⟩
   rintro a c rfl rfl
   exact absurd (show false=true from fx) Bool.false_ne_true
  ·cases rx
   cases ry
   have key:∀(its its2:List Value),Vals xs its->Vals ys its2->∀j (h1:j<its.toArray.size) (h2:j<its2.toArray.size),SeqAt.EqAt A.in1 s its.toArray[j] its2.toArray[j] (e j):=fun its its2 r1 r2 j h1 h2=>by
    have l1:=r1.length
    have l2:=r2.length
    rw[List.size_toArray]at h1 h2
    obtain⟨u1,g1,q1⟩:=r1.get (i:=j) (x:=xs[j]'(by omega)) (by simp[show j<xs.length by omega])
    obtain⟨u2,g2,q2⟩:=r2.get (i:=j) (x:=ys[j]'(by omega)) (by simp[show j<ys.length by omega])
    have k1:its.toArray[j]'(by rw[List.size_toArray];exact h1)=u1:=by
     have:=(List.getElem?_eq_some_iff.mp g1).2
     simpa using this
    have k2:its2.toArray[j]'(by rw[List.size_toArray];exact h2)=u2:=by
     have:=(List.getElem?_eq_some_iff.mp g2).2
     simpa using this
    rw[k1,k2]
    exact (ih A.in1 (by rw[in1_units];omega) q1 q2 (he j _ _ (by simp[show j<xs.length by omega]) (by simp[show j<ys.length by omega]))).1
   have rc:SeqAt.RcAt A s (.ref a) (.ref c) (decide (xs.length=ys.length)&&(List.range (min xs.length ys.length)).all e):=by
    rcases hq with ⟨h1,h2⟩|⟨h1,h2⟩
    ·obtain⟨its,r1,p1,_⟩:=I.list h1
     obtain⟨its2,r2,p2,_⟩:=I.list h2
     have l1:=r1.length
     have l2:=r2.length
     by_cases hl:xs.length=ys.length
     ·have:=SeqAt.RcAt.lists (e:=e) p1.isList p2.isList (by rw[List.size_toArray,List.size_toArray];omega) (by omega) (key its its2 r1 r2)
      rw[List.size_toArray,<-l1]at this
      rw[decide_eq_true hl,Bool.true_and,<-hl,Nat.min_self]
      exact this
     ·rw[decide_eq_false hl,Bool.false_and]
      exact SeqAt.RcAt.lists_lengths p1.isList p2.isList (by rw[List.size_toArray,List.size_toArray];simp;omega) (by omega)
    ·obtain⟨its,r1,p1,_⟩:=I.tuple h1
     obtain⟨its2,r2,p2,_⟩:=I.tuple h2
     have l1:=r1.length
     have l2:=r2.length
     have:=SeqAt.RcAt.tuples (e:=e) (show s.heap.IsTuple a its.toArray from p1) (show s.heap.IsTuple c its2.toArray from p2) (by omega) (key its its2 r1 r2)
     rw[List.size_toArray,List.size_toArray,<-l1,<-l2,Ex_]at this
     exact this
   refine⟨?_,fun a' c' _ _=>rc⟩
   by_cases hac:a=c
   ·subst hac
    rw[EqD.self I (n+1) hself]
    exact SeqAt.EqAt.same _
   ·exact SeqAt.EqAt.of_refs hac rc
def rEqD (K:PySem.W.Frag)(n:Nat):R2:=fun x y H Q=>∃a c b,x=.ref a/\y=.ref c/\EqD K H n x y b/\Q (.bl b) H
theorem Hd_ (n:Nat)(hu:X.A.units+n<cLine):OpR X (compareOp .Eq) (rEqD X.K n):=by
 intro pins s σ H x y v u Q I rx ry h
 obtain⟨a,c,b,ex,ey,h,q⟩:=h
 exact (EqD.at I n X.A hu rx ry h).2 a c ex ey _ _ _ _ ⟨.bl b,H,I,rfl,q⟩
theorem EqD.flat {K:PySem.W.Frag}    (hq:(SqL K H a xs/\SqL K H c ys)\/(SqT K H a xs/\SqT K H c ys))(fx:∀x∈xs,Ww x=true)(fy:∀y∈ys,Ww y=true)(hi:∀x∈xs,∀y∈ys,eqV x y=decide (x=y))(n:Nat):
  EqD K H (n+1) (.ref a) (.ref c) (decide (xs=ys)):=by
 have base:∀m i x y,xs[i]?=some x->ys[i]?=some y->EqD K H m x y (decide (x=y)):=fun m i x y h1 h2=>by
  have m1:=List.mem_of_getElem? h1
  have m2:=List.mem_of_getElem? h2
  cases m with
  |zero=>exact⟨fx _ m1,fy _ m2,(hi _ m1 _ m2).symm⟩
  |succ m=>exact .inl ⟨fx _ m1,fy _ m2,(hi _ m1 _ m2).symm⟩
 refine .inr ⟨a,c,xs,ys,rfl,rfl,hq,fun i=>match xs[i]?,ys[i]? with|some x,some y=>decide (x=y)|_,_=>true,fun i x y h1 h2=>?_,?_⟩
 ·simp only[h1,h2]
  exact base n i x y h1 h2
 ·rw[Bool.eq_iff_iff]
  simp only[decide_eq_true_eq,Bool.and_eq_true,List.all_eq_true,List.mem_range]
  constructor
  ·rintro rfl
   refine⟨rfl,fun i hi=>?_⟩
   have hi:i<xs.length:=by omega
   simp[hi]
  ·rintro⟨hl,h⟩
   refine List.ext_getElem? fun i=>?_
   by_cases hi:i<xs.length
   ·have:=h i (by omega)
    simp[hi,show i<ys.length by omega]at this
    simp[hi,show i<ys.length by omega,this]
   ·rw[List.getElem?_eq_none (by omega),List.getElem?_eq_none (by omega)]
end
end L2
namespace L2
open PySem PySem.Spec PyProof.Rows
def JD_ (outer:List (Str×NameKind))(sc:Scope):Bool:=
 sc.kind == .function&&sc.names.all (fun y=>y.2 != .cell&&(y.2 != .local||sc.names.lookup y.1==some .local)&&(y.2 != .free||outer.lookup y.1==some .cell||outer.lookup y.1==some .free))
theorem OG   (h:JD_ X.env.scope.names sc=true):BlkSc X sc:=by
 unfold JD_ at h
 rw[Bool.and_eq_true,List.all_eq_true]at h
 obtain⟨h1,h2⟩:=h
 refine⟨by simpa using h1,fun y hy z=>?_,fun y hy z=>?_,fun y hy z=>?_⟩
 ·have:=h2 y hy
  simp only[Bool.and_eq_true]at this
  have:=this.1.1
  rw[z]at this
  exact absurd this (by decide)
 ·have:=h2 y hy
  simp only[Bool.and_eq_true]at this
  have:=this.1.2
  rw[z]at this
  simpa using this
 ·have:=h2 y hy
  simp only[Bool.and_eq_true]at this
  have:=this.2
  rw[z]at this
  have t:(X.env.scope.names.lookup y.1==some .cell||X.env.scope.names.lookup y.1==some .free)=true:=by simpa using this
  rw[Bool.or_eq_true]at t
  rcases t with t|t
  ·exact .inl (by show X.env.scope.names.lookup y.1=some .cell;simpa using t)
  ·exact .inr (by show X.env.scope.names.lookup y.1=some .free;simpa using t)
section
variable {t u:TS} {te ta tb tc':TE} {tt tu:TT} {A B:TA} {D:Ends} {σ:St} {H:Hp} {Q:VK} {R:Bool->Hp->Prop} {S:List V->Hp->Prop} {i:Nat} {v:V} {g:TG} {r r':R2} {K:PySem.W.Frag} {wi:TI} {cp:Caps}
theorem JE_:tSeq t u D σ H=t {D with nx:=u D} σ H:=rfl
theorem He_:Jl_ D σ H=D.nx σ H:=rfl
theorem JF_:tAsg te g D σ H=te σ H fun x H1=>g x σ H1 D.nx:=rfl
theorem Ey_  : AJ_ i v σ H N=N (σ.set i (some v)) H:=rfl
theorem JG_:tVar i σ H Q=∃v,σ[i]?=some (some v)/\Q v H:=rfl
theorem r_c:tC v σ H Q=Q v H:=rfl
theorem r_op:tOp r ta tb σ H Q=ta σ H fun x H1=>tb σ H1 fun y H2=>r x y H2 Q:=rfl
theorem r_un  : tUn f ta σ H Q=ta σ H fun x H1=>f x H1 Q:=rfl
theorem r_I    : rI C f x y H Q=∃i j,x=.int i/\y=.int j/\C i j/\Q (f i j) H:=rfl
theorem r_I0   : rI0 f x y H Q=∃i j,x=.int i/\y=.int j/\Q (f i j) H:=rfl
theorem r_U   : rU f x H Q=∃i,x=.int i/\Q (f i) H:=rfl
theorem Hf_    : Il_ sp dvs E A σ H Q=A σ H fun vs H1=>sp (vs++dvs) H1 Q E:=rfl
theorem Hg_:Jr_ te A σ H S=te σ H fun x H1=>A σ H1 fun xs H2=>S (x::xs) H2:=rfl
theorem JH_:tNil σ H S=S [] H:=rfl
theorem JI_:tRet te D σ H=te σ H D.rt:=rfl
theorem Hh_:Jm_ te D σ H=te σ H fun _ H1=>D.nx σ H1:=rfl
theorem r_if:tIfS tt t u D σ H=tt σ H fun b H1=>if b=true then t D σ H1 else u D σ H1:=rfl
theorem r_B:tB te σ H R=te σ H fun x H1=>∃c,x=.bl c/\R c H1:=rfl
theorem Hi_:FQ_ te σ H R=te σ H fun x H1=>∃c,x=.bl c/\R c H1:=rfl
theorem JJ_:tAnd tt tu σ H R=tt σ H fun c H1=>if c=true then tu σ H1 R else R false H1:=rfl
theorem r_or:tOr tt tu σ H R=tt σ H fun c H1=>if c=true then R true H1 else tu σ H1 R:=rfl
theorem JK_:tNot tt σ H R=tt σ H fun c H1=>R (!c) H1:=rfl
theorem Hj_:Ji_ ta tb σ H Q=ta σ H fun x H1=>∃c,x=.bl c/\if c=true then tb σ H1 Q else Q (.bl false) H1:=rfl
theorem Ez_:GW_ r r' ta tb tc' σ H Q=ta σ H fun x H1=>tb σ H1 fun y H2=>r x y H2 fun z H3=>∃k,z=.bl k/\(if k=true then tc' σ H3 fun w' H4=>r' y w' H4 Q else Q (.bl false) H3):=rfl
theorem r_CB  : tCB f A σ H Q=A σ H fun vs H1=>f vs H1 Q:=rfl
theorem JL_:tLst A σ H Q=A σ H fun xs H1=>xs.length<=sizeLine/\∀p,H1 p=none->Q (.ref p) (upd H1 p (.lst xs)):=rfl
theorem JM_:tTup A σ H Q=A σ H fun xs H1=>xs.length<=sizeLine/\∀p,H1 p=none->Q (.ref p) (upd H1 p (.tup xs)):=rfl
theorem JN_  : rIxL K x y H Q=∃p xs i v,x=.ref p/\y=.int i/\SqL K H p xs/\atI xs i=some v/\Q v H:=rfl
theorem JO_  : rIxT K x y H Q=∃p xs i v,x=.ref p/\y=.int i/\SqT K H p xs/\atI xs i=some v/\Q v H:=rfl
theorem r_sl   : tSl f te tl th σ H Q=te σ H fun x H1=>tl σ H1 fun l H2=>th σ H2 fun u H3=>f x l u H3 Q:=rfl
theorem Hk_  : Jv_ te σ H U=te σ H fun x H1=>∃i,x=.int i/\U (some i) H1:=rfl
theorem Cp_  : El_ σ H U=U none H:=rfl
theorem r_BM   : tBM K T f te A σ H Q=te σ H fun x H1=>tyV K T x H1/\A σ H1 fun xs H2=>f x xs H2 Q:=rfl
theorem Cq_   : Ep_ x vs H Q=∃l xs y,x=.ref l/\vs=[y]/\H l=some (.lst xs)/\xs.length<sizeLine/\Q .non (upd H l (.lst (xs++[y]))):=rfl
theorem r_Eq  : rEq x y H Q=(scal x y=true/\Q (.bl (decide (x=y))) H):=rfl
theorem r_Ne  : rNe x y H Q=(scal x y=true/\Q (.bl (!decide (x=y))) H):=rfl
theorem JP_   : rEqD K n x y H Q=∃a c b,x=.ref a/\y=.ref c/\EqD K H n x y b/\Q (.bl b) H:=rfl
theorem EA_  : Jo_ K te σ H Z=te σ H fun x H1=>∃a,x=.ref a/\(∃xs,SqL K H1 a xs)/\Z (Itl K a) H1:=rfl
theorem Hl_  : iTup K te σ H Z=te σ H fun x H1=>∃a,x=.ref a/\(∃xs,SqT K H1 a xs)/\Z (Itt K a) H1:=rfl
theorem EB_  : Jp_ A σ H Z=A σ H fun vs H1=>∃j:Int,vs=[.int j] /\ -(2 ^ 62)<=j/\j<2 ^ 62/\Z (Itr 0 j.toNat) H1:=rfl
theorem Hm_:Ir_ σ H R=R true H:=rfl
end
theorem Same.new    (h:H p=none):Same H (upd H p o):=fun b u e=>by rw[Ah (B8 e h)];exact e
theorem Same.newT    (s:Same H H')(h:H' p=none):Same H (upd H' p o):=s.trans (Same.new h)
theorem Same.over    (s:Same H H')(h:H p=none):Same H (upd H' p o):=fun b u e=>by rw[Ah (B8 e h)];exact s b u e
theorem AS_    (h:upd H p o D=none):H D=none/\D≠p:=by
 by_cases e:D=p
 ·subst e;rw[Ae]at h;cases h
 ·rw[Ah e]at h;exact⟨h,e⟩
theorem Same.seqT {K:PySem.W.Frag}    (e:Same H H')(h:SqT K H a xs):SqT K H' a xs:=by
 rcases h with (h|⟨o,h⟩)|h
 ·exact .inl (.inl (e _ _ h))
 ·exact .inl (.inr ⟨o,e _ _ h⟩)
 ·exact .inr h
theorem hu9   (hr:Room k A):A.units+8<cLine:=by have:=hr.units;omega
section
variable {K:PySem.W.Frag} {wi:TI} {cp:Caps} {g:TG} {tc:TT} {te:TE} {σ:St} {H:Hp} {Q:VK}
theorem JQ_               : (cxOf CX P w K mg base N qual scope f cd A outer s H E).K=K:=rfl
def De_ (J:It)(cp:Caps)(g:TG)(tc:TT)(te:TE)(σ:St)(H1:Hp)(Q:VK):Prop:=∃W:Nat->Nat->List V->St->Hp->Prop,(∃m,W 0 m [] (cp.st σ) H1)/\∀i m ys σ' H',W i m ys σ' H' ->
 ys.length<sizeLine/\((J.stop i H'/\∀D,H' D=none->Q (.ref D) (upd H' D (.lst ys)))\/(J.go i H'/\∃N:List V->St->Hp->Prop,(∀zs σ2 H2,N zs σ2 H2->∃m',m'<m/\W (i+1) m' zs σ2 H2)/\∀x H2,J.yld i H' x H2->g x σ' H2 fun σ2 H3=>tc σ2 H3 fun b H4=>
  if b=true then te σ2 H4 fun v H5=>N (ys++[v]) σ2 H5 else N ys σ2 H4))
theorem Hn_:Is_ wi cp g tc te σ H Q=wi σ H fun J H1=>De_ J cp g tc te σ H1 Q:=rfl
def ForW (J:It)(g:TG)(tb:TS)(D:Ends)(σ:St)(H1:Hp):Prop:=∃W:Nat->Nat->St->Hp->Prop,(∃m,W 0 m σ H1)/\∀i m σ H,W i m σ H ->
 (J.stop i H/\D.nx σ H)\/(J.go i H/\∃N:St->Hp->Prop,(∀σ' H',N σ' H'->∃m',m'<m/\W (i+1) m' σ' H')/\∀x H',J.yld i H x H'->g x σ H' fun σ2 H2=>tb {D with nx:=N,ct:=N,bk:=D.nx} σ2 H2)
theorem JR_   : tFor wi g tb D σ H=wi σ H fun J H1=>ForW J g tb D σ H1:=rfl
theorem forL        (Pv:Nat->St->Hp->Prop)(h0:Pv 0 σ H)(hl:∀i σ H,i<=xs.length->Pv i σ H->SqL K H a xs)
  (hs:∀i x σ H,xs[i]?=some x->Pv i σ H->g x σ H fun σ2 H2=>tb {D with nx:=Pv (i+1),ct:=Pv (i+1),bk:=D.nx} σ2 H2) (hd:∀σ H,Pv xs.length σ H->D.nx σ H):ForW (Itl K a) g tb D σ H:=FP_ Pv h0 hl hs hd
theorem forT        (Pv:Nat->St->Hp->Prop)(h0:Pv 0 σ H)(hl:∀i σ H,i<=xs.length->Pv i σ H->SqT K H a xs)
  (hs:∀i x σ H,xs[i]?=some x->Pv i σ H->g x σ H fun σ2 H2=>tb {D with nx:=Pv (i+1),ct:=Pv (i+1),bk:=D.nx} σ2 H2) (hd:∀σ H,Pv xs.length σ H->D.nx σ H):ForW (Itt K a) g tb D σ H:=Id_ Pv h0 hl hs hd
theorem forR {lo:Int}       (Pv:Nat->St->Hp->Prop)(h0:Pv 0 σ H)
  (hs:∀i σ H,i<n->Pv i σ H->g (.int (lo+i)) σ H fun σ2 H2=>tb {D with nx:=Pv (i+1),ct:=Pv (i+1),bk:=D.nx} σ2 H2) (hd:∀σ H,Pv n σ H->D.nx σ H):ForW (Itr lo n) g tb D σ H:=DY_ Pv h0 hs hd
theorem Gd_   (Pv:Nat->List V->St->Hp->Prop)(h0:Pv 0 [] (cp.st σ) H)(hz:xs.length<sizeLine)
  (hl:∀i ys σ H,i<=xs.length->Pv i ys σ H->SqL K H a xs/\ys.length<=i)
  (hs:∀i x ys σ H,xs[i]?=some x->Pv i ys σ H->g x σ H fun σ2 H2=>tc σ2 H2 fun b H3=>if b=true then te σ2 H3 fun v H4=>Pv (i+1) (ys++[v]) σ2 H4 else Pv (i+1) ys σ2 H3)
  (hd:∀ys σ H,Pv xs.length ys σ H->∀D,H D=none->Q (.ref D) (upd H D (.lst ys))):De_ (Itl K a) cp g tc te σ H Q:=Ew_ Pv h0 hz hl hs hd
theorem KH_   (Pv:Nat->List V->St->Hp->Prop)(h0:Pv 0 [] (cp.st σ) H)(hz:xs.length<sizeLine)
  (hl:∀i ys σ H,i<=xs.length->Pv i ys σ H->SqT K H a xs/\ys.length<=i)
  (hs:∀i x ys σ H,xs[i]?=some x->Pv i ys σ H->g x σ H fun σ2 H2=>tc σ2 H2 fun b H3=>if b=true then te σ2 H3 fun v H4=>Pv (i+1) (ys++[v]) σ2 H4 else Pv (i+1) ys σ2 H3)
  (hd:∀ys σ H,Pv xs.length ys σ H->∀D,H D=none->Q (.ref D) (upd H D (.lst ys))):De_ (Itt K a) cp g tc te σ H Q:=Gb_ Pv h0 hz hl hs hd
theorem Iu_ {lo:Int}  (Pv:Nat->List V->St->Hp->Prop)(h0:Pv 0 [] (cp.st σ) H)(hz:n<sizeLine)
  (hl:∀i ys σ H,i<=n->Pv i ys σ H->ys.length<=i)
  (hs:∀i ys σ H,i<n->Pv i ys σ H->g (.int (lo+i)) σ H fun σ2 H2=>tc σ2 H2 fun b H3=>if b=true then te σ2 H3 fun v H4=>Pv (i+1) (ys++[v]) σ2 H4 else Pv (i+1) ys σ2 H3)
  (hd:∀ys σ H,Pv n ys σ H->∀D,H D=none->Q (.ref D) (upd H D (.lst ys))):De_ (Itr lo n) cp g tc te σ H Q:=Dd_ Pv h0 hz hl hs hd
theorem Ge_    (f:V->V)(e:cp.st σ=none::σ')(hl:SqT K H a xs)(hz:xs.length<sizeLine)(hs:∀x∈xs,∀R:VK,R (f x) H->te (some x::σ') H R)(hd:∀D,H D=none->Q (.ref D) (upd H D (.lst (xs.map f)))):
  De_ (Itt K a) cp (AJ_ 0) Ir_ te σ H Q:=by
 refine KH_ (xs:=xs) (fun i ys σ2 H2=>H2=H/\ys=(xs.take i).map f/\∃o,σ2=o::σ') ⟨rfl,by simp,none,e⟩ hz (fun i ys σ2 H2 hi h=>?_) (fun i x ys σ2 H2 hx h=>?_) (fun ys σ2 H2 h=>?_)
 ·obtain⟨rfl,rfl,_⟩:=h
  exact⟨hl,by rw[List.length_map,List.length_take];omega⟩
 ·obtain⟨rfl,rfl,o,rfl⟩:=h
  refine hs x (List.mem_of_getElem? hx) _ ⟨rfl,?_,some x,rfl⟩
  rw[List.take_add_one,hx];simp
 ·obtain⟨rfl,rfl,_⟩:=h
  rw[List.take_length]
  exact hd
end
def tCut (t u:TS):TS:=fun D σ H=>∃R:St->Hp->Prop,t {D with nx:=R} σ H/\∀σ' H',R σ' H'->u D σ' H'
theorem Ir  {st:Stmt}{rest:List Stmt}  (h1:PS X st t)(h2:PSs X rest u):PSs X (st::rest) (tCut t u):=by
 intro pins s σ H D I h
 obtain⟨R,ha,hb⟩:=h
 refine wpAny_execs_cons (thn (h1 pins s σ H {D with nx:=R} I ha) fun f s1 q=>?_)
 cases f with
 |next=>
  obtain⟨σ',H',I',q⟩:=q
  exact h2 pins s1 σ' H' D I' (hb σ' H' q)
 |ret v=>exact q
 |brk=>exact q
 |cont=>exact q
theorem Ao:1000000<sizeLine:=by rw[sizeLine_eq];decide
theorem OH {ns:List Int}{x:V}(h:x∈ns.map V.int):∃n,n∈ns/\x=.int n:=by
 obtain⟨n,hn,e⟩:=List.mem_map.mp h
 exact⟨n,hn,e.symm⟩
theorem Sx {ns:List Int}{i:Nat}{x:V}(h:(ns.map V.int)[i]?=some x):∃n,ns[i]?=some n/\x=.int n:=by
 rw[List.getElem?_map]at h
 cases e:ns[i]? with
 |none=>rw[e]at h;cases h
 |some n=>rw[e]at h;exact⟨n,rfl,(Option.some.inj h).symm⟩
def cutI (ns:List Int)(lo hi:Option Int):List Int:=(ns.drop (HT.sIx ns.length 0 lo)).take (HT.sIx ns.length ns.length hi-HT.sIx ns.length 0 lo)
theorem Gf_ (ns:List Int)(lo hi:Option Int):cutV (ns.map V.int) lo hi=(cutI ns lo hi).map V.int:=by
 unfold cutV cutI
 rw[List.length_map,<-List.map_drop,<-List.map_take]
theorem JS_     (h0:0<=i)(h:xs[i.toNat]?=some v):atI xs i=some v:=by
 have:=P0 h
 rwa [show ((i.toNat:Nat):Int)=i by omega]at this
theorem JT_  : ∀u,RelV (V.ty n) u->u=.type n:=fun _ h=>h
theorem P4  : ∀u,RelV (V.ref a) u->u=.ref a:=fun _ h=>h
end L2
namespace L2
open PySem PySem.W PySem.Spec PySem.Calls PyProof.Rows
section
variable {prog:Program} {w:World} {A:Around} {E:Value->Shared->Prop} {s:Shared} {K:Frag} {x D:Addr} {ox:Obj}
structure ExcCls (K:Frag)(D:Addr):Prop where
 ga:findIn K (.ref D) "__getattribute__"=some (some (.builtin "BaseException.__getattribute__"))
 hk:findIn K (.ref D) "__getattr__"=some none
 cl:(clsIn K D).isSome=true
 ca:findIn K (.ref D) "__class__"=some (some (.builtin "object.__class__"))
 gs:specialIn K (.builtin "object.__class__") "__get__"=some (some (.builtin "getset_descriptor.__get__"))
 tk:takesIn K (.builtin "object.__class__")=some true
 mo:mroIn K D (.type "object")=some true
 mb:mroIn K D (.type "BaseException")=some true
def ExcAt (x D:Addr)(h:Heap):Prop:=∃ox,h.get? x=some ox/\ox.cls=.ref D
theorem ExcAt.type   (I:ExcAt x D h):Looks M h (typeOf (.ref x)) (.ref D):=by
 obtain⟨ox,h1,h2⟩:=I
 exact h2 ▸ (Looks.ld h1).andThen .now
theorem Gg_   (X:K.In h)(C:ExcCls K D):Looks M h (Builtin.ObjectAttr.find (.ref x) (.ref D) "__class__") (.bind (.builtin "getset_descriptor.__get__") (.builtin "object.__class__")):=
 (looks_findIn X C.ca).andThen ((show Looks M h (Builtin.ObjectAttr.getOf (some (.builtin "object.__class__"))) _ from looks_specialIn X C.gs).andThen
  ((show Looks M h (Builtin.ObjectAttr.dataDescriptor? (some (.builtin "object.__class__")) (some (.builtin "getset_descriptor.__get__"))) (some (.builtin "getset_descriptor.__get__",.builtin "object.__class__")) from (looks_takesIn X C.tk).andThen .now).andThen (Looks.tag .now)))
open Builtin Builtin.ObjectAttr Builtin.Getset_descriptor in
theorem Iv_ {R:Result->Shared->Prop}{tp:Value}(X:K.In s.heap)(I:ExcAt x D s.heap)(hm:mroIn K D (.type "object")=some true)
  (h:R (.ok (.ret (.ref D))) s):codeAny (model prog w) A (.call (.builtin "getset_descriptor.__get__") ⟨[.builtin "object.__class__",.ref x,tp],[]⟩) R s:=by
 obtain⟨hh,g,dr,t,os⟩:=s
 have L0:=I.type (M:=model prog w)
 have L1:=looks_mroIn (M:=model prog w) X hm
 refine codeAny_call_builtin KF.slot_gs.plain KF.entry_gs (KF.slot_gs.check _ _ _ _ _ _ _ _ KF.type_class (KF.args_gs _ _ _) ?_)
 unfold Builtin.«getset_descriptor.__get__» descrGet
 rw[dga_obj]
 refine wpAny_bind (wpAny_pure ?_)
 unfold descrGetter descrCheckInstance descrNameAndClass isInstance
 simp only[KF.owner_class]
 repeat lk
 refine⟨Code.quiet_builtin _ (by decide +kernel),codeAny_builtin KF.entry_class ?_⟩
 unfold Builtin.«object.__class__» shownTypeOf
 repeat lk
 exact h
theorem EC_    (X:K.In s.heap)(I:ExcAt x D s.heap)(C:ExcCls K D)(hq:Q () s):wpAny M A (checkBuiltinCall "BaseException.__getattribute__" ⟨[.ref x,nameV],[]⟩) Q E s:=by
 obtain⟨hh,g,d,t,os⟩:=s
 have hk:builtinKind "BaseException.__getattribute__"=some .slot:=by decide +kernel
 have hsplit:splitId "BaseException.__getattribute__"=some ("BaseException","__getattribute__"):=by decide +kernel
 have ha:=F.args_bexc_ga (.ref x) nameV
 have L0:=I.type (M:=M)
 have L1:=looks_mroIn (M:=M) X C.mb
 simp only[checkBuiltinCall,hk,hsplit]
 refine wpAny_bind ?_
 unfold isInstance
 repeat (first|lk|wp_step)
 exact hq
theorem ED_   (X:K.In s.heap)(I:ExcAt x D s.heap)(C:ExcCls K D)(hq:Q (.done (.ret (.ref D))) s):wpAny (model prog w) A (Builtin.«object.__getattribute__» ⟨[.ref x,.str "__class__" tk],[]⟩) Q E s:=by
 obtain⟨hh,g,d,t,os⟩:=s
 have L0:=I.type (M:=model prog w)
 have L1:=Gg_ (M:=model prog w) (x:=x) X C
 unfold Builtin.«object.__getattribute__»
 refine wpAny_bind (wpAny_pure ?_)
 refine wpAny_bind (wpAny_pure ?_)
 refine wpAny_bind (L0.at ?_)
 refine wpAny_bind (L1.at ?_)
 show wpAny _ _ (Builtin.ObjectAttr.bindTo _ _ _ _) _ _ _
 unfold Builtin.ObjectAttr.bindTo
 dsimp only
 refine wpAny_bind (wpAny_holding (wpAny_call (Iv_ (K:=K) (s:=⟨hh,g,d,t,os⟩) X I C.mo ?_)))
 exact wpAny_pure hq
theorem EE_  (X:K.In s.heap)(I:ExcAt x D s.heap)(C:ExcCls K D)(h:Q (some (.ref D)) {s with toks:=s.toks+1}):wpAny (model prog w) A (getAttr? (.ref x) "__class__") Q E s:=by
 obtain⟨hh,g,d,t,os⟩:=s
 have L0:=I.type (M:=model prog w)
 have L1:=looks_findIn (M:=model prog w) X C.ga
 have L2:=looks_findIn (M:=model prog w) X C.hk
 unfold getAttr? getAttrBy? getAttrBy
 refine wpAny_bind (wpAny_mkText (wpAny_bind (wpAny_attempt (wpAny_holding (wpAny_bind (L0.at (wpAny_bind (L1.at ?_))))))))
 show wpAny _ _ (getAttrByItsOwn _ _ _ _ _ _) _ _ _
 unfold getAttrByItsOwn hookBefore
 refine wpAny_bind ?_
 rw[if_pos (by rfl)]
 refine L2.at (wpAny_bind (wpAny_attempt (wpAny_holding ?_)))
 unfold callGetattribute
 rw[if_neg (by decide)]
 unfold boundAndCalled
 have f3:=PySem.F.attr_ValueError.ga.bind (.ref x)
 refine wpAny_bind (wpAny_of_eq f3 ?_)
 refine wpAny_call (codeAny_call_builtin PySem.F.attr_ValueError.ga.plain F.entry_bexc_ga (EC_ (K:=K) (s:=⟨hh,g,d,t+1,os⟩) X I C (ED_ (K:=K) (s:=⟨hh,g,d,t+1,os⟩) X I C ?_)))
 exact wpAny_pure (wpAny_pure h)
theorem Gh_ (C:ExcCls K D):KitX K (.ref x) (.ref D) (ExcAt x D) where
 ty:=fun _ _ _ I=>I.type
 it:=fun _ _ X _=>by
  obtain⟨cdD,hcD⟩:=Option.isSome_iff_exists.mp C.cl
  unfold clsIn at hcD
  split at hcD
  ·rename_i c' d' cd' sl' ho
   intro A' Q' E' s' k q
   unfold isType loadHead
   exact wpAny_bind (wpAny_loadPart (k _ _ (X _ _ ho)) (wpAny_pure q))
  ·cases hcD
 ne:=fun h tp dd its n sl X htp=>by
  obtain⟨cdD,hcD⟩:=Option.isSome_iff_exists.mp C.cl
  refine Bool.eq_false_iff.mpr fun q=>?_
  have e:D=tp:=Value.ref.inj (beq_iff_eq.mp q)
  subst e
  unfold clsIn at hcD
  split at hcD
  ·rename_i c' d' cd' sl' ho
   have z:=(X _ _ ho).symm.trans htp
   cases z
  ·cases hcD
 ca:=fun X I k=>EE_ X I C k
end
section
variable {P:Program} {w:World}
theorem C4.there     (x:C4 P w H h a o):∃ob,h.get? a=some ob:=by
 induction o with
 |lst xs=>obtain⟨_,_,_,_,e⟩:=x;exact⟨_,e⟩
 |tup xs=>obtain⟨_,_,_,ob,e,_⟩:=x;exact⟨_,e⟩
 |dK kvs=>obtain⟨_,_,_,_,o,_,_,e,_⟩:=x;exact⟨_,e⟩
 |dT kvs=>obtain⟨_,_,_,_,o,_,_,e,_⟩:=x;exact⟨_,e⟩
 |set S n=>obtain⟨o,_,_,_,e,_⟩:=x;exact⟨_,e⟩
 |ins C dx fs=>obtain⟨_,_,_,e,_⟩:=x;exact⟨_,e⟩
 |own y=>obtain⟨_,e⟩:=x;exact⟨_,e⟩
 |xd fs=>obtain⟨_,⟨_,_,_,e,_⟩,_⟩:=x;exact⟨_,e⟩
 |rng lo hi=>obtain⟨_,_,_,e⟩:=x;exact⟨_,e⟩
 |frz ob u ih=>obtain⟨e,_⟩:=x;exact⟨_,e⟩
 |tbl ps=>exact⟨_,(show h.get? a=some _ from x)⟩
 |met f y=>exact⟨_,(show h.get? a=some _ from x)⟩
 |ext φ=>obtain⟨_,⟨_,e⟩,_⟩:=x;exact⟨_,e⟩
structure Fly (P:Program)(w:World)(fs:List Addr)(H1 H':Hp)(h1 g B:Heap):Prop where
 un:Un fs [] H1 H' h1 g
 hok:HOk P w H' g
 cov:∀b o,g.get? b=some o->(H' b≠none \/ ∃o',h1.get? b=some o')->b∉fs->B.get? b=some o
theorem Fly.move  {H1 H':Hp}{h1 g B h2:Heap}(x:Fly P w fs H1 H' h1 g B)(frees:∀b∈fs,H' b=none)(st:B.StaysIn h2)(up:∀b∈fs,∀o,g.get? b=some o->∃sl,h2.get? b=some {o with slots:=sl}):Fly P w fs H1 H' h1 h2 B:=by
 have keep:∀b o,g.get? b=some o->(H' b≠none \/ ∃o',h1.get? b=some o')->b∉fs->h2.get? b=some o:=fun b o e h n=>st b o (x.cov b o e h n)
 have nfs:∀b u,H' b=some u->b∉fs:=fun b u e z=>by rw[frees b z]at e;cases e
 refine⟨⟨fun b o e n hb hx=>?_,fun b o e n hb hx=>?_,fun b o e n hx=>x.un.free b o e n hx,fun b o e hx=>?_,x.un.tups,x.un.frzs,x.un.tbls⟩,fun b u e=>?_,fun b o e h n=>?_⟩
 ·exact keep b o (x.un.keep b o e n hb hx) (.inr ⟨o,e⟩) hb
 ·obtain⟨sl,e1⟩:=x.un.slot b o e n hb hx
  obtain⟨sl',e2⟩:=up b hb _ e1
  exact⟨sl',e2⟩
 ·obtain⟨o',e1⟩:=x.un.there b o e hx
  by_cases hb:b∈fs
  ·obtain⟨sl',e2⟩:=up b hb _ e1
   exact⟨_,e2⟩
  ·exact⟨o',keep b o' e1 (.inr ⟨o,e⟩) hb⟩
 ·refine (x.hok b u e).stay (fun c v hc q=>?_) (fun _ q=>q) fun _ _ q=>q
  rcases hc with rfl|hc
  ·exact keep c v q (.inl (by rw[e];simp)) (nfs c u e)
  ·exact keep c v q (.inl (by rw[hc];simp)) (nfs c _ hc)
 ·-- B has it still
  have ⟨o1,e1⟩:∃o1,g.get? b=some o1:=by
   rcases h with h|⟨o',h⟩
   ·cases q:H' b with
    |none=>exact absurd q h
    |some u=>exact (x.hok b u q).there
   ·exact x.un.there b o' h (by simp)
  have e2:=x.cov b o1 e1 h n
  have e3:=st b o1 e2
  rw[e]at e3
  cases e3
  exact e2
def CXe (P:Program)(w:World):CXT:=fun outer H s E e s'=>∃(ea:Addr) (cls a0:Value) (H':Hp) (B:Heap),e=.ref ea/\s'.os=s.os/\AllBare s'.gens/\Fly P w (frs outer) H H' s.heap s'.heap B/\Heap.FlyingW B outer ea cls a0 s'.heap/\E cls none H'
theorem S1    {H1 H':Hp}  {g B:Heap}(I:Inv X pins σ H1 s1)(x:Fly P w (frs X.stack) H1 H' s1.heap g B):∀b∈frs X.stack,H' b=none:=fun b hb=>by
 obtain⟨_,o,ho,_⟩:=I.stack.mem hb
 exact x.un.free b o ho (I.stkFree b hb) (by simp)
theorem JE {K:PySem.W.Frag}             (hE:∀c d H',E' c d H'->E c d H'):
  Lk (CXe P w) (cxOf (CXe P w) P w K mg base N qual scope f cd A outer s H E) E':=by
 intro pins σ H1 s1 e s' I hc
 obtain⟨ea,cls,a0,H',B,rfl,os,bare,fl,fw,q⟩:=hc
 have fr:(cxOf (CXe P w) P w K mg base N qual scope f cd A outer s H E).A.frames=some (envOfC qual scope s.heap.objs.size f cd::outer):=I.ok.frames
 refine wpAny_leaves_onW fr rfl fw fun h' fw' ups=>?_
 have fl2:=fl.move (S1 I fl) fw'.1 (fun b hb o e=>by
  obtain⟨_,o',ho',nf⟩:=fw.2.2.1.mem hb
  rw[e]at ho';cases ho'
  exact ups b o e nf)
 have I2:Inv (cxOf (CXe P w) P w K mg base N qual scope f cd A outer s H E) pins σ H' {s' with heap:=h' }:=I.call' (s':={s' with heap:=h' }) os fl2.un fl2.hok bare (fun b hb=>by cases hb)
 refine⟨ea,cls,a0,H',B,rfl,I2.os,I2.bare,⟨I2.base,I2.hok,fun b o e h n=>fl2.cov b o e ?_ (fun z=>?_)⟩,fw',hE _ _ _ q⟩
 ·rcases h with h|⟨o',h⟩
  ·exact .inl h
  ·obtain⟨o2,e2⟩:=I.base.there b o' h (by show b∉([]:List Addr);simp)
   exact .inr ⟨o2,e2⟩
 ·rcases List.mem_cons.mp (I.stkSub b z) with e' | e'
  ·rcases h with h|⟨o',h⟩
   ·exact h (by rw[e'];exact I2.free)
   ·have:=Heap.lt_size h
    rw[e']at this
    exact absurd (Nat.lt_of_lt_of_le this I.ok.above) (Nat.lt_irrefl _)
  ·exact n e'
theorem JU_ {K:PySem.W.Frag}
   {H1:Hp}
  (I:Inv (cxOf (CXe P w) P w K mg base N qual scope f cd A outer s H E) pins σ H1 s1) (hx:Heap.MadeExcOf s1.heap h' ea cls vs) (q:E cls none H1):
  (cxOf (CXe P w) P w K mg base N qual scope f cd A outer s H E).xe (.ref ea) {s1 with heap:=h' }:=by
 have fr:(cxOf (CXe P w) P w K mg base N qual scope f cd A outer s H E).A.frames=some (envOfC qual scope s.heap.objs.size f cd::outer):=I.ok.frames
 have hin:∀env∈(envOfC qual scope s.heap.objs.size f cd::outer),∀b,env.frame=some b->b∈frs (envOfC qual scope s.heap.objs.size f cd::outer):=fun env he b hb=>List.mem_filterMap.mpr ⟨env,he,hb⟩
 have stk:=I.stack
 have fl:Fly P w (frs (envOfC qual scope s.heap.objs.size f cd::outer)) H1 H1 s1.heap s1.heap (PySem.W.hideAll s1.heap (frs (envOfC qual scope s.heap.objs.size f cd::outer))):=⟨Un.refl,I.hok,fun b o e _ n=>PySem.W.hideAll_get _ e n⟩
 refine wpAny_leaves_madeW (base:=PySem.W.hideAll s1.heap (frs (envOfC qual scope s.heap.objs.size f cd::outer))) (h:=s1.heap) fr rfl (fun b o q=>PySem.W.of_hideAll _ q) ?_ hx fun h'' t fw' ht hnt ups=>?_
 ·exact PySem.W.funFrames_hide stk hin
 ·have fl2:=fl.move (S1 (X:=cxOf (CXe P w) P w K mg base N qual scope f cd A outer s H E) I fl) fw'.1 (fun b hb o e=>by
   obtain⟨_,o',ho',nf⟩:=stk.mem hb
   rw[e]at ho';cases ho'
   exact ups b o (hx.keeps b o e) nf)
  have I2:Inv (cxOf (CXe P w) P w K mg base N qual scope f cd A outer s H E) pins σ H1 {s1 with heap:=h'' }:=I.call' (s':={s1 with heap:=h'' }) rfl fl2.un fl2.hok I.bare (fun b hb=>by cases hb)
  refine⟨ea,cls,.ref t,H1,_,rfl,I2.os,I2.bare,⟨I2.base,I2.hok,fun b o e h n=>fl2.cov b o e ?_ (fun z=>?_)⟩,fw',q⟩
  ·rcases h with h|⟨o',h⟩
   ·exact .inl h
   ·obtain⟨o2,e2⟩:=I.base.there b o' h (by show b∉([]:List Addr);simp)
    exact .inr ⟨o2,e2⟩
  ·rcases List.mem_cons.mp (I.stkSub b z) with e' | e'
   ·rcases h with h|⟨o',h⟩
    ·exact h (by rw[e'];exact I2.free)
    ·have:=Heap.lt_size h
     rw[e']at this
     exact absurd (Nat.lt_of_lt_of_le this I.ok.above) (Nat.lt_irrefl _)
   ·exact n e'
end
theorem Iw_ {K:Frag}     (X:K.In h)(q:excIn K C bmB newId=true):
  ∃bm N nm q bs hdct sn sub ab col dd k0 k1 k2 k3 k5 mN,h.get? C=some (excClassObj nm q C N bs bm hdct sn sub ab col dd k0 k1 k2 k3 k5 newId)/\h.Ns N mN/\mN "__init__"=none/\OwnTail h bmB bm:=by
 unfold excIn at q
 split at q
 ·rename_i dd cd sl ho
  split at q
  ·rename_i C' bm k0 k1 k2 k3 n k5 hm hs
   simp only[Bool.and_eq_true,beq_iff_eq,Bool.not_eq_true']at q
   obtain⟨⟨⟨⟨⟨rfl,rfl⟩,hdel⟩,ht⟩,hok⟩,hni⟩:=q
   obtain⟨nm,bs,mro,ns,qn,hd,sn,sub,ab,col,del⟩:=cd
   dsimp only at hm hdel hok hni
   subst hm hdel
   have hsl:sl = #[k0,k1,k2,k3,some (.builtin n),k5]:=by
    obtain⟨l⟩:=sl
    simp only at hs
    rw[hs]
   subst hsl
   exact⟨bm,ns,nm,qn,bs,hd,sn,sub,ab,col,dd,k0,k1,k2,k3,k5,_,X _ _ ho,.of_isNs (isNs_of_in X hok),nsMap_none_of_in X hok hni,tail_of_in X ht⟩
  ·cases q
 ·cases q
def bmV:List Value:=[.type "ValueError",.type "Exception",.type "BaseException",.type "object"]
section
variable {P:Program} {w:World} {K:PySem.W.Frag} {mg:Str->Option Value} {base:Heap} {N:List Str} {qual:Str} {scope:Scope} {f:Addr} {cd:Value} {A:Around} {outer:List Env} {s:Shared} {H:Hp} {E:XK}
def Ho_ (C:Addr)(E:XK)(ta:TA):TS:=fun _ σ H=>ta σ H fun vs H1=>vs.length<=sizeLine/\E (.ref C) none H1
theorem M4      {rest:List Expr}  (hm:mg x=some (.ref C))(hx:excIn K C bmV newId=true)(hg:Gl (cxOf (CXe P w) P w K mg base N qual scope f cd A outer s H E) x)
  (hn:newId = "ValueError.__new__") (ha:PA (cxOf (CXe P w) P w K mg base N qual scope f cd A outer s H E) (e₀::rest) ta)
  (he:starEach (e₀::rest) (cxOf (CXe P w) P w K mg base N qual scope f cd A outer s H E).env=(false,eval e₀ (cxOf (CXe P w) P w K mg base N qual scope f cd A outer s H E).env)::starEach rest (cxOf (CXe P w) P w K mg base N qual scope f cd A outer s H E).env:=by rfl)
  (hplain:(backTo cpos (starEach rest (cxOf (CXe P w) P w K mg base N qual scope f cd A outer s H E).env)).any (·.1)=false:=by rfl) (hd:(x==("__debug__" : Str))=false:=by decide):
  PS (cxOf (CXe P w) P w K mg base N qual scope f cd A outer s H E) (.Raise (some (.Call (.Name x np) (e₀::rest) [] cpos)) none pos) (Ho_ C E ta):=by
 intro pins s1 σ H1 D I h
 subst hn
 obtain⟨bm,Nc,nm,q,bs,hdct,sn,sub,ab,col,dd,k0,k1,k2,k3,k5,mN,hC,hN,hni,T⟩:=Iw_ I.mod.kin hx
 refine wpAny_Raise_call_subU (C:=C) (nm:=nm) (q:=q) (N:=Nc) (bs:=bs) (bm:=bm) (hdct:=hdct) (sn:=sn) (sub:=sub) (ab:=ab) (col:=col) (dd:=dd) (k0:=k0) (k1:=k1) (k2:=k2) (k3:=k3) (k5:=k5)
  PySem.F.excBase_ValueError (bmB:=bmV) (by decide +kernel) PySem.F.excBase_ValueError (mN:=mN) (T.hasType PySem.F.excBase_ValueError.hasBase) (I.ok.hd rfl) (by rw[he];show (false||(backTo cpos (starEach rest _)).any (·.1))=false;rw[hplain];rfl) hni (PY I hg hm ⟨rfl,?_⟩ hd)
 have hA:=ha cpos pins s1 σ H1 _ I h
 rw[he]at hA ⊢
 refine Calls.evalArgs_plain (thn hA fun us s2 ⟨vs,H2,I2,r2,hz,q2⟩=>⟨rfl,by rw[<-r2.length];exact hz,I2.bk _ _ hC,hN.keeps I2.bk,T.keeps I2.bk,fun h' e hm=>JU_ I2 hm q2⟩)
end
end L2
namespace L2
open PySem PySem.Spec PyProof.Rows
abbrev Cx.body (X:Cx)(xe:Value->Shared->Prop)(pn:List (Addr×Obj)):Cx:={X with xe:=xe,pn:=pn}
abbrev Cx.suite (X:Cx)(ea:Addr)(pn:List (Addr×Obj)):Cx:={X with A:=X.A.mark (some (.ref ea)),calm:=false,xe:=fun _ _=>False,pn:=pn}
section
variable {X:Cx} {pins pins':List (Addr×Obj)} {σ:St} {H:Hp} {s:Shared} {xe xe':Value->Shared->Prop} {ea:Addr}
theorem Inv.toBody (I:Inv X pins σ H s):Inv (X.body xe (X.pn++pins)) [] σ H s:=
 ⟨⟨I.ok.mod,I.ok.kind,I.ok.glob,I.ok.blt,I.ok.above,I.ok.inj,I.ok.has,I.ok.cab,I.ok.hd,I.ok.frames,I.ok.stk,I.ok.exf,I.ok.bs,I.ok.bsz,I.ok.noex,I.ok.exfs,I.ok.funs,I.ok.frf⟩,I.os,I.bare,I.base,I.loc,I.cell,I.free,I.freeC,fun p hp=>I.pin p (by simpa using hp),I.hok,I.len⟩
theorem Inv.ofBody (I:Inv (X.body xe (X.pn++pins)) pins' σ H s):Inv X pins σ H s:=
 ⟨⟨I.ok.mod,I.ok.kind,I.ok.glob,I.ok.blt,I.ok.above,I.ok.inj,I.ok.has,I.ok.cab,I.ok.hd,I.ok.frames,I.ok.stk,I.ok.exf,I.ok.bs,I.ok.bsz,I.ok.noex,I.ok.exfs,I.ok.funs,I.ok.frf⟩,I.os,I.bare,I.base,I.loc,I.cell,I.free,I.freeC,fun p hp=>I.pin p (List.mem_append_left _ hp),I.hok,I.len⟩
theorem Inv.reBody  (I:Inv (X.body xe pn) pins' σ H s):Inv (X.body xe' pn) pins' σ H s:=
 ⟨⟨I.ok.mod,I.ok.kind,I.ok.glob,I.ok.blt,I.ok.above,I.ok.inj,I.ok.has,I.ok.cab,I.ok.hd,I.ok.frames,I.ok.stk,I.ok.exf,I.ok.bs,I.ok.bsz,I.ok.noex,I.ok.exfs,I.ok.funs,I.ok.frf⟩,I.os,I.bare,I.base,I.loc,I.cell,I.free,I.freeC,I.pin,I.hok,I.len⟩
theorem Inv.toSuite (I:Inv X pins σ H s):Inv (X.suite ea (X.pn++pins)) [] σ H s:=
 ⟨⟨I.ok.mod,I.ok.kind,I.ok.glob,I.ok.blt,I.ok.above,I.ok.inj,I.ok.has,I.ok.cab,fun z=>absurd (show false=true from z) Bool.false_ne_true,I.ok.frames,I.ok.stk,I.ok.exf,I.ok.bs,I.ok.bsz,I.ok.noex,I.ok.exfs,I.ok.funs,I.ok.frf⟩,I.os,I.bare,I.base,I.loc,I.cell,I.free,I.freeC,fun p hp=>I.pin p (by simpa using hp),I.hok,I.len⟩
theorem Inv.ofSuite (hd:X.calm=true->X.A.handled=none)(I:Inv (X.suite ea (X.pn++pins)) pins' σ H s):Inv X pins σ H s:=
 ⟨⟨I.ok.mod,I.ok.kind,I.ok.glob,I.ok.blt,I.ok.above,I.ok.inj,I.ok.has,I.ok.cab,hd,I.ok.frames,I.ok.stk,I.ok.exf,I.ok.bs,I.ok.bsz,I.ok.noex,I.ok.exfs,I.ok.funs,I.ok.frf⟩,I.os,I.bare,I.base,I.loc,I.cell,I.free,I.freeC,fun p hp=>I.pin p (List.mem_append_left _ hp),I.hok,I.len⟩
theorem Inv.forget       (I:Inv X pins σ H s)(hN:X.N.Nodup)(hi:X.N[i]?=some n)(hx:X.env.scope.names.lookup n=some .local)
  (hl:∀(i:Nat) (x:Str) (v:V),X.N[i]?=some x->σ[i]?=some (some v)->Vis X.env.scope x->∃u,RelV v u/\Look X.env s.heap m x u) (hn:s.heap.Ns X.env.locals m)
  (hn':h'.Ns X.env.locals (fun x=>if x=n then v else m x)) (hs:Heap.SameBut X.env.locals s.heap h'):Inv X pins (σ.set i none) H {s with heap:=h',toks:=t' }:=by
 have cne:=I.cne
 obtain⟨oL,_,_,hoL,_⟩:=id hn
 have tracked:HOk X.prog X.w H h':=fun b ob e=>by
  refine (I.hok b ob e).stay (fun c w' hc q=>(hs.2 c ?_).trans q) (fun _ q=>q) fun _ _ q=>q
  rintro rfl
  rcases hc with rfl|hc
  ·rw[I.free]at e;cases e
  ·rw[I.free]at hc;cases hc
 refine⟨I.ok,I.os,I.bare,⟨fun b o e n hb hx=>?_,fun b o e n hb hx=>?_,I.base.free,fun b o e hx=>?_,I.base.tups,I.base.frzs,I.base.tbls⟩,⟨_,hn',fun j y v' e1 e2 e3=>?_⟩,fun y c e=>?_,I.free,I.freeC,fun p hp=>?_,tracked,by simpa using I.len⟩
 ·exact (hs.2 b (Nat.ne_of_lt (Nat.lt_of_lt_of_le (Heap.lt_size e) I.ok.above))).trans (I.base.keep b o e n hb hx)
 ·obtain⟨sl,e1⟩:=I.base.slot b o e n hb hx
  exact⟨sl,(hs.2 b (Nat.ne_of_lt (Nat.lt_of_lt_of_le (Heap.lt_size e) I.ok.above))).trans e1⟩
 ·obtain⟨o',e1⟩:=I.base.there b o e hx
  exact⟨o',(hs.2 b (Nat.ne_of_lt (Nat.lt_of_lt_of_le (Heap.lt_size e) I.ok.above))).trans e1⟩
 ·by_cases hj:j=i
  ·subst hj
   have hlt:j<σ.length:=by
    have:=(List.getElem?_eq_some_iff.mp e2).1
    simpa using this
   rw[List.getElem?_set_self hlt]at e2
   cases e2
  ·rw[List.getElem?_set_ne (Ne.symm hj)]at e2
   obtain⟨u',r',q⟩:=hl j y v' e1 e2 e3
   refine⟨u',r',?_⟩
   rcases q with ⟨k,e⟩|⟨k,c,e,z⟩
   ·refine .inl ⟨k,?_⟩
    have:y≠n:=fun e=>hj (Ws hN e1 (e ▸ hi))
    simp[this,e]
   ·exact .inr ⟨k,c,e,z.sameBut hs (cne y c e)⟩
 ·obtain⟨w',z⟩:=I.cell y c e
  exact⟨w',z.sameBut hs (cne y c e)⟩
 ·obtain⟨e,n,ne,nf,d⟩:=I.pin p hp
  exact⟨(hs.2 p.1 ne).trans e,n,ne,nf,d⟩
end
def Sy (CX:CXT)(X:Cx)(σ:St)(E:XK):Prop:=∀(pins:List (Addr×Obj)) (H:Hp) (s:Shared) (e:Value) (s':Shared),Inv X pins σ H s->CX X.stack H s E e s'->X.xe e s'
section
variable {X:Cx} {CX:CXT} {k:Nat} {f C:Addr} {fd:FuncData} {ps:List Str} {sp:Sp} {dvs:List V} {ds:List Value} {E:St->XK} {x:Str} {p pos:Pos} {e:Expr} {es:List Expr} {t:TA}
theorem EF_ {pins:List (Addr×Obj)}{σ:St}{H:Hp}{s:Shared}{Q:VK}{us:List Value}{vs:List V}{E:XK}(F:FnOk X.prog X.w X.K X.mg X.base CX k f fd ps sp)(hr:Room k X.A)(hb:Binds X.K fd ps ds)(hd:Vals dvs ds)(hx:Sy CX X σ E)
  (I:Inv X pins σ H s) (r:Vals vs us) (h:sp (vs++dvs) H Q E):wpAny (model X.prog X.w) X.A (call (.ref f) us) (EP X pins σ Q) X.xe s:=by
 have r2:Vals (vs++dvs) (us++ds):=r.append hd
 have hl:(us++ds).length=ps.length:=by rw[<-r2.length];exact F.len _ _ _ _ h
 refine wpAny_call (codeAny_mono (F.run X.A X.stack s H ⟨us,[]⟩ (us++ds) (vs++dvs) Q E hr I.env0 (hb s us I.kIn hl) r2 h) fun r s' hq=>?_)
 cases r with
 |error e=>exact hx pins H s e s' I hq
 |ok fl=>
  cases fl with
  |ret u=>exact I.after hq
  |next=>exact False.elim hq
  |brk=>exact False.elim hq
  |cont=>exact False.elim hq
end
def excO (ea C:Addr):HO:=.ext (ExcAt ea C)
def Ends.un (D:Ends)(i:Nat):Ends:={nx:=fun σ H=>D.nx (σ.set i none) H,rt:=D.rt,bk:=fun σ H=>D.bk (σ.set i none) H,ct:=fun σ H=>D.ct (σ.set i none) H}
def tTry (K:PySem.W.Frag)(Ca:Addr)(i:Nat)(E:St->XK)(tb ts:TS):TS:=fun D σ H=>tb D σ H/\∀σ' cls H',E σ' cls none H' ->
 ∃C,cls=.ref C/\PySem.W.exmOne K (.ref C) (.ref Ca)=some true/\∀ea,H' ea=none->ts (D.un i) (σ'.set i (some (.ref ea))) (upd H' ea (excO ea C))
theorem EG_           (hN:X.N.Nodup)(hi:X.N[i]?=some n)(hn:X.env.scope.names.lookup n=some .local)
  (hg:Gl X c) (hm:X.mg c=some (.ref Ca)) (hst:X.stack=X.env::X.outer) (hL:X.env.frame=some X.env.locals) (hex:X.ex=[])
  (hb:∀xe pn,(∀σ,Sy (CXe X.prog X.w) (X.body xe pn) σ (E σ))->PSs (X.body xe pn) body tb) (hs:∀ea pn,PSs (X.suite ea pn) (b₀::suite) ts) (hd:(c==("__debug__" : Str))=false:=by decide):
  PS X (.Try body [.ExceptHandler (some (.Name c np)) (some n) (b₀::suite) hpos] [] [] pos) (tTry X.K Ca i E tb ts):=by
 intro pins s σ H D I h
 obtain⟨hbody,hhand⟩:=h
 have hB:=hb (fun e s'=>∃pins' σ' H1 s1,Inv (X.body (fun _ _=>True) (X.pn++pins)) pins' σ' H1 s1/\CXe X.prog X.w X.stack H1 s1 (E σ') e s') (X.pn++pins) (fun σ pins' H s e s' I' hcx=>⟨pins',σ,H,s,I'.reBody,hcx⟩) [] s σ H D I.toBody hbody
 refine wpAny_Try_except (wpAny_mono hB (fun f s1 q=>?_) fun e s1 q=>?_)
 ·cases f with
  |next=>obtain⟨σ1,H1,I1,q1⟩:=q;exact wpAny_execs_nil ⟨σ1,H1,I1.ofBody,q1⟩
  |brk=>obtain⟨σ1,H1,I1,q1⟩:=q;exact⟨σ1,H1,I1.ofBody,q1⟩
  |cont=>obtain⟨σ1,H1,I1,q1⟩:=q;exact⟨σ1,H1,I1.ofBody,q1⟩
  |ret v=>obtain⟨x1,σ1,H1,I1,r1,q1⟩:=q;exact⟨x1,σ1,H1,I1.ofBody,r1,q1⟩
 ·obtain⟨pins',σ',H1,s2,I2,ea,cls,a0,H',B,rfl,os,bare,fl,fw,hE⟩:=q
  obtain⟨C,rfl,hexm,hts⟩:=hhand σ' cls H' hE
  have I2':Inv X pins σ' H1 s2:=I2.ofBody
  have fr:X.A.frames=some (X.env::X.outer):=by rw[I.ok.frames,hst]
  have frees:=S1 I2' fl
  have fw0:=fw
  rw[hst]at fw
  have invAt:∀h',Heap.FlyingW B (X.env::X.outer) ea (.ref C) a0 h'->s1.heap.UpToSlots h'->Inv X pins σ' H' {s1 with heap:=h' }:=fun h' fw' ups=>by
   have fl2:=fl.move frees fw'.1 (fun b hb o e=>by
    obtain⟨_,o',ho',nf⟩:=fw0.2.2.1.mem hb
    rw[e]at ho';cases ho'
    exact ups b o e nf)
   exact I2'.call' (s':={s1 with heap:=h' }) os fl2.un fl2.hok bare (fun b hb=>by cases hb)
  refine wpAny_looks_onW fr hL fw fun h4 held4 up4=>?_
  refine wpAny_landsW held4 fun h5 fw5 up5=>?_
  have I5:=invAt h5 fw5 (up4.trans up5)
  have I5m:Inv (X.suite ea (X.pn++pins)) [] σ' H' {s1 with heap:=h5}:=I5.toSuite
  refine wpAny_handleBy_cons (codeAny_handlers_test (PY (X:=X.suite ea (X.pn++pins)) I5m hg hm ?_ hd)) (by intro q;cases q)
  have LT:PySem.W.Looks (model X.prog X.w) h5 (typeOf (.ref ea)) (.ref C):=by
   obtain⟨ob,hob,hoc⟩:=fw5.there
   exact hoc ▸ (PySem.W.Looks.ld hob).andThen .now
  refine (PySem.W.exm_one (K:=X.K) (M:=model X.prog X.w) I5.kIn LT hexm) _ _ _ _ (fun b o e=>e) ?_
  refine codeAny_handlers_suite_as ?_
  refine lands_againW fw5 fun h6 fw6 up6=>?_
  have I6:=invAt h6 fw6 ((up4.trans up5).trans up6)
  -- the exception's object is not tracked yet
  have hne:H' ea=none:=by
   cases q:H' ea with
   |none=>rfl
   |some u=>
    have nfs:ea∉frs X.stack:=fun z=>by rw[frees ea z]at q;cases q
    obtain⟨o,ho⟩:=(fl.hok ea u q).there
    have:=fl.cov ea o ho (.inl (by rw[q];simp)) nfs
    rw[fw.2.1]at this
    cases this
  have new:C4 X.prog X.w (upd H' ea (excO ea C)) h6 ea (excO ea C):=by
   obtain⟨ob,hob,hoc⟩:=fw6.there
   refine⟨⟨ob,hob,hoc⟩,⟨ob,hob⟩,fun g1 g2 ⟨o1,e1,c1⟩ k=>⟨o1,k o1 e1,c1⟩⟩
  have hsz:s2.heap.get? ea=none:=by
   cases q:s2.heap.get? ea with
   |none=>rfl
   |some o=>
    by_cases z:ea∈frs X.stack
    ·obtain⟨_,o',ho',nf⟩:=fw0.2.2.1.mem z
     obtain⟨oe,vs,hoe,_,hdt,_⟩:=fw.first
     rw[ho']at hoe;cases hoe
     exact absurd hdt (nf vs)
    ·obtain⟨o',e'⟩:=fl.un.there ea o q (by simp)
     have:=fl.cov ea o' e' (.inr ⟨o,q⟩) z
     rw[fw.2.1]at this
     cases this
  have I6t:Inv X pins σ' (upd H' ea (excO ea C)) {s1 with heap:=h6}:=by
   refine⟨I6.ok,I6.os,I6.bare,?_,I6.loc,I6.cell,?_,fun x c e=>?_,fun p hp=>?_,I6.hok.track hne new,I6.len⟩
   ·-- newer than the entry
    have h0:X.s₀.heap.get? ea=none:=by
     cases q:X.s₀.heap.get? ea with
     |none=>rfl
     |some o=>
      obtain⟨o',e'⟩:=I2'.base.there ea o q (by rw[hex];simp)
      rw[hsz]at e';cases e'
    refine⟨I6.base.keep,I6.base.slot,fun b o e n hx=>?_,I6.base.there,fun b xs q=>?_,fun b ob xs q=>?_,fun b ps q=>?_⟩
    ·rw[Ah (fun z=>by rw[z,h0]at e;cases e)];exact I6.base.free b o e n hx
    ·have:=I6.base.tups b xs q;rw[Ah (B8 this hne)];exact this
    ·have:=I6.base.frzs b ob xs q;rw[Ah (B8 this hne)];exact this
    ·obtain⟨more,e⟩:=I6.base.tbls b ps q
     exact⟨more,by rw[Ah (B8 e hne)];exact e⟩
   ·rw[Ah (fun z=>?_)]
    ·exact I6.free
    ·have:=I2'.lt
     obtain⟨m,⟨o,_,_,ho,_⟩,_⟩:=I2'.loc
     rw[z,hsz]at ho;cases ho
   ·rw[Ah (fun z=>?_)]
    ·exact I6.freeC x c e
    ·obtain⟨v,o,ho,_⟩:=I2'.cell x c e
     rw[z,hsz]at ho;cases ho
   ·obtain⟨e,n,r⟩:=I6.pin p hp
    refine⟨e,?_,r⟩
    rw[Ah (fun z=>?_)]
    ·exact n
    ·have:=(I2'.pin p hp).1
     rw[z,hsz]at this;cases this
  have I6m:Inv (X.suite ea (X.pn++pins)) [] σ' (upd H' ea (excO ea C)) {s1 with heap:=h6}:=I6t.toSuite
  refine Wt (X:=X.suite ea (X.pn++pins)) I6m hN hi (.inl hn) (v:=.ref ea) rfl (fun s7 I7=>?_) (.inr hn)
  refine wpAny_mono (hs ea (X.pn++pins) [] s7 _ _ (D.un i) I7 (hts ea hne)) (fun f s8 q8=>?_) (fun _ _ z=>False.elim z)
  have hcl:(X.env.scope.kind == .class||(X.env.scope.kind == .module&&X.env.locals != X.env.globals))=false:=by rw[I.ok.kind];rfl
  have goes:∀{σ8:St} {H8:Hp},Inv (X.suite ea (X.pn++pins)) [] σ8 H8 s8->∀(R:Unit->Shared->Prop),(∀s9,Inv X pins (σ8.set i none) H8 s9->R () s9) ->
    wpAny (model X.prog X.w) X.A (do bindName X.env n .none;unbindBehindTheSuite X.env n hpos) R X.xe s8:=fun {σ8 H8} I8 R hR=>by
   have I8':Inv X pins σ8 H8 s8:=I8.ofSuite I.ok.hd
   obtain⟨m,hns,hl⟩:=I8'.loc
   exact wpAny_nameGoes_keeps hn hns hcl fun h9 v hn9 sb=>hR _ (I8'.forget hN hi hn hl hns hn9 sb)
  cases f with
  |next=>obtain⟨σ8,H8,I8,q⟩:=q8;exact goes I8 _ fun s9 I9=>⟨_,H8,I9,q⟩
  |brk=>obtain⟨σ8,H8,I8,q⟩:=q8;exact goes I8 _ fun s9 I9=>⟨_,H8,I9,q⟩
  |cont=>obtain⟨σ8,H8,I8,q⟩:=q8;exact goes I8 _ fun s9 I9=>⟨_,H8,I9,q⟩
  |ret v=>obtain⟨x8,σ8,H8,I8,r8,q⟩:=q8;exact goes I8 _ fun s9 I9=>⟨x8,_,H8,I9,r8,q⟩
theorem YW  : NT X (.builtin "isinstance") (fun xs H Q=>∃ea C c cv b,xs=[.ref ea,c]/\H ea=some (excO ea C)/\ExcCls X.K C/\(∀u,RelV c u->u=cv)/\PySem.W.kitOne X.K (.ref C) cv=some b/\Q (.bl b) H):=by
 intro pins s σ H xs us Q I r h
 obtain⟨ea,C,c,cv,b,rfl,hea,hC,hc,hk,q⟩:=h
 obtain⟨u,w',rfl,rx,rc⟩:=vals2 r
 rw[hc _ rc]
 cases rx
 obtain⟨p,_,_⟩:=(show C4 X.prog X.w H s.heap ea (.ext (ExcAt ea C)) from I.hok ea _ hea)
 exact PySem.W.kia_one (Gh_ hC) I.kIn p hk (fun z=>nomatch z) fun tk=>⟨.bl b,H,I.tok tk,rfl,q⟩
end L2
namespace HT
open PySem PySem.Spec PyProof.Rows
open PySem.AutoSeq1 (wpAny_loadPart')
section
open PySem.SeqAt PySem.MeetsSeq PySem.MeetsSeq2 PySem.MeetsSeq3
theorem tuple_addW0 (l b:Addr)(items items2:Array Value)(n n2:Nat)(dd dd2:Option Addr)(sl sl2:Array (Option Value))(hc0:items.isEmpty=true):
  Meets (Builtin.«tuple.__add__» ⟨[.ref l,.ref b],[]⟩) (fun _ R s=>s.heap.get? l=some {cls:=.type "tuple",dict:=dd,data:=.seq items n,slots:=sl}/\s.heap.get? b=some {cls:=.type "tuple",dict:=dd2,data:=.seq items2 n2,slots:=sl2}/\R (.ok (.ret (Value.ref b))) {s with heap:=s.heap,toks:=s.toks}):=
 .of_wp fun prog w A R s h=>by obtain⟨hp,g,d,tk,os⟩:=s;obtain⟨hl,hb,h⟩:=h;have f1:=AutoSeq1.idx_int;have f2:=AutoSeq1.sub_tuple_tuple;have f3:=AutoSeq1.sub_list_list;have f4:=AutoSeq1.sub_tuple_list;have f5:=AutoSeq1.sub_list_tuple;wp_walk using wpAny_loadPart' hl,wpAny_loadPart' hb;exact⟨_,rfl,h⟩
end
end HT
namespace L2
open PySem PySem.Spec PyProof.Rows
section
variable {X:Cx}
def Kq (K:PySem.W.Frag):R2:=fun x y H Q=>∃a b xs ys,x=.ref a/\y=.ref b/\SqT K H a xs/\SqT K H b ys/\xs.length+ys.length<=sizeLine /\
 (xs=[]->Q (.ref b) H)/\(xs ≠ []->ys=[]->Q (.ref a) H)/\(xs ≠ []->ys ≠ []->∀p,H p=none->Q (.ref p) (upd H p (.tup (xs++ys))))
theorem J4:OpR X (binaryOp .Add) (Kq X.K):=by
 intro pins s σ H x y v u Q I rx ry h
 obtain⟨a,b,xs,ys,rfl,rfl,ha,hb,hz,q0,q1,q2⟩:=h
 by_cases hx:xs=[]
 ·subst hx
  cases rx
  cases ry
  obtain⟨its,r1,p1,_⟩:=I.tuple ha
  obtain⟨its2,r2,p2,_⟩:=I.tuple hb
  have:its=[]:=r1.nil_iff.mpr rfl
  subst this
  obtain⟨⟨cls,dd,data,sl⟩,ho,hc,n,hd⟩:=id p1
  obtain⟨⟨cls2,dd2,data2,sl2⟩,ho2,hc2,n2,hd2⟩:=id p2
  simp only at hc hd hc2 hd2
  subst hc hd hc2 hd2
  exact concat_meets ⟨_,ho,rfl⟩ ⟨_,ho2,rfl⟩ noFill_tuple_add seq_tuple_add PySem.F.slot_tuple_add PySem.F.entry_tuple_add (PySem.F.args_tuple_add_2 _ _)
   (HT.tuple_addW0 a b _ _ n n2 dd dd2 sl sl2 rfl) ⟨ho,ho2,⟨.ref b,H,I,rfl,q0 rfl⟩⟩
 ·exact In_ pins s σ H _ _ v u Q I rx ry ⟨a,b,xs,ys,rfl,rfl,ha,hb,hx,hz,q1 hx,q2 hx⟩
end
theorem EH_      (Pv:Nat->St->Hp->Prop)(h0:∃m,Pv m σ H)
  (hs:∀m σ H,Pv m σ H->c σ H fun b H1=>if b=true then ∃N:St->Hp->Prop,(∀σ' H',N σ' H'->∃m',m'<m/\Pv m' σ' H')/\tb {D with nx:=N,ct:=N,bk:=D.nx} σ H1 else D.nx σ H1):GT_ c tb D σ H:=⟨Pv,h0,hs⟩
theorem JV_ {K:PySem.W.Frag}    {lo hi:Option Int}:rSlT K x lo hi H Q=∃a xs,x=.ref a/\SqT K H a xs /\
 ¬ (HT.sIx xs.length 0 lo=0/\HT.sIx xs.length xs.length hi=xs.length)/\∀p,H p=none->Q (.ref p) (upd H p (.tup (cutV xs lo hi))):=rfl
inductive TyW (K:PySem.W.Frag)(H:Hp):V->Value->Prop where
 | non:TyW K H .non (.type "NoneType")
 | bl (x:Bool):TyW K H (.bl x) (.type "bool")
 | int (i:Int):TyW K H (.int i) (.type "int")
 | str (x:Str):TyW K H (.str x) (.type "str")
 | lst {a:Addr} {xs:List V} (e:SqL K H a xs):TyW K H (.ref a) (.type "list")
 | tup {a:Addr} {xs:List V} (e:SqT K H a xs):TyW K H (.ref a) (.type "tuple")
 | exc {a C:Addr} (e:H a=some (excO a C)) (c:ExcCls K C):TyW K H (.ref a) (.ref C)
theorem F6  : NT X (.builtin "isinstance") (fun xs H Q=>∃x c cv t b,xs=[x,c]/\TyW X.K H x t/\(∀u,RelV c u->u=cv)/\PySem.W.kitOne X.K t cv=some b/\Q (.bl b) H):=by
 intro pins s σ H xs us Q I r h
 obtain⟨x,c,cv,t,b,rfl,ty,hc,hk,q⟩:=h
 cases ty with
 |non=>exact Iq pins s σ H _ us Q I r ⟨_,c,cv,_,b,rfl,.non,hc,hk,q⟩
 |bl y=>exact Iq pins s σ H _ us Q I r ⟨_,c,cv,_,b,rfl,.bl y,hc,hk,q⟩
 |int y=>exact Iq pins s σ H _ us Q I r ⟨_,c,cv,_,b,rfl,.int y,hc,hk,q⟩
 |str y=>exact Iq pins s σ H _ us Q I r ⟨_,c,cv,_,b,rfl,.str y,hc,hk,q⟩
 |exc e hC=>exact YW pins s σ H _ us Q I r ⟨_,_,c,cv,b,rfl,e,hC,hc,hk,q⟩
 |@lst a xs e=>
  obtain⟨u,w',rfl,rx,rc⟩:=vals2 r
  rw[hc _ rc]
  cases rx
  obtain⟨its,_,pl,_⟩:=I.list e
  obtain⟨o,ho,hcl,_⟩:=pl.isList
  exact PySem.W.kia_one PySem.W.kitx_list I.kIn ⟨o,ho,hcl⟩ hk (fun z=>nomatch z) fun tk=>⟨.bl b,H,I.tok tk,rfl,q⟩
 |@tup a xs e=>
  obtain⟨u,w',rfl,rx,rc⟩:=vals2 r
  rw[hc _ rc]
  cases rx
  obtain⟨its,_,⟨o,ho,hcl,_⟩,_⟩:=I.tuple e
  exact PySem.W.kia_one PySem.W.kitx_tuple I.kIn ⟨o,ho,hcl⟩ hk (fun z=>nomatch z) fun tk=>⟨.bl b,H,I.tok tk,rfl,q⟩
end L2
namespace GW
def JW_ (L:Int):List Int->List Int
 |[]=>[0]
 |x::r=>if x=L-1 then 0::JW_ L r else (x+1)::r
def Gp (L:Int)(w:List Int):List Int:=(JW_ L w.reverse).reverse
def Hp_ (L:Int):List Int->Int
 |[]=>0
 |x::r=>Hp_ L r*L+x+1
def place (L:Int)(w:List Int):Int:=Hp_ L w.reverse
def inW (L x:Int):Bool:=decide (0<=x)&&decide (x<L)
def isW (L:Int)(ws:List Int):Bool:=ws.all (inW L)
theorem Ix_  : inW L x=true↔0<=x/\x<L:=by simp[inW]
theorem Cg   : isW L ws=true ↔ ∀x∈ws,0<=x/\x<L:=by simp[isW,Ix_]
def many (L:Int):Nat->Int
 |0=>0
 |k+1=>many L k*L+1
def val (L:Int):List Int->Int
 |[]=>0
 |x::r=>val L r*L+x
end GW
namespace L2
open PySem PySem.Spec PyProof.Rows
theorem boot_ValueError:bootBuiltins "ValueError"=some (.type "ValueError"):=by decide +kernel
section
variable {P:Program} {w:World} {K:PySem.W.Frag} {mg:Str->Option Value} {base:Heap}
theorem Fun.okE  {st:Stmt}      (F:Fun K x qual st f fd)(S:FnScope N ps (Ab st))(len:∀vs H Q E,sp vs H Q E->vs.length=ps.length)
  (hbody:∀(cdv:Value) (A:Around) (outer:List Env) (s:Shared) (H:Hp) (vs:List V) (Q:VK) (E:XK),Room k (A.deeper (envOfC qual (Ab st) s.heap.objs.size f cdv))->sp vs H Q E ->
   ∃t,PSs (cxOf (CXe P w) P w K mg base N qual (Ab st) f cdv A outer s H E) (Ak st) t/\t {nx:=fun _ H'=>Q .non H',rt:=Q} (start N vs) H):FnOk P w K mg base (CXe P w) (k+1) f fd ps sp:=by
 obtain⟨oc,od,kV,doc,pm,an,cdv,ct,osl,rfl,lk,hcd⟩:=F.ex
 exact Jt_ lk hcd S len fun A outer s H vs Q E hr hsp=>hbody cdv A outer s H vs Q E hr hsp
theorem P5  : Lk (CXe P w) X E0:=fun _ _ _ _ _ _ _ h=>by
 obtain⟨_,_,_,_,_,_,_,_,_,_,q⟩:=h
 exact q.elim
end
section
variable {te ta tb:TE} {A:TA} {D:Ends} {σ:St} {H:Hp} {Q:VK} {K:PySem.W.Frag} {tbd ts:TS}
theorem EI_   : Ho_ C E A D σ H=A σ H fun vs H1=>vs.length<=sizeLine/\E (.ref C) none H1:=rfl
theorem JX_    : tTry K Ca i E tbd ts D σ H=(tbd D σ H/\∀σ' cls H',E σ' cls none H' ->
 ∃C,cls=.ref C/\PySem.W.exmOne K (.ref C) (.ref Ca)=some true/\∀ea,H' ea=none->ts (D.un i) (σ'.set i (some (.ref ea))) (upd H' ea (excO ea C))):=rfl
theorem Hq_  : (Ends.un D i).nx σ H=D.nx (σ.set i none) H:=rfl
theorem Hr_   : (Ends.un D i).rt v H=D.rt v H:=rfl
end
end L2
namespace L2
open PySem PySem.Spec PyProof.Rows
theorem Iy_ (x y:Int):eqV (.int x) (.int y)=decide (V.int x=V.int y):=by
 by_cases h:x=y
 ·subst h;simp[eqV]
 ·rw[decide_eq_false (fun z=>h (by injection z))];simp[eqV,h]
theorem EqD.ints {K:PySem.W.Frag}{H:Hp}{a c:Addr}{xs ys:List Int}(hq:(SqL K H a (xs.map V.int)/\SqL K H c (ys.map V.int))\/(SqT K H a (xs.map V.int)/\SqT K H c (ys.map V.int)))(n:Nat):EqD K H (n+1) (.ref a) (.ref c) (decide (xs=ys)):=by
 have:=EqD.flat hq (fun x hx=>by obtain⟨_,_,rfl⟩:=OH hx;rfl) (fun x hx=>by obtain⟨_,_,rfl⟩:=OH hx;rfl) (fun x hx y hy=>by obtain⟨_,_,rfl⟩:=OH hx;obtain⟨_,_,rfl⟩:=OH hy;exact Iy_ _ _) n
 have e:decide (xs.map V.int=ys.map V.int)=decide (xs=ys):=by
  rw[Bool.eq_iff_iff]
  simp only[decide_eq_true_eq]
  constructor
  ·intro h
   exact (List.map_inj_right (fun a b h=>by injection h)).mp h
  ·intro h;rw[h]
 rw[e]at this
 exact this
end L2
namespace L2
open PySem PySem.Spec PyProof.Rows
section
variable {X:Cx} {K:PySem.W.Frag}
theorem WE (h:X.K=K):IxR X (rIxT K):=by subst h;exact CY
end
end L2
namespace GW
def KD (ways:List (List Int))(r x:Int):Int:=(ways.getD r.toNat []).getD x.toNat 0
def Fp (ways:List (List Int))(ws:List Int):Int:=ws.foldl (KD ways) 0
def S5 (ways:List (List Int))(ws:List Int):List Int:=(List.range (ws.length+1)).map fun j=>Fp ways (ws.take j)
structure Wf (L:Int)(marks:List Int)(ways:List (List Int)):Prop where
 l1:1<=L
 l6:L<=6
 n1:1<=marks.length
 n40:marks.length<=40
 len:ways.length=marks.length
 rows:∀row∈ways,(row.length:Int)=L/\∀x∈row,0<=x/\x<marks.length
 mks:∀m∈marks,0<=m/\m<=1000000000
theorem SA     (h1:ways[r.toNat]?=some row)(h2:row[x.toNat]?=some g):KD ways r x=g:=by
 unfold KD
 have e:ways.getD r.toNat []=row:=by rw[List.getD_eq_getElem?_getD,h1];rfl
 rw[e,List.getD_eq_getElem?_getD,h2];rfl
theorem Wf.row {L:Int}{marks:List Int}{ways:List (List Int)}(wf:Wf L marks ways){r:Int}(h0:0<=r)(h1:r<marks.length):∃row,ways[r.toNat]?=some row/\row∈ways/\(row.length:Int)=L:=by
 have hlt:r.toNat<ways.length:=by rw[wf.len];omega
 exact⟨ways[r.toNat],by simp[hlt],List.getElem_mem hlt,(wf.rows _ (List.getElem_mem hlt)).1⟩
theorem Wf.step {L:Int}{marks:List Int}{ways:List (List Int)}(wf:Wf L marks ways){r x:Int}(h0:0<=r)(h1:r<marks.length)(x0:0<=x)(x1:x<L):∃row g,ways[r.toNat]?=some row/\row[x.toNat]?=some g/\KD ways r x=g/\0<=g/\g<marks.length:=by
 obtain⟨row,hr,hm,hl⟩:=wf.row h0 h1
 have hlt:x.toNat<row.length:=by omega
 have hg:row[x.toNat]?=some row[x.toNat]:=by simp[hlt]
 exact⟨row,row[x.toNat],hr,hg,SA hr hg,(wf.rows row hm).2 _ (List.getElem_mem hlt)⟩
theorem Df_ (ways:List (List Int))(ws:List Int)(x:Int):Fp ways (ws++[x])=KD ways (Fp ways ws) x:=by
 unfold Fp
 rw[List.foldl_append];rfl
theorem M5 {ways:List (List Int)}{ws:List Int}{i:Nat}{x:Int}(h:ws[i]?=some x):Fp ways (ws.take (i+1))=KD ways (Fp ways (ws.take i)) x:=by
 rw[List.take_add_one,h]
 exact Df_ _ _ _
theorem Wf.walk    (wf:Wf L marks ways)  (hw:isW L ws=true):∀i,0<=Fp ways (ws.take i)/\Fp ways (ws.take i)<marks.length:=by
 intro i
 induction i with
 |zero=>have:=wf.n1;simp[Fp];omega
 |succ i ih=>
  cases e:ws[i]? with
  |none=>
   have hle:=List.getElem?_eq_none_iff.mp e
   rw[List.take_of_length_le (by omega)]
   rw[List.take_of_length_le hle]at ih
   exact ih
  |some x=>
   rw[M5 e]
   have hx:=Cg.mp hw x (List.mem_of_getElem? e)
   obtain⟨_,g,_,_,h,h0,h1⟩:=wf.step ih.1 ih.2 hx.1 hx.2
   rw[h];exact⟨h0,h1⟩
theorem WG (ways:List (List Int))(ws:List Int):(S5 ways ws).length=ws.length+1:=by simp[S5]
end GW
namespace L2
open PySem PySem.Spec PyProof.Rows GW
def Rows (K:PySem.W.Frag)(H:Hp)(w:Addr)(ways:List (List Int)):Prop:=∃ts:List Addr,SqT K H w (ts.map V.ref)/\ts.length=ways.length/\∀(i:Nat) (t:Addr) (row:List Int),ts[i]?=some t->ways[i]?=some row->SqT K H t (row.map V.int)
theorem Rows.mono {K:PySem.W.Frag}    (h:Rows K H w ways)(e:Same H H'):Rows K H' w ways:=by
 obtain⟨ts,h1,h2,h3⟩:=h
 exact⟨ts,e.seqT h1,h2,fun i t r a b=>e.seqT (h3 i t r a b)⟩
theorem Rows.at {K:PySem.W.Frag}{H:Hp}{w:Addr}{ways:List (List Int)}(h:Rows K H w ways){i:Nat}{row:List Int}(hr:ways[i]?=some row):∃xs t,SqT K H w xs/\atI xs (i:Int)=some (V.ref t)/\SqT K H t (row.map V.int):=by
 obtain⟨ts,h1,h2,h3⟩:=h
 have hlt:i<ts.length:=by rw[h2];exact (List.getElem?_eq_some_iff.mp hr).1
 have ht:ts[i]?=some ts[i]:=by simp[hlt]
 exact⟨_,ts[i],h1,P0 (by rw[List.getElem?_map,ht];rfl),h3 i _ _ ht hr⟩
theorem Rows.atZ {K:PySem.W.Frag}    (h:Rows K H w ways)   (h0:0<=r)(hr:ways[r.toNat]?=some row):∃xs t,SqT K H w xs/\atI xs r=some (V.ref t)/\SqT K H t (row.map V.int):=by
 obtain⟨xs,t,a,b,c⟩:=h.at hr
 exact⟨xs,t,a,by rw[<-b];congr 1;omega,c⟩
theorem AT_    (h:xs[xs.length-1]?=some v):atI xs (-1)=some v:=by
 have hlt:=(List.getElem?_eq_some_iff.mp h).1
 unfold atI ixN
 rw[if_neg (by omega),if_pos (by omega)]
 show xs[(-1+(xs.length:Int)).toNat]?=some v
 rw[show (-1+(xs.length:Int)).toNat=xs.length-1 by omega]
 exact h
theorem S6 {ns:List Int}{i:Int}{v:Int}(h0:0<=i)(h:ns[i.toNat]?=some v):atI (ns.map V.int) i=some (V.int v):=JS_ h0 (by rw[List.getElem?_map,h];rfl)
end L2
namespace L2
open PySem PySem.Spec PyProof.Rows
section
variable {X:Cx} {pins:List (Addr×Obj)} {σ:St} {H:Hp} {s:Shared}
theorem Inv.un2  {e it:Addr}(I:Inv X pins σ H s)(k:∀b o,b≠e->b≠it->s.heap.get? b=some o->h'.get? b=some o)(f1:FpOk X pins H e)(f2:FpOk X pins H it):Un (frs X.stack) [e,it] H H s.heap h'/\HOk X.prog X.w H h':=by
 have ne:∀b u,H b=some u->b≠e/\b≠it:=fun b u q=>⟨(fun z=>by rw[z,f1.1]at q;cases q),(fun z=>by rw[z,f2.1]at q;cases q)⟩
 have nch:∀{b:Addr},b ∉ [e,it]->b≠e/\b≠it:=fun hb=>by simpa using hb
 refine⟨⟨fun b o q _ _ hb=>k b o (nch hb).1 (nch hb).2 q,fun b o q _ _ hb=>⟨o.slots,k b o (nch hb).1 (nch hb).2 q⟩,fun _ _ _ n _=>n,fun b o q hb=>⟨o,k b o (nch hb).1 (nch hb).2 q⟩,fun _ _ q=>q,fun _ _ _ q=>q,fun b ps q=>⟨#[],by rw[q];simp⟩⟩,fun b u q=>?_⟩
 refine (I.hok b u q).stay (fun c v hc qv=>?_) (fun _ q=>q) fun _ _ q=>q
 have hne:c≠e/\c≠it:=by
  rcases hc with rfl|hc
  ·exact ne _ _ q
  ·exact ne _ _ hc
 exact k c v hne.1 hne.2 qv
theorem FpOk.ch  (f:FpOk X pins H b):(b∈X.ex\/X.s₀.heap.objs.size<=b)/\b≠X.env.locals/\(∀x c,X.env.cells.lookup x=some c->c≠b)/\∀p∈X.pn++pins,p.1≠b:=⟨f.2.2.2.1,f.2.1,f.2.2.2.2.1,f.2.2.2.2.2⟩
end
theorem Hs_ {K:PySem.W.Frag}       : gTup K n t v σ H N=∃a xs,v=.ref a/\SqT K H a xs/\xs.length=n/\t xs σ H N:=rfl
theorem EJ_       : Jn_ t u vs σ H N=∃v r,vs=v::r/\t v σ H fun σ' H'=>u r σ' H' N:=rfl
theorem Ht_     : gNil vs σ H N=(vs=[]/\N σ H):=rfl
section
variable {td ty tv tx:TE} {D:Ends} {σ:St} {H:Hp} {Q:VK}
theorem Hu_:Jy_ td ty σ H Q=td σ H fun x H1=>ty σ H1 fun y H2=>∃a v,x=.ref a/\DGet H2 a y (some v)/\Q v H2:=rfl
theorem Hv_:Jz_ td ty tv D σ H=tv σ H fun v H1=>td σ H1 fun x H2=>ty σ H2 fun y H3=>∃a H4,x=.ref a/\DPut H3 a y v H4/\D.nx σ H4:=rfl
theorem EK_:Hb_ td ty σ H Q=td σ H fun x H1=>∃a,x=.ref a/\IsD H1 a/\ty σ H1 fun y H2=>∃o,DGet H2 a y o/\Q (o.getD .non) H2:=rfl
end
end L2
namespace GW
def Hw_ (w:List Int):List (Int×List Int)->Nat->List Int->List (Int×List Int)
 |ents,_,[]=>ents
 |ents,x,g::r=>Hw_ w (if g∈ents.map (·.1) then ents else ents++[(g,w++[(x:Int)])]) (x+1) r
def bfs (ways:List (List Int)):Nat->List (Int×List Int)->Nat->List (Int×List Int)
 |0,ents,_=>ents
 |f+1,ents,i=>match ents[i]? with
  |none=>ents
  |some e=>bfs ways f (Hw_ e.2 ents 0 (ways.getD e.1.toNat [])) (i+1)
def EL_ (ways:List (List Int)):List (Int×List Int):=bfs ways (ways.length+1) [(0,[])] 0
end GW
namespace L2
open PySem PySem.Spec PyProof.Rows
def ups (n:Nat):List Int:=(List.range n).map fun i:Nat=>(i:Int)
def rNeD (K:PySem.W.Frag)(n:Nat):R2:=fun x y H Q=>∃a c b,x=.ref a/\y=.ref c/\EqD K H n x y b/\Q (.bl (!b)) H
theorem JY_ {K:PySem.W.Frag}     : rNeD K n x y H Q=∃a c b,x=.ref a/\y=.ref c/\EqD K H n x y b/\Q (.bl (!b)) H:=rfl
theorem JZ_  (n:Nat)(hu:X.A.units+n<cLine):OpR X (compareOp .NotEq) (rNeD X.K n):=by
 intro pins s σ H x y v u Q I rx ry h
 obtain⟨a,c,b,rfl,rfl,h,q⟩:=h
 cases rx
 cases ry
 cases n with
 |zero=>exact absurd (show false=true from h.1) Bool.false_ne_true
 |succ n=>
  rcases h with ⟨fx,_⟩|⟨a',c',xs,ys,e1,e2,hq,e,he,rfl⟩
  ·exact absurd (show false=true from fx) Bool.false_ne_true
  ·cases e1
   cases e2
   have key:∀(its its2:List Value),Vals xs its->Vals ys its2->∀j (h1:j<its.toArray.size) (h2:j<its2.toArray.size),SeqAt.EqAt X.A.in1 s its.toArray[j] its2.toArray[j] (e j):=fun its its2 r1 r2 j h1 h2=>by
    have l1:=r1.length
    have l2:=r2.length
    rw[List.size_toArray]at h1 h2
    obtain⟨u1,g1,q1⟩:=r1.get (i:=j) (x:=xs[j]'(by omega)) (by simp[show j<xs.length by omega])
    obtain⟨u2,g2,q2⟩:=r2.get (i:=j) (x:=ys[j]'(by omega)) (by simp[show j<ys.length by omega])
    have k1:its.toArray[j]'(by rw[List.size_toArray];exact h1)=u1:=by
     have:=(List.getElem?_eq_some_iff.mp g1).2
     simpa using this
    have k2:its2.toArray[j]'(by rw[List.size_toArray];exact h2)=u2:=by
     have:=(List.getElem?_eq_some_iff.mp g2).2
     simpa using this
    rw[k1,k2]
    exact (EqD.at I n X.A.in1 (by rw[in1_units];omega) q1 q2 (he j _ _ (by simp[show j<xs.length by omega]) (by simp[show j<ys.length by omega]))).1
   have fin:EP X pins σ Q (.bool (!(decide (xs.length=ys.length)&&(List.range (min xs.length ys.length)).all e))) s:=⟨.bl _,H,I,rfl,q⟩
   rcases hq with ⟨h1,h2⟩|⟨h1,h2⟩
   ·obtain⟨its,r1,p1,_⟩:=I.list h1
    obtain⟨its2,r2,p2,_⟩:=I.list h2
    have l1:=r1.length
    have l2:=r2.length
    by_cases hl:xs.length=ys.length
    ·have:=SeqAt.RcNeAt.lists (e:=e) p1.isList p2.isList (by rw[List.size_toArray,List.size_toArray];omega) (by omega) (key its its2 r1 r2)
     rw[List.size_toArray,<-l1]at this
     rw[decide_eq_true hl,Bool.true_and,<-hl,Nat.min_self]at fin
     exact this _ _ _ _ fin
    ·have:=SeqAt.RcNeAt.lists_lengths (A:=X.A) p1.isList p2.isList (by rw[List.size_toArray,List.size_toArray];simp;omega) (by omega)
     rw[decide_eq_false hl,Bool.false_and]at fin
     exact this _ _ _ _ fin
   ·obtain⟨its,r1,p1,_⟩:=I.tuple h1
    obtain⟨its2,r2,p2,_⟩:=I.tuple h2
    have l1:=r1.length
    have l2:=r2.length
    have:=SeqAt.RcNeAt.tuples (e:=e) (show s.heap.IsTuple a its.toArray from p1) (show s.heap.IsTuple c its2.toArray from p2) (by omega) (key its its2 r1 r2)
    rw[List.size_toArray,List.size_toArray,<-l1,<-l2,Ex_]at this
    exact this _ _ _ _ fin
theorem Vals.ofIx:∀{xs:List V} {us:List Value},us.length=xs.length->(∀(i:Nat) (v:Value),us[i]?=some v->∃x,xs[i]?=some x/\RelV x v)->Vals xs us
 |[],[],_,_=>.nil
 |[],_::_,h,_=>by simp at h
 |_::_,[],h,_=>by simp at h
 |x::xs,u::us,h,k=>by
  refine .cons ?_ (Vals.ofIx (by simpa using h) fun i v hv=>?_)
  ·obtain⟨y,e,r⟩:=k 0 u rfl
   cases e
   exact r
  ·obtain⟨y,e,r⟩:=k (i+1) v (by simpa using hv)
   exact⟨y,by simpa using e,r⟩
def Itm (K:PySem.W.Frag)(a:Addr)(xs:List V):It:=⟨fun i H=>i<xs.length/\SqL K H a xs,fun i H x H'=>∃t v,H t=none/\xs[i]?=some v/\x=.ref t/\H'=upd H t (.tup [.int i,v]),fun i H=>i=xs.length/\SqL K H a xs⟩
theorem Dg_ {P:Program}{w:World}{K:PySem.W.Frag}{elts:List Expr}{x1}{tpos:Pos}(a e it:Addr)(hei:e≠it)(hai:a≠it)(hae:a≠e)(xs:List V):Turn P w K (.Tuple elts x1 tpos) (Itm K a xs) [e,it] e (fun i h=>∃old,IsEnum h e it (i:Nat) old/\h.IsListIter it a i) where
 mem:=by simp
 obj:=fun i h st b hb=>by
  obtain⟨old,h1,o,h2,c,d⟩:=st
  rcases List.mem_cons.mp hb with rfl|hb
  ·exact⟨_,h1,fun v z=>by cases z⟩
  ·rw[List.mem_singleton.mp hb]
   exact⟨o,h2,fun v z=>by rw[d]at z;cases z⟩
 keep:=fun i h h' st k=>by
  obtain⟨old,h1,h2⟩:=st
  exact⟨old,k e (by simp) _ h1,h2.at fun o q=>k it (by simp) o q⟩
 item:=by
  intro X hP hw hK hc i pins s σ H E I hf st hg
  subst hP hw hK
  obtain⟨hi,hq⟩:=hg
  obtain⟨old,he,hit⟩:=st
  obtain⟨its,rv,p,hz⟩:=I.list hq
  have hl:=rv.length
  have pt:s.heap.IsList a its.toArray:=p.isList
  have f1:=hf e (by simp)
  have f2:=hf it (by simp)
  have Dw:=Draws.list (prog:=X.prog) (w:=X.w) (A:=X.A.in1) (I.ok.hd hc) it a hai its.toArray
  refine wpAny_pyNext_enum_itemD Dw he ⟨hit,pt⟩ (by simp;omega) hei (by simp[hei,Ne.symm hae]) fun u h' tk hu heo hst' hget hsz hk=>?_
  have hT:s.heap.objs.size≠e:=Nat.ne_of_gt (Heap.lt_size he)
  refine⟨_,rfl,wpAny_letOwnedTupleGo_enum heo fun h2 he2 hs2=>?_⟩
  have hk2:∀b o,b≠e->b≠it->s.heap.get? b=some o->h2.get? b=some o:=fun b o h1 h3 q=>(hs2.2 b h1).trans (hk b o h1 h3 q)
  obtain⟨un,hok⟩:=I.un2 hk2 f1 f2
  have hn:H s.heap.objs.size=none:=I.hok.fresh (Nat.le_refl _)
  have hv:xs[i]?=some xs[i]:=by simp[hi]
  obtain⟨u',hu',ru⟩:=rv.get hv
  have eu:u'=u:=by
   have hu2:its[i]?=some u:=by simpa using hu
   rw[hu']at hu2
   exact Option.some.inj hu2
  subst eu
  have hget2:h2.get? s.heap.objs.size=some {cls:=.type "tuple",data:=.seq #[.int i tk,u']}:=(hs2.2 _ hT).trans hget
  have new:C4 X.prog X.w (upd H s.heap.objs.size (.tup [.int i,xs[i]])) h2 s.heap.objs.size (.tup [.int i,xs[i]]):=⟨by have:=Ao;simp;omega,[.int i tk,u'],.cons ⟨tk,rfl⟩ (.cons ru .nil),_,hget2,rfl,_,rfl⟩
  refine⟨.ref s.heap.objs.size,upd H s.heap.objs.size (.tup [.int i,xs[i]]),I.call' (s':={s with heap:=h2,toks:=tk+1}) (ch:=[e,it]) rfl (un.track (Nat.le_refl _) hn) (hok.track hn new) I.bare (fun b hb=>?_),rfl,⟨_,_,hn,hv,rfl,rfl⟩,?_,fun b hb=>?_⟩
  ·exact (hf b hb).ch
  ·refine⟨u',by simpa using he2,?_⟩
   exact hst'.1.at fun o q=>(hs2.2 it (Ne.symm hei)).trans q
  ·have hb':=hf b hb
   have:∃o,s.heap.get? b=some o:=by
    rcases List.mem_cons.mp hb with rfl|hb
    ·exact⟨_,he⟩
    ·rw[List.mem_singleton.mp hb]
     obtain⟨o,ho,_⟩:=hit
     exact⟨o,ho⟩
   obtain⟨o,ho⟩:=this
   rw[Ah (Nat.ne_of_lt (Heap.lt_size ho))]
   exact hb'.1
 done:=by
  intro X hP hw hK hc i pins s σ H E I hf st hg
  subst hP hw hK
  obtain⟨hi,hq⟩:=hg
  subst hi
  obtain⟨old,he,hit⟩:=st
  obtain⟨its,rv,p,hz⟩:=I.list hq
  have hl:=rv.length
  have pt:s.heap.IsList a its.toArray:=p.isList
  have Dw:=Draws.list (prog:=X.prog) (w:=X.w) (A:=X.A.in1) (I.ok.hd hc) it a hai its.toArray
  obtain⟨f0,f1,f2,f3,f4,f5⟩:=hf it (by simp)
  refine wpAny_pyNext_enum_endD Dw he ⟨by rw[List.size_toArray,<-hl];exact hit,pt⟩ fun h' eb=>⟨rfl,I.turned (t':=s.toks) (fun b o hb e=>eb b o hb e) f0 f1 f3 f4 f5⟩
 self:=fun A i s Q E st h=>by
  obtain⟨old,he,_⟩:=st
  exact wpAny_pyIter_enum he h
def Hx_ (K:PySem.W.Frag)(tl:TE):TI:=fun σ H R=>tl σ H fun x H1=>∃a xs,x=.ref a/\SqL K H1 a xs/\R (Itm K a xs) H1
theorem Cr_ {K:PySem.W.Frag}     : Hx_ K te σ H Z=te σ H fun x H1=>∃a xs,x=.ref a/\SqL K H1 a xs/\Z (Itm K a xs) H1:=rfl
theorem Gi_   {x1}     (hg:Gl X "enumerate")(hm:X.mg "enumerate"=none)(he:PE X e te)(hs:starEach [e] X.env=[(false,eval e X.env)]:=by rfl):PI X (.Tuple elts x1 tpos) (.Call (.Name "enumerate" p) [e] [] pos) (Hx_ X.K te):=by
 intro pins s σ H R I h
 refine Call_ (SM I hg hm boot_enumerate (PyProof.Rows.callWith_type1 (thn (Aa he Af hs pos pins s σ H (fun vs H1=>∃a xs,vs=[.ref a]/\SqL X.K H1 a xs/\R (Itm X.K a xs) H1) I ?_) fun us s1 ⟨vs,H1,I1,r1,q1⟩=>?_) hs rfl))
 ·show te σ H _
  have:(fun x H1=>∃a xs,x=V.ref a/\SqL X.K H1 a xs/\R (Itm X.K a xs) H1)=(fun x H1=>tNil σ H1 fun xs H2=>∃a ys,x::xs=[V.ref a]/\SqL X.K H2 a ys/\R (Itm X.K a ys) H2):=by
   funext x H1
   simp[tNil]
  rw[<-this]
  exact h
 ·obtain⟨a,xs,rfl,hq,q⟩:=q1
  cases r1 with
  |cons r rr=>
   cases rr
   cases r
   obtain⟨its,rv,p,hz⟩:=I1.list hq
   have pt:s1.heap.IsList a its.toArray:=p.isList
   obtain⟨oa,hoa,_⟩:=id pt
   have ha:=Heap.lt_size hoa
   refine call_enumerate_list pt fun h' he' hit' hsz hk=>?_
   refine wpAny_pyIter_enum (s:={s1 with heap:=h' }) he' ?_
   have I2:Inv X pins σ H1 {s1 with heap:=h' }:=I1.kept (t':=s1.toks) hk
   refine⟨s1.heap.objs.size+1,[s1.heap.objs.size+1,s1.heap.objs.size],_,_,H1,rfl,I2,Dg_ a (s1.heap.objs.size+1) s1.heap.objs.size (Nat.succ_ne_self _) (Nat.ne_of_lt ha) (Nat.ne_of_lt (Nat.lt_succ_of_lt ha)) xs,⟨_,he',hit'⟩,fun b hb=>?_,q⟩
   have hle:s1.heap.objs.size<=b:=by
    rcases List.mem_cons.mp hb with rfl|hb
    ·omega
    ·rw[List.mem_singleton.mp hb];exact Nat.le_refl _
   exact I1.fpOk hle (I1.hok.fresh hle)
theorem forM {K:PySem.W.Frag}        (Pv:Nat->St->Hp->Prop)(h0:Pv 0 σ H)(hl:∀i σ H,i<=xs.length->Pv i σ H->SqL K H a xs)
  (hs:∀i v σ H t,xs[i]?=some v->Pv i σ H->H t=none->g (.ref t) σ (upd H t (.tup [.int i,v])) fun σ2 H2=>tb {D with nx:=Pv (i+1),ct:=Pv (i+1),bk:=D.nx} σ2 H2) (hd:∀σ H,Pv xs.length σ H->D.nx σ H):ForW (Itm K a xs) g tb D σ H:=by
 refine⟨fun i m σ H=>m=xs.length-i/\i<=xs.length/\Pv i σ H,⟨xs.length,by simp,Nat.zero_le _,h0⟩,?_⟩
 rintro i m σ H ⟨rfl,hi,p⟩
 by_cases hlt:i<xs.length
 ·refine .inr ⟨⟨hlt,hl i σ H hi p⟩,Pv (i+1),fun σ' H' p'=>⟨xs.length-(i+1),by omega,rfl,hlt,p'⟩,fun x H' y=>?_⟩
  obtain⟨t,v,hn,hv,rfl,rfl⟩:=y
  exact hs i v σ H t hv p hn
 ·have e:i=xs.length:=by omega
  subst e
  exact .inl ⟨⟨rfl,hl _ σ H hi p⟩,hd σ H p⟩
theorem EM_     : GY_ x vs H Q=∃l xs i k y,x=.ref l/\vs=[.int i]/\H l=some (.lst xs) /\ -(2 ^ 63)<=i/\i<2 ^ 63/\seqIndex? i xs.length=some k/\xs[k]?=some y/\Q y (upd H l (.lst (xs.eraseIdx k))):=rfl
def rng (i j:Int):List Int:=(List.range (j-i).toNat).map fun k:Nat=>i+(k:Int)
end L2
namespace PySem
open Sem (wp)
def Heap.DEnt (h:Heap)(d:Addr)(es:Array DictEntry)(ep:Nat):Prop:=∃o,h.get? d=some o/\o.ExactDict/\o.data=.dict es ep
section
variable {prog:Program} {w:World} {A:Around} {E:Value->Shared->Prop} {s:Shared} {d it:Addr} {es:Array DictEntry} {i ep:Nat}
theorem Heap.DEnt.typeIs (h:s.heap.DEnt d es ep):s.TypeIs (.ref d) "dict" := let ⟨o,ho,hc,_⟩:=h;⟨o,ho,hc.1⟩
theorem Heap.DEnt.at {h h':Heap}(x:h.DEnt d es ep)(e:∀o,h.get? d=some o->h'.get? d=some o):h'.DEnt d es ep:=let ⟨o,ho,r⟩:=x;⟨o,e _ ho,r⟩
theorem Heap.DEnt.lt_size {h:Heap}(x:h.DEnt d es ep):d<h.objs.size:=let ⟨_,ho,_⟩:=x;Heap.lt_size ho
theorem S7  (hd:(d==sysModules)=false)(hm:s.heap.DEnt d es ep)
  (hQ:Q (.ref s.heap.objs.size) {s with heap:=s.heap.push {cls:=.type "dict_keyiterator",data:=.fields #[.ref d,.int 0 0,.int es.size 0,.int ep 0]} }):wpAny (model prog w) A (pyIter (.ref d)) Q E s:=by
 have hT:=hm.typeIs
 obtain⟨o,ho,hc,hdat⟩:=id hm
 refine wpAny_pyIter_slot hT F.slot_dict_iter (wpAny_call_entry F.slot_dict_iter hT F.entry_dict_iter (?_:wpAny _ _ (Builtin.«dict.__iter__» _) _ _ s) (F.args_dict_iter_1 _))
 unfold Builtin.«dict.__iter__»;refine wpAny_bind ?_
 unfold Builtin.Dict.dictSlotNone;refine wpAny_bind (wpAny_notOrdered_dict hT ?_)
 show wpAny _ _ (pure (Value.ref d)) _ _ s;refine wpAny_pure ?_
 show wpAny _ _ (Builtin.Dict.showsAll d >>= _) _ _ s;unfold Builtin.Dict.showsAll
 rw[if_neg (fun z=>by rw[hd]at z;cases z)]
 refine wpAny_bind (wpAny_pure (wpAny_bind (wpAny_dictEntries ho hdat (wpAny_bind (wpAny_dictEpoch ho hdat ?_)))))
 refine wpAny_bind (wpAny_newObj_type (wpAny_pure ⟨_,rfl,"dict_keyiterator",_,⟨_,Heap.get?_push_size _ rfl,rfl⟩,F.slot_dict_keyiterator_next.lookup,?_⟩));simpa [rawInt] using hQ
theorem Kr  (hit:s.heap.IsKeyIter it d i es.size ep)(hm:s.heap.DEnt d es ep)(hlt:i<es.size)
  (hQ:∀h',h'.IsKeyIter it d (i+1) es.size ep->Heap.SameBut it s.heap h'->Q (some es[i].key) {s with heap:=h' }):wpAny (model prog w) A (pyNext (.ref it)) Q E s:=by
 obtain⟨o,ho,hc,hd⟩:=id hit
 obtain⟨od,hod,hcd,hdd⟩:=id hm
 have hown:Builtin.Dict_items.ownsTuple "dict_keyiterator"=false:=by decide
 unfold pyNext
 refine wpAny_bind (wpAny_attempt (wpAny_callSpecial?_slot (name:=Str.ofString "__next__") hit.typeIs F.slot_dict_keyiterator_next (wpAny_call_entry F.slot_dict_keyiterator_next hit.typeIs F.entry_dict_keyiterator_next ?_ (F.args_dict_keyiterator_next_1 _))))
 refine wpAny_bind (wpAny_pure (wpAny_bind (wpAny_bind ?_)))
 first|refine wpAny_bind (wpAny_typeNameOfWhole_keyiter hit.typeIs (wpAny_pure (wpAny_bind (wpAny_fieldsOf ho hd ?_))))|refine wpAny_bind (wpAny_typeNameOf_keyiter hit.typeIs (wpAny_pure (wpAny_bind (wpAny_fieldsOf ho hd ?_))))
 simp only[hown,Bool.false_eq_true,if_false];show wpAny _ _ (if (Value.ref d==Value.none)=true then _ else _) _ _ s
 rw[if_neg (show ¬ ((Value.ref d==Value.none)=true) from fun z=>Bool.false_ne_true z)]
 refine wpAny_bind (wpAny_pure (wpAny_bind (wpAny_dictEntries hod hdd ?_)))
 rw[if_neg (by simp)];refine wpAny_bind (wpAny_pure (wpAny_bind (wpAny_dictEpoch hod hdd ?_)))
 rw[if_neg (by simp)];refine wpAny_pure ?_
 simp only[show ¬ ((i:Int)<0) from by omega,if_false,Int.toNat_natCast,Array.getElem?_eq_getElem hlt];refine wpAny_bind ?_
 first|refine wpAny_bind (wpAny_typeNameOfWhole_keyiter hit.typeIs (wpAny_pure (wpAny_bind (wpAny_isOneOf_keyiter hit.typeIs ?_))))|refine wpAny_bind (wpAny_typeNameOf_keyiter hit.typeIs (wpAny_pure (wpAny_bind (wpAny_isOneOf_keyiter hit.typeIs ?_))))
 show wpAny _ _ (setField (.ref it) 1 (rawInt ((i:Int)+1)) >>= _) _ _ s;refine wpAny_bind (wpAny_setField ho hd (by simp) ?_)
 have hit':(s.heap.update it (Obj.mapFields (·.setIfInBounds 1 (rawInt ((i:Int)+1))))).IsKeyIter it d (i+1) es.size ep:=⟨_,Heap.get?_update_self _ ho (Obj.isFreed_of_fields (Obj.data_mapFields hd _)),(Obj.cls_mapFields ..).trans hc,by rw[Obj.data_mapFields hd];simp[rawInt]⟩
 refine wpAny_bind (wpAny_holding (wpAny_bind (wpAny_isOneOf_keyiter (s:={s with heap:=s.heap.update it (Obj.mapFields (·.setIfInBounds 1 (rawInt ((i:Int)+1))))}) hit'.typeIs ?_)))
 show wpAny _ _ (pure es[i].key) _ _ _;exact wpAny_pure (wpAny_pure ⟨_,rfl,wpAny_pure (hQ _ hit' (Heap.SameBut.update ..))⟩)
theorem Lp  (hh:A.handled=none)(hit:s.heap.IsKeyIter it d i es.size ep)(hm:s.heap.DEnt d es ep)(hge:es.size<=i)
  (hQ:∀h',Heap.ExtBut it s.heap h'->Q none {s with heap:=h' }):wpAny (model prog w) A (pyNext (.ref it)) Q E s:=by
 obtain⟨o,ho,hc,hd⟩:=id hit
 obtain⟨od,hod,hcd,hdd⟩:=id hm
 have hown:Builtin.Dict_items.ownsTuple "dict_keyiterator"=false:=by decide
 unfold pyNext
 refine wpAny_bind (wpAny_attempt (wpAny_callSpecial?_slot (name:=Str.ofString "__next__") hit.typeIs F.slot_dict_keyiterator_next (wpAny_call_entry F.slot_dict_keyiterator_next hit.typeIs F.entry_dict_keyiterator_next ?_ (F.args_dict_keyiterator_next_1 _))))
 refine wpAny_bind (wpAny_pure (wpAny_bind (wpAny_bind ?_)))
 first|refine wpAny_bind (wpAny_typeNameOfWhole_keyiter hit.typeIs (wpAny_pure (wpAny_bind (wpAny_fieldsOf ho hd ?_))))|refine wpAny_bind (wpAny_typeNameOf_keyiter hit.typeIs (wpAny_pure (wpAny_bind (wpAny_fieldsOf ho hd ?_))))
 simp only[hown,Bool.false_eq_true,if_false];show wpAny _ _ (if (Value.ref d==Value.none)=true then _ else _) _ _ s
 rw[if_neg (show ¬ ((Value.ref d==Value.none)=true) from fun z=>Bool.false_ne_true z)]
 refine wpAny_bind (wpAny_pure (wpAny_bind (wpAny_dictEntries hod hdd ?_)))
 rw[if_neg (by simp)];refine wpAny_bind (wpAny_pure (wpAny_bind (wpAny_dictEpoch hod hdd ?_)))
 rw[if_neg (by simp)];refine wpAny_pure ?_
 simp only[show ¬ ((i:Int)<0) from by omega,if_false,Int.toNat_natCast,Array.getElem?_eq_none hge];refine wpAny_bind ?_
 first|refine wpAny_bind (wpAny_typeNameOfWhole_keyiter hit.typeIs (wpAny_pure ?_))|refine wpAny_bind (wpAny_typeNameOf_keyiter hit.typeIs (wpAny_pure ?_))
 show wpAny _ _ (setField (.ref it) 0 .none >>= _) _ _ s;refine wpAny_bind (wpAny_setField ho hd (by simp) ?_)
 show wpAny _ _ (newExc (.type "StopIteration") [] >>= _) _ _ _;refine wpAny_bind ?_
 simp only[newExc,newTuple];refine wpAny_bind (wpAny_newObj_type ?_ (by size_fits))
 refine wpAny_bind (m:=firstArgMember _ _) (wpAny_of_eq (a:=Value.none) (by first|rfl|(simp only[firstArgMember];rfl)) (wpAny_newObj_type ?_ (by size_fits)))
 simp only[raiseNew];refine wpAny_bind (wpAny_handled ?_)
 rw[show A.in1.handled=none from hh];refine wpAny_bind (wpAny_pure (wpAny_throw ?_))
 refine wpAny_bind (wpAny_isInstance (T := "StopIteration") (b:=true) ⟨_,Heap.get?_push_size _ rfl,rfl⟩ isSubtype_stop (wpAny_pure (hQ _ (((Heap.SameBut.update ..).extBut.push _).push _))))
theorem Walks.dent (hh:A.handled=none)(I:Addr)(hne:d≠I):Walks prog w A I [I,d] [I] es.size (fun i v=>∃e,es[i]?=some e/\v=e.key) (fun i h=>h.IsKeyIter I d i es.size ep/\h.DEnt d es ep) where
 sub:=fun b hb=>by simp at hb;simp[hb]
 frame:=fun _ _ _ st hk=>⟨st.1.at fun o e=>hk I (by simp) o e,st.2.at fun o e=>hk d (by simp) o e⟩
 item:=fun i s Q E hi st hQ=>by
  refine Kr st.1 st.2 hi fun h' hit' hs'=>?_
  exact hQ _ h' s.toks ⟨es[i],by simp[hi],rfl⟩ ⟨hit',st.2.at fun o e=>hs'.extBut d o hne e⟩ fun b o hb e=>hs'.extBut b o (fun z=>hb (by simp[z])) e
 done:=fun s Q E st hQ=>Lp hh st.1 st.2 (Nat.le_refl _) fun h' he'=>hQ h' s.toks fun b o hb e=>he' b o (fun z=>hb (by simp[z])) e
 self:=fun _ _ _ _ st hQ=>wpAny_pyIter_keyiter st.1 hQ
theorem Gj_ (lo:(d==sysModules)=false):PySem.W.KdlSrc prog w "dict" d d es.size (fun i v=>∃e,es[i]?=some e/\v=e.key) (fun h=>h.DEnt d es ep) where
 type:=fun _ hm=>hm.typeIs
 there:=fun _ hm=>⟨hm.lt_size,hm.lt_size⟩
 keep:=fun _ _ hm hk=>hm.at fun o e=>hk d (.inl rfl) o e
 notList:=by decide
 notTuple:=by decide
 hint:=fun _ _ _ _ hm hq=>PySem.W.kdl_hint_dict hm.typeIs hq
 iter:=fun _ _ hh hm=>⟨_,_,(fun _ _ hq=>S7 lo hm hq),Walks.dent hh _ (Nat.ne_of_lt hm.lt_size),⟨⟨_,Heap.get?_push_size _ rfl,rfl,rfl⟩,hm.at fun o e=>Heap.get?_push_of_some _ e⟩⟩
end
end PySem
namespace L2
open PySem PySem.Spec PyProof.Rows
theorem P6 {α β:Type}{F:α->β->Prop}:∀{l:List α} {m:List β} {i:Nat} {a:α},Paired F l m->l[i]?=some a->∃b,m[i]?=some b/\F a b
 |_,_,_,_,.nil,e=>by simp at e
 |_,_,0,_,.cons r _,e=>by simp at e;subst e;exact⟨_,rfl,r⟩
 |_,_,i+1,a,.cons _ t,e=>by
  obtain⟨b,h1,h2⟩:=P6 (i:=i) (a:=a) t (by simpa using e)
  exact⟨b,by simpa using h1,h2⟩
theorem AU_       (ok:HOk P w H h)(e:Rd H a (.dT kvs)):
  ∃o es ep,h.get? a=some o/\o.ExactDict/\o.data=.dict es ep/\es.size=kvs.length/\(a==sysModules)=false/\kvs.length<=sizeLine /\
   ∀(i:Nat) (k:List Key) (v:V),kvs[i]?=some (k,v)->∃b en,es[i]?=some en/\en.key=.ref b/\H b=some (.tup (k.map kV)):=by
 obtain⟨z,y,xs,r,o,es,ep,h1,h2,h3,h4,h5⟩:=(show C4 P w H h a (.dT kvs) from FY_ ok e)
 have hl:=Paired.length r
 have hs:es.size=kvs.length:=by rw[<-Array.length_toList,h4,List.length_map,hl]
 refine⟨o,es,ep,h1,h2,h3,hs,y,z,fun i k v hk=>?_⟩
 obtain⟨q,hq,e1,e2,_⟩:=P6 r hk
 refine⟨q.2.1,entryOfKey (tupleKind (Ec P w)) q,?_,rfl,e2⟩
 rw[<-Array.getElem?_toList,h4,List.getElem?_map,hq];rfl
section
variable {X:Cx} {pins:List (Addr×Obj)} {σ:St} {H:Hp} {s:Shared} {a:Addr}
theorem Inv.freeze   (I:Inv X pins σ H s)(e:H a=some (.dT kvs))(ho:s.heap.get? a=some o):Inv X pins σ (upd H a (.frz o (.dT kvs))) s:=by
 refine AO_ (h':=s.heap) (t':=s.toks) I (by rw[e];exact True.intro) ⟨rfl,fun _ _=>rfl⟩ ⟨o,ho⟩ ?_
 obtain⟨z,y,xs,r,q⟩:=(show C4 X.prog X.w H s.heap a (.dT kvs) from I.hok a _ e)
 refine⟨ho,z,y,xs,Paired.mapP r fun p x hx=>⟨hx.1,?_,hx.2.2⟩,q⟩
 rw[Ah (fun z=>by have h1:=hx.2.1;rw[z,e]at h1;cases h1)]
 exact hx.2.1
end
def Itd (o:Obj)(a:Addr)(kvs:List (List Key×V)):It:=⟨fun i H=>i<kvs.length/\H a=some (.frz o (.dT kvs)),fun i H x H'=>H'=H/\∃b k v,kvs[i]?=some (k,v)/\x=.ref b/\H b=some (.tup (k.map kV)),fun i H=>kvs.length<=i/\H a=some (.frz o (.dT kvs))⟩
theorem Dh_ {P:Program}{w:World}{K:PySem.W.Frag}{tg:Expr}{o:Obj}{a it:Addr}{kvs:List (List Key×V)}{es:Array DictEntry}{ep:Nat}(hai:a≠it)(hc:o.ExactDict)(hd:o.data=.dict es ep)(hs:es.size=kvs.length):
  Turn P w K tg (Itd o a kvs) [it] it (fun i h=>h.IsKeyIter it a i es.size ep) where
 mem:=by simp
 obj:=fun i h st b hb=>by
  have e:b=it:=by simpa using hb
  subst e
  obtain⟨o,e,c,d⟩:=st
  exact⟨o,e,fun v z=>by rw[d]at z;cases z⟩
 keep:=fun i h h' st k=>st.at fun o e=>k it (by simp) o e
 item:=by
  intro X hP hw hK hcm i pins s σ H E I hf st hg
  subst hP hw hK
  obtain⟨hi,hq⟩:=hg
  obtain⟨hko,_⟩:=(show C4 X.prog X.w H s.heap a (.frz o (.dT kvs)) from I.hok a _ hq)
  obtain⟨o',es',ep',g1,g2,g3,g4,g5,g6,g7⟩:=AU_ I.hok (.inr ⟨o,hq⟩)
  rw[hko]at g1
  cases g1
  rw[hd]at g3
  cases g3
  obtain⟨kv,hkv⟩:∃kv,kvs[i]?=some kv:=⟨kvs[i],by simp[hi]⟩
  obtain⟨k,v⟩:=kv
  obtain⟨b,en,e1,e2,e3⟩:=g7 i k v hkv
  obtain⟨f0,f1,f2,f3,f4,f5⟩:=hf it (by simp)
  have hlt:i<es.size:=by omega
  have ee:es[i]=en:=by rw[Array.getElem?_eq_getElem hlt]at e1;exact Option.some.inj e1
  refine Kr st ⟨o,hko,hc,hd⟩ hlt fun h' st' sb=>?_
  have I1:Inv X pins σ H {s with heap:=h' }:=I.turned (t':=s.toks) (fun b o hb e=>(sb.2 b hb).trans e) f0 f1 f3 f4 f5
  obtain⟨io,e,c,d⟩:=id st'
  exact⟨_,rfl,FO_ (s:={s with heap:=h' }) e c d (by decide) ⟨.ref b,H,I1,(by rw[ee,e2];rfl),⟨rfl,b,k,v,hkv,rfl,e3⟩,st',fun b hb=>(hf b hb).1⟩⟩
 done:=by
  intro X hP hw hK hcm i pins s σ H E I hf st hg
  subst hP hw hK
  obtain⟨hi,hq⟩:=hg
  obtain⟨hko,_⟩:=(show C4 X.prog X.w H s.heap a (.frz o (.dT kvs)) from I.hok a _ hq)
  obtain⟨f0,f1,f2,f3,f4,f5⟩:=hf it (by simp)
  exact Lp (I.ok.hd hcm) st ⟨o,hko,hc,hd⟩ (by omega) fun h' eb=>⟨rfl,I.turned (t':=s.toks) (fun b o hb e=>eb b o hb e) f0 f1 f3 f4 f5⟩
 self:=fun _ _ _ _ _ st h=>wpAny_pyIter_keyiter st h
def Hy_ (td:TE):TI:=fun σ H R=>td σ H fun x H1=>∃a kvs,x=.ref a/\H1 a=some (.dT kvs)/\∀o,R (Itd o a kvs) (upd H1 a (.frz o (.dT kvs)))
theorem Cs_     : Hy_ te σ H Z=te σ H fun x H1=>∃a kvs,x=.ref a/\H1 a=some (.dT kvs)/\∀o,Z (Itd o a kvs) (upd H1 a (.frz o (.dT kvs))):=rfl
theorem Gk_     (hl:PE X l tl):PI X tg l (Hy_ tl):=by
 intro pins s σ H R I h
 refine thn (hl pins s σ H _ I h) fun v s1 ⟨x,H1,I1,r1,q1⟩=>?_
 obtain⟨a,kvs,e,hq,q⟩:=q1
 subst e
 cases r1
 obtain⟨o,es,ep,g1,g2,g3,g4,g5,g6,g7⟩:=AU_ I1.hok (.inl hq)
 have I2:=I1.freeze hq g1
 refine S7 g5 ⟨o,g1,g2,g3⟩ ?_
 refine⟨s1.heap.objs.size,[s1.heap.objs.size],_,_,_,rfl,I2.kept (t':=s1.toks) fun b o e=>Heap.get?_push_of_some _ e,Dh_ (o:=o) (kvs:=kvs) (Nat.ne_of_lt (Heap.lt_size g1)) g2 g3 g4,⟨_,Heap.get?_push_size _ rfl,rfl,rfl⟩,fun b hb=>?_,q o⟩
 have e:b=s1.heap.objs.size:=by simpa using hb
 subst e
 exact I2.fpOk (Nat.le_refl _) (I2.hok.fresh (Nat.le_refl _))
theorem forD         (Pv:Nat->St->Hp->Prop)(h0:Pv 0 σ H)(hl:∀i σ H,i<=kvs.length->Pv i σ H->H a=some (.frz o (.dT kvs)))
  (hs:∀i k v b σ H,kvs[i]?=some (k,v)->Pv i σ H->H b=some (.tup (k.map kV))->g (.ref b) σ H fun σ2 H2=>tb {D with nx:=Pv (i+1),ct:=Pv (i+1),bk:=D.nx} σ2 H2) (hd:∀σ H,Pv kvs.length σ H->D.nx σ H):ForW (Itd o a kvs) g tb D σ H:=by
 refine⟨fun i m σ H=>m+i=kvs.length/\Pv i σ H,⟨kvs.length,by omega,h0⟩,fun i m σ H ⟨hm,hp⟩=>?_⟩
 have hq:=hl i σ H (by omega) hp
 by_cases hi:i<kvs.length
 ·refine .inr ⟨⟨hi,hq⟩,Pv (i+1),fun σ' H' h=>⟨m-1,by omega,by omega,h⟩,fun x H' hy=>?_⟩
  obtain⟨rfl,b,k,v,hk,rfl,hb⟩:=hy
  exact hs i k v b σ _ hk hp hb
 ·have e:i=kvs.length:=by omega
  subst e
  exact .inl ⟨⟨Nat.le_refl _,hq⟩,hd σ H hp⟩
theorem Iu  (hc:X.calm=true):NT X (.type "list") (fun xs H Q=>∃p kvs,xs=[.ref p]/\Rd H p (.dT kvs)/\∀l rs,H l=none->rs.length=kvs.length ->
  (∀(i:Nat) (k:List Key) (v:V),kvs[i]?=some (k,v)->∃b,rs[i]?=some (V.ref b)/\H b=some (.tup (k.map kV)))->Q (.ref l) (upd H l (.lst rs))):=by
 intro pins s σ H xs us Q I r h
 obtain⟨p,kvs,rfl,hp,q⟩:=h
 obtain⟨u,rfl,rx⟩:=vals1 r
 cases rx
 obtain⟨o,es,ep,g1,g2,g3,g4,g5,g6,g7⟩:=AU_ I.hok hp
 refine PySem.W.kdl_call (Gj_ (es:=es) (ep:=ep) g5) (I.ok.hd hc) ⟨o,g1,g2,g3⟩ (by omega) fun h' tk acc' c' hk hD hacc=>?_
 let f:DictEntry->V:=fun e=>match e.key with | .ref b=>V.ref b|_=>.non
 have hat:∀(i:Nat) (k:List Key) (v:V),kvs[i]?=some (k,v)->∃b,(es.toList.map f)[i]?=some (V.ref b)/\H b=some (.tup (k.map kV)):=fun i k v hkv=>by
  obtain⟨b,en,e1,e2,e3⟩:=g7 i k v hkv
  refine⟨b,?_,e3⟩
  rw[List.getElem?_map,Array.getElem?_toList,e1]
  show some (f en)=_
  simp only[f,e2]
 have hlen:(es.toList.map f).length=kvs.length:=by rw[List.length_map,Array.length_toList,g4]
 have hv:Vals (es.toList.map f) acc'.toList:=by
  refine Vals.ofIx (by rw[hlen,<-g4];simpa using hacc.1) fun i v hv=>?_
  obtain⟨e,he,rfl⟩:=hacc.2 i v (by simpa using hv)
  have hi:i<kvs.length:=by rw[<-g4];exact (Array.getElem?_eq_some_iff.mp he).1
  obtain⟨b,en,e1,e2,e3⟩:=g7 i kvs[i].1 kvs[i].2 (by simp[hi])
  rw[he]at e1
  cases e1
  refine⟨V.ref b,?_,by rw[e2];rfl⟩
  rw[List.getElem?_map,Array.getElem?_toList,he]
  show some (f e)=_
  simp only[f,e2]
 exact⟨.ref _,_,I.laid (t':=tk) hk (Nat.le_refl _) (show C4 X.prog X.w _ h' _ (.lst (es.toList.map f)) from ⟨by rw[hlen];exact g6,acc'.toList,c',hv,by simpa using hD⟩),rfl,q _ _ (I.hok.fresh (Nat.le_refl _)) hlen hat⟩
end L2
namespace GB
open GW
variable {α:Type} [DecidableEq α]
def KI_ (step:α->Int->α)(a:α)(ws:List Int):α:=ws.foldl step a
def put (step:α->Int->α)(r:α)(w:List Int)(ents:List (α×List Int))(x:Nat):List (α×List Int):=if step r x∈ents.map (·.1) then ents else ents++[(step r x,w++[(x:Int)])]
structure B (L:Int)(step:α->Int->α)(st:α)(ok:α->Prop)(ents:List (α×List Int))(i:Nat)(top:Int):Prop where
 hd:ents[0]?=some (st,[])
 il:i<=ents.length
 sh:∀(j:Nat) (e:α×List Int),ents[j]?=some e->e.2.length<=j
 nod:(ents.map (·.1)).Nodup
 rng:∀e∈ents,ok e.1
 wd:∀e∈ents,isW L e.2=true/\KI_ step st e.2=e.1
 inc:∀(j k:Nat) (a b:α×List Int),j<k->ents[j]?=some a->ents[k]?=some b->place L a.2<place L b.2
 bnd:∀e∈ents,place L e.2<top
 don:∀j,j<i->∀e,ents[j]?=some e->∀x:Int,0<=x->x<L->∃e'∈ents,e'.1=step e.1 x/\place L e'.2<=place L (e.2++[x])
variable {L:Int} {step:α->Int->α} {st:α} {ok:α->Prop} {ents:List (α×List Int)} {i:Nat} {top:Int}
def KJ_ (ways:List (List Int))(r:Int)(ws:List Int):Int:=ws.foldl (KD ways) r
end GB
namespace L2
open PySem PySem.Spec PyProof.Rows GW GB
def TK (H H':Hp):Prop:=∀b xs,H b=some (.tup xs)->H' b=some (.tup xs)
theorem TK.refl (H:Hp):TK H H:=fun _ _ h=>h
theorem TK.of  (s:Same H H'):TK H H':=fun b xs h=>s b _ h
theorem TK.trans  (a:TK H H')(b:TK H' H''):TK H H'':=fun c xs h=>b c xs (a c xs h)
theorem TK.new    (h:H p=none):TK H (upd H p o):=TK.of (Same.new h)
theorem TK.lst {H:Hp}{p:Addr}{o:HO}{xs:List V}(h:H p=some (.lst xs)):TK H (upd H p o):=fun b ys e=>by rw[Ah (fun z=>by rw[z,h]at e;cases e)];exact e
theorem TK.dT {H:Hp}{p:Addr}{o:HO}{kvs:List (List Key×V)}(h:H p=some (.dT kvs)):TK H (upd H p o):=fun b ys e=>by rw[Ah (fun z=>by rw[z,h]at e;cases e)];exact e
end L2
namespace L2
theorem EN_    : GZ_ σ H Q=∀p,H p=none->Q (.ref p) (upd H p (.dT [])):=rfl
end L2
namespace L2
open PySem PySem.Spec PyProof.Rows GW
theorem Same.none  (s:Same H H')  (h:H' p=none):H p=none:=by
 cases e:H p with
 |none=>rfl
 |some u=>rw[s _ _ e]at h;cases h
def As (K:PySem.W.Frag)(H:Hp)(xs:List V)(ws:List (List Int)):Prop:=xs.length=ws.length/\∀(i:Nat) (w:List Int),ws[i]?=some w->∃t,xs[i]?=some (.ref t)/\H t=some (.tup (w.map V.int))
theorem As.nil {K:PySem.W.Frag}  : As K H [] []:=⟨rfl,fun i w h=>by simp at h⟩
theorem As.mono {K:PySem.W.Frag}    (h:As K H xs ws)(k:TK H H'):As K H' xs ws:=by
 refine⟨h.1,fun i w hw=>?_⟩
 obtain⟨t,a,b⟩:=h.2 i w hw
 exact⟨t,a,k _ _ b⟩
theorem As.snoc {K:PySem.W.Frag}    (h:As K H xs ws)   (ht:H t=some (.tup (w.map V.int))):As K H (xs++[.ref t]) (ws++[w]):=by
 refine⟨by rw[List.length_append,List.length_append,h.1];rfl,fun i v hi=>?_⟩
 by_cases hil:i<ws.length
 ·rw[List.getElem?_append_left hil]at hi
  rw[List.getElem?_append_left (by rw[h.1];exact hil)]
  exact h.2 i v hi
 ·have:=(List.getElem?_eq_some_iff.mp hi).1
  rw[List.length_append,List.length_singleton]at this
  have ei:i=ws.length:=by omega
  subst ei
  rw[List.getElem?_append_right (Nat.le_refl _),Nat.sub_self]at hi
  simp at hi
  subst hi
  refine⟨t,?_,ht⟩
  rw[List.getElem?_append_right (by rw[h.1];exact Nat.le_refl _),h.1,Nat.sub_self];rfl
theorem As.at {K:PySem.W.Frag}{H:Hp}{xs:List V}{ws:List (List Int)}(h:As K H xs ws){i:Nat}{x:V}(hx:xs[i]?=some x):∃t w,ws[i]?=some w/\x=.ref t/\H t=some (.tup (w.map V.int)):=by
 have hi:i<ws.length:=by rw[<-h.1];exact (List.getElem?_eq_some_iff.mp hx).1
 obtain⟨t,a,b⟩:=h.2 i ws[i] (by simp[hi])
 rw[hx]at a
 exact⟨t,ws[i],by simp[hi],Option.some.inj a,b⟩
theorem As.eq {K:PySem.W.Frag}     (h:As K H xs ws)(g:As K H ys ws)(ha:SqL K H a xs)(hb:SqL K H b ys)(n:Nat):EqD K H (n+2) (.ref a) (.ref b) true:=by
 refine .inr ⟨a,b,xs,ys,rfl,rfl,.inl ⟨ha,hb⟩,fun _=>true,fun i x y hx hy=>?_,by rw[h.1,g.1];simp⟩
 obtain⟨t,w,e1,rfl,e2⟩:=h.at hx
 obtain⟨u,w',f1,rfl,f2⟩:=g.at hy
 rw[e1]at f1
 cases f1
 have:=EqD.ints (K:=K) (H:=H) (a:=t) (c:=u) (xs:=w) (ys:=w) (.inr ⟨SqT.of e2,SqT.of f2⟩) n
 rw[decide_eq_true rfl]at this
 exact this
def rInW (K:PySem.W.Frag)(neg:Bool):R2:=fun x y H Q=>∃p t xs w ws,y=.ref p/\x=.ref t/\SqL K H p xs/\As K H xs ws/\SqT K H t (w.map V.int)/\Q (.bl (if neg then !decide (w∈ws) else decide (w∈ws))) H
theorem Ka_ {K:PySem.W.Frag}     : rInW K neg x y H Q=∃p t xs w ws,y=.ref p/\x=.ref t/\SqL K H p xs/\As K H xs ws/\SqT K H t (w.map V.int)/\Q (.bl (if neg then !decide (w∈ws) else decide (w∈ws))) H:=rfl
theorem Ct_          (hu:X.A.units+8<cLine)(I:Inv X pins σ H s)(hp:SqL X.K H p xs)(hw:As X.K H xs ws)(ht:SqT X.K H t (w.map V.int)):
  ∃(its:Array Value) (e:Value->Bool),s.heap.IsList p its/\(∀y,y∈its->SeqAt.EqAt X.A.in1 s y (.ref t) (e y))/\its.any e=decide (w∈ws):=by
 obtain⟨its,r,pl,_⟩:=I.list hp
 have hl:=r.length
 let e:Value->Bool:=fun y => @decide (∃(i:Nat) (a:Addr),y=.ref a/\xs[i]?=some (.ref a)/\ws[i]?=some w) (Classical.propDecidable _)
 have ee:∀(i:Nat) (a:Addr) (v:List Int),xs[i]?=some (.ref a)->ws[i]?=some v->e (.ref a)=decide (v=w):=fun i a v hx hv=>by
  obtain⟨a',a1,a2⟩:=hw.2 i v hv
  rw[hx]at a1
  cases a1
  rw[Bool.eq_iff_iff]
  show @decide _ (Classical.propDecidable _)=true↔_
  rw[@decide_eq_true_iff _ (Classical.propDecidable _),decide_eq_true_eq]
  constructor
  ·rintro⟨j,b,hb,hxj,hwj⟩
   cases hb
   obtain⟨b',b1,b2⟩:=hw.2 j w hwj
   rw[hxj]at b1
   cases b1
   rw[a2]at b2
   have:=Option.some.inj b2
   injection this with this
   exact (List.map_inj_right (fun x y z=>V.int.inj z)).mp this
  ·rintro rfl
   exact⟨i,a,rfl,hx,hv⟩
 refine⟨its.toArray,e,pl.isList,fun y hy=>?_,?_⟩
 ·have hy':y∈its:=by simpa using hy
  obtain⟨i,hi,ei⟩:=List.getElem_of_mem hy'
  have hix:i<xs.length:=by omega
  obtain⟨u,hu',ru⟩:=r.get (i:=i) (x:=xs[i]) (by simp[hix])
  rw[List.getElem?_eq_getElem hi,ei]at hu'
  cases hu'
  obtain⟨a,v,e1,e2,e3⟩:=hw.at (i:=i) (x:=xs[i]) (by simp[hix])
  rw[e2]at ru
  cases ru
  rw[ee i a v (by rw[List.getElem?_eq_getElem hix,e2]) e1]
  exact (EqD.at (x:=V.ref a) (y:=V.ref t) I 2 X.A.in1 (by rw[in1_units];omega) rfl rfl (EqD.ints (xs:=v) (ys:=w) (.inr ⟨SqT.of e3,ht⟩) 1)).1
 ·rw[Bool.eq_iff_iff,decide_eq_true_eq]
  rw[show its.toArray.any e=its.any e by simp,List.any_eq_true]
  constructor
  ·rintro⟨y,hy,hey⟩
   obtain⟨j,b,_,_,hwj⟩:=(@decide_eq_true_iff _ (Classical.propDecidable _)).mp hey
   exact List.mem_of_getElem? hwj
  ·intro hm
   obtain⟨i,hi,ei⟩:=List.getElem_of_mem hm
   obtain⟨a,a1,a2⟩:=hw.2 i w (by rw[List.getElem?_eq_getElem hi,ei])
   obtain⟨u,hu',ru⟩:=r.get a1
   cases ru
   refine⟨.ref a,List.mem_of_getElem? hu',?_⟩
   rw[ee i a w a1 (by rw[List.getElem?_eq_getElem hi,ei])]
   simp
theorem Kb_  (hu:X.A.units+8<cLine):OpR X (compareOp .In) (rInW X.K false):=by
 intro pins s σ H x y v u Q I rx ry h
 obtain⟨p,t,xs,w,ws,rfl,rfl,hp,hw,ht,q⟩:=h
 cases ry
 cases rx
 obtain⟨its,e,h1,h2,h3⟩:=Ct_ hu I hp hw ht
 refine SeqAt.in_listAt e h1 h2 ⟨.bl _,H,I,rfl,?_⟩
 rw[h3]
 exact q
theorem EO_  (hu:X.A.units+8<cLine):OpR X (compareOp .NotIn) (rInW X.K true):=by
 intro pins s σ H x y v u Q I rx ry h
 obtain⟨p,t,xs,w,ws,rfl,rfl,hp,hw,ht,q⟩:=h
 cases ry
 cases rx
 obtain⟨its,e,h1,h2,h3⟩:=Ct_ hu I hp hw ht
 refine SeqAt.notIn_listAt e h1 h2 ⟨.bl _,H,I,rfl,?_⟩
 rw[h3]
 exact q
theorem Kq.ofS {K:PySem.W.Frag}     (ha:H a=some (.tup xs))(hb:H b=some (.tup ys))(hz:xs.length+ys.length<=sizeLine)(h:∀p H',Same H H'->H' p=some (.tup (xs++ys))->Q (.ref p) H'):Kq K (.ref a) (.ref b) H Q:=by
 refine⟨a,b,xs,ys,rfl,rfl,SqT.of ha,SqT.of hb,hz,fun e=>?_,fun _ e=>?_,fun _ _ p hp=>h p _ (Same.new hp) Ae⟩
 ·subst e;exact h b H (Same.refl _) (by simpa using hb)
 ·subst e;exact h a H (Same.refl _) (by simpa using ha)
theorem Inv.unL        (I:Inv X pins σ H s)(k:∀b o,b∉fp->s.heap.get? b=some o->h'.get? b=some o)(f:∀b∈fp,FpOk X pins H b):Un (frs X.stack) fp H H s.heap h'/\HOk X.prog X.w H h':=by
 have ne:∀b u,H b=some u->b∉fp:=fun b u q hb=>by rw[(f b hb).1]at q;cases q
 refine⟨⟨fun b o q _ _ hb=>k b o hb q,fun b o q _ _ hb=>⟨o.slots,k b o hb q⟩,fun _ _ _ n _=>n,fun b o q hb=>⟨o,k b o hb q⟩,fun _ _ q=>q,fun _ _ _ q=>q,fun b ps q=>⟨#[],by rw[q];simp⟩⟩,fun b u q=>?_⟩
 refine (I.hok b u q).stay (fun c v hc qv=>?_) (fun _ q=>q) fun _ _ q=>q
 have hne:c∉fp:=by
  rcases hc with rfl|hc
  ·exact ne _ _ q
  ·exact ne _ _ hc
 exact k c v hne qv
end L2
namespace GW
def ins (s:List (List Int))(w:List Int):List (List Int):=if w∈s then s else s++[w]
theorem Iz_ (s:List (List Int))(w:List Int):(ins s w).length<=s.length+1:=by
 unfold ins;split
 ·omega
 ·simp
theorem C5:∀(l s:List (List Int)),(l.foldl ins s).length<=s.length+l.length
 |[],s=>by simp
 |w::l,s=>by
  have h1:=C5 l (ins s w)
  have h2:=Iz_ s w
  rw[List.foldl_cons,List.length_cons];omega
def extW (n:Nat)(w:List Int):List (List Int):=(List.range n).map fun x:Nat=>w++[(x:Int)]
def CM (n:Nat)(acc:List (List Int)):List (List Int):=(acc.flatMap (extW n)).foldl ins (acc.foldl ins [])
def Kt (rows ends:List (List Int)):List (List Int):=(rows.flatMap fun r=>ends.map (r ++ ·)).foldl ins []
end GW
namespace L2
open PySem PySem.Spec PyProof.Rows GW
def wkey (w:List Int):List Key:=w.map Sum.inl
theorem EF (w:List Int):(wkey w).map kV=w.map V.int:=by unfold wkey;rw[List.map_map];rfl
theorem SD  (h:wkey v=wkey w):v=w:=(List.map_inj_right (fun x y z=>Sum.inl.inj z)).mp h
def HK (ws:List (List Int))(kvs:List (List Key×V)):Prop:=kvs.map (·.1)=ws.map wkey
theorem HK.len   (h:HK ws kvs):kvs.length=ws.length:=by
 have:=congrArg List.length h
 simpa using this
theorem HK.some_iff   (h:HK ws kvs)(w:List Int):(valV kvs (wkey w)).isSome=decide (w∈ws):=by
 rw[<-J3,Bool.eq_iff_iff,decide_eq_true_eq,List.any_eq_true]
 constructor
 ·rintro⟨kv,hkv,e⟩
  have e:=of_decide_eq_true e
  have:wkey w∈ws.map wkey:=by rw[<-h,<-e];exact List.mem_map.mpr ⟨kv,hkv,rfl⟩
  obtain⟨q,hq,e2⟩:=List.mem_map.mp this
  exact SD e2 ▸ hq
 ·intro hw
  have:wkey w∈kvs.map (·.1):=by rw[h];exact List.mem_map.mpr ⟨w,hw,rfl⟩
  obtain⟨kv,hkv,e⟩:=List.mem_map.mp this
  exact⟨kv,hkv,decide_eq_true e⟩
theorem HK.put   (h:HK ws kvs)(w:List Int)(v:V):HK (ins ws w) (putK kvs (wkey w) v):=by
 have hs:=h.some_iff w
 unfold putK ins
 rw[J3,hs]
 by_cases hw:w∈ws
 ·rw[if_pos hw,if_pos (show decide (w∈ws)=true from decide_eq_true hw)]
  unfold HK
  rw[<-h,List.map_map]
  refine List.map_congr_left fun kv _=>?_
  show (if kv.1=wkey w then (kv.1,v) else kv).1=kv.1
  split<;>rfl
 ·rw[if_neg hw,if_neg (show ¬ decide (w∈ws)=true by simp[hw])]
  unfold HK
  rw[List.map_append,List.map_append,h];rfl
theorem HK.nil:HK [] []:=rfl
theorem HK.words {K:PySem.W.Frag}     (h:HK ws kvs)(hl:rs.length=kvs.length)(hr:∀(i:Nat) (k:List Key) (v:V),kvs[i]?=some (k,v)->∃b,rs[i]?=some (V.ref b)/\H b=some (.tup (k.map kV))):As K H rs ws:=by
 refine⟨by rw[hl,h.len],fun i w hw=>?_⟩
 have hi:i<kvs.length:=by rw[h.len];exact (List.getElem?_eq_some_iff.mp hw).1
 have e:(kvs.map (·.1))[i]?=some (wkey w):=by rw[h,List.getElem?_map,hw];rfl
 rw[List.getElem?_map,List.getElem?_eq_getElem hi]at e
 have e:kvs[i].1=wkey w:=Option.some.inj e
 obtain⟨b,b1,b2⟩:=hr i kvs[i].1 kvs[i].2 (by simp[hi])
 exact⟨b,b1,by rw[b2,e,EF]⟩
end L2
namespace PySem.W
open PySem PySem.Calls PyProof.Rows PyProof.V PySem.Spec
def PairsV (es:List DictEntry)(kvs:List (Value×Value)):Prop:=es.map (fun e=>(e.key,e.val))=kvs
theorem PairsV.length   (h:PairsV es kvs):es.length=kvs.length:=by rw[<-h,List.length_map]
theorem PairsV.get? {es:List DictEntry}{kvs:List (Value×Value)}(h:PairsV es kvs){i:Nat}{e:DictEntry}{k v:Value}(h1:es[i]?=some e)(h2:kvs[i]?=some (k,v)):k=e.key/\e.val=v:=by
 rw[<-h,List.getElem?_map,h1]at h2
 simp at h2
 exact⟨h2.1.symm,h2.2⟩
end PySem.W
namespace PySem
def Heap.DictV (h:Heap)(a:Addr)(kvs:List (Value×Value))(ep:Nat):Prop:=∃o es,h.get? a=some o/\o.ExactDict/\o.data=.dict es ep/\True/\W.PairsV es.toList kvs/\True
theorem Heap.DictV.at' {h h':Heap}{a kvs ep}(x:h.DictV a kvs ep)(e:∀o,h.get? a=some o->h'.get? a=some o):h'.DictV a kvs ep:=let ⟨o,es,ho,r⟩:=x;⟨o,es,e _ ho,r⟩
theorem Heap.DictV.lt_size {h:Heap}{a kvs ep}(x:h.DictV a kvs ep):a<h.objs.size:=let ⟨_,_,ho,_⟩:=x;Heap.lt_size ho
theorem Heap.DictV.push {h:Heap}{a kvs ep}(x:h.DictV a kvs ep)(o:Obj):(h.push o).DictV a kvs ep:=let ⟨o',es,ho,r⟩:=x;⟨o',es,Heap.get?_push_of_some o ho,r⟩
end PySem
namespace PySem.W
open PySem PySem.Calls PyProof.Rows PyProof.V PySem.Spec
section
variable {prog:Program} {w:World} {A:Around} {E:Value->Shared->Prop} {s:Shared}
theorem NX     (hv:s.heap.IsItemsView v d)(hm:s.heap.DictV d kvs ep)
  (hQ:Q (.ref s.heap.objs.size) {s with heap:=s.heap.push {cls:=.type "dict_itemiterator",data:=.fields #[.none,.bool false,.ref d,.int 0 0,.int kvs.length 0,.int ep 0,.none,.none]} }):
  wpAny (model prog w) A (pyIter (.ref v)) Q E s:=by
 obtain⟨ov,hov,hcv,hdv⟩:=id hv
 obtain⟨o,es,ho,hc,hdat,hk,hp,hn⟩:=id hm
 refine wpAny_pyIter_slot hv.typeIs PySem.F.slot_dict_items_iter (wpAny_call_entry PySem.F.slot_dict_items_iter hv.typeIs PySem.F.entry_dict_items_iter ?_ (PySem.F.args_dict_items_iter_1 _))
 unfold Builtin.«dict_items.__iter__»
 refine wpAny_bind (wpAny_pure ?_)
 refine wpAny_bind ?_
 unfold Builtin.Dict_items.dictOf
 refine wpAny_bind (wpAny_field hov hdv (x:=.ref d) rfl (wpAny_pure ?_))
 refine wpAny_bind ?_
 unfold Builtin.Dict_items.newIterator
 refine wpAny_bind (wpAny_dictEntries ho hdat ?_)
 refine wpAny_bind (wpAny_dictEpoch ho hdat ?_)
 have hsz:es.size=kvs.length:=by rw[<-hp.length];simp
 have hown:Builtin.Dict_items.ownsTuple "dict_itemiterator"=true:=by decide
 simp only[hown,if_true]
 refine wpAny_newObj_type (wpAny_pure ⟨_,rfl,"dict_itemiterator",_,⟨_,Heap.get?_push_size _ rfl,rfl⟩,PySem.F.slot_dict_itemiterator_next.lookup,?_⟩)
  (by simp only[sizeOk,Builtin.Dict_items.ownedTupleFields,List.size_toArray,List.length_append,List.length_cons,List.length_nil,sizeLine_eq];omega)
 simpa [rawInt,hsz,Builtin.Dict_items.ownedTupleFields] using hQ
theorem JF {it d:Addr}      (hit:IsItemIter s.heap it d i kvs.length ep ok ov)
  (hm:s.heap.DictV d kvs ep) (hx:kvs[i]?=some (k,v))
  (hQ:∀key h',k=key->IsItemIterOut h' it d (i+1) kvs.length ep key v s.heap.objs.size ->
   h'.get? s.heap.objs.size=some {cls:=.type "tuple",data:=.seq #[key,v]}->h'.objs.size=s.heap.objs.size+1 ->
   (∀b o,b≠it->s.heap.get? b=some o->h'.get? b=some o)->Q (some (.ref s.heap.objs.size)) {s with heap:=h' }):
  wpAny (model prog w) A (pyNext (.ref it)) Q E s:=by
 obtain⟨hp,g,dr,tk,os⟩:=s
 obtain⟨od,es,hod,hcd,hdd,hk,hpr,hn⟩:=id hm
 have hT:Shared.TypeIs ⟨hp,g,dr,tk,os⟩ (.ref it) "dict_itemiterator" := ⟨_,hit,rfl⟩
 unfold pyNext
 refine wpAny_bind (wpAny_attempt (wpAny_callSpecial?_slot (name:=Str.ofString "__next__") hT PySem.F.slot_dict_itemiterator_next
  (wpAny_call_entry PySem.F.slot_dict_itemiterator_next hT PySem.F.entry_dict_itemiterator_next ?_ (PySem.F.args_dict_itemiterator_next_1 _))))
 refine wpAny_bind (wpAny_pure ?_)
 refine wpAny_bind ?_
 refine wpAny_bind ?_
 first|refine wpAny_bind (wpAny_typeNameOfWhole_itemiter hT (wpAny_pure ?_))|refine wpAny_bind (wpAny_typeNameOf_itemiter hT (wpAny_pure ?_))
 refine wpAny_bind (wpAny_fieldsOf hit rfl ?_)
 have hown:Builtin.Dict_items.ownsTuple "dict_itemiterator"=true:=by decide
 simp only[hown,if_true]
 show wpAny _ _ (if (Value.ref d==Value.none)=true then _ else _) _ _ _
 rw[if_neg (show ¬ ((Value.ref d==Value.none)=true) from Bool.false_ne_true)]
 refine wpAny_bind (wpAny_pure ?_)
 refine wpAny_bind (wpAny_dictEntries hod hdd ?_)
 have hsz:es.size=kvs.length:=by rw[<-hpr.length];simp
 rw[if_neg (by rw[hsz];simp)]
 refine wpAny_bind (wpAny_pure ?_)
 refine wpAny_bind (wpAny_dictEpoch hod hdd ?_)
 rw[if_neg (by simp)]
 refine wpAny_pure ?_
 have hlt:i<kvs.length:=by
  rcases Nat.lt_or_ge i kvs.length with h|h
  ·exact h
  ·simp[List.getElem?_eq_none h]at hx
 have hlt':i<es.size:=by rw[hsz];exact hlt
 obtain⟨hkey,hval⟩:=hpr.get? (e:=es[i]) (by simp[hlt']) hx
 simp only[show ¬ ((i:Int)<0) from by omega,if_false,Int.toNat_natCast,Array.getElem?_eq_getElem hlt']
 refine wpAny_bind ?_
 first|refine wpAny_bind (wpAny_typeNameOfWhole_itemiter hT (wpAny_pure ?_))|refine wpAny_bind (wpAny_typeNameOf_itemiter hT (wpAny_pure ?_))
 refine wpAny_bind (wpAny_isOneOf_itemiter hT ?_)
 show wpAny _ _ (setField (.ref it) 3 (rawInt ((i:Int)+1)) >>= _) _ _ ⟨hp,g,dr,tk,os⟩
 refine wpAny_bind (wpAny_setField_rec hit (by simp) fun h₁ he₁ hs₁=>?_)
 replace hs₁:Heap.SameBut it hp h₁:=hs₁
 replace he₁:IsItemIter h₁ it d (i+1) kvs.length ep ok ov:=by
  have e:((i+1:Nat):Int)=(i:Int)+1:=by omega
  unfold IsItemIter;rw[e];simpa [rawInt] using he₁
 have hT₁:Shared.TypeIs ⟨h₁,g,dr,tk,os⟩ (.ref it) "dict_itemiterator" := ⟨_,he₁,rfl⟩
 refine wpAny_bind (wpAny_holding ?_)
 refine wpAny_bind (wpAny_isOneOf_itemiter hT₁ ?_)
 refine wpAny_bind (wpAny_isOneOf_itemiter hT₁ ?_)
 show wpAny _ _ (Builtin.Dict_items.pairFromOwner (.ref it) 6 es[i].key es[i].val) _ _ ⟨h₁,g,dr,tk,os⟩
 unfold Builtin.Dict_items.pairFromOwner
 refine wpAny_bind (wpAny_newTuple ?_)
 have he₂:IsItemIter (h₁.push {cls:=.type "tuple",data:=.seq #[es[i].key,es[i].val]}) it d (i+1) kvs.length ep ok ov:=Heap.get?_push_of_some _ he₁
 generalize hh₂:h₁.push {cls:=.type "tuple",data:=.seq #[es[i].key,es[i].val]}=h₂ at he₂
 have hz₁:h₁.objs.size=hp.objs.size:=hs₁.1
 have hil:it<hp.objs.size:=Heap.lt_size hit
 have ht₂:h₂.get? hp.objs.size=some {cls:=.type "tuple",data:=.seq #[es[i].key,es[i].val]}:=by rw[<-hh₂,<-hz₁];exact Heap.get?_push_size _ rfl
 have hz₂:h₂.objs.size=hp.objs.size+1:=by rw[<-hh₂,Heap.size_push,hz₁]
 have hk₂:∀b o,b≠it->hp.get? b=some o->h₂.get? b=some o:=fun b o hb e=>by rw[<-hh₂];exact Heap.get?_push_of_some _ (hs₁.extBut b o hb e)
 show wpAny _ _ (Builtin.Dict_items.ownedTupleIsFree (.ref it) >>= _) _ _ ⟨h₂,g,dr,tk,os⟩
 rw[hz₁]
 clear hh₂ he₁ hs₁ hT₁ hz₁ h₁
 refine wpAny_bind ?_
 unfold Builtin.Dict_items.ownedTupleIsFree
 refine wpAny_bind (wpAny_field he₂ rfl (x:=.none) rfl (wpAny_pure ?_))
 simp only[if_true]
 refine wpAny_bind (wpAny_field he₂ rfl (x:=ok) rfl ?_)
 refine wpAny_bind (wpAny_field he₂ rfl (x:=ov) rfl ?_)
 refine wpAny_bind (wpAny_setField_rec he₂ (by simp) fun h₃ he₃ hs₃=>?_)
 replace hs₃:Heap.SameBut it h₂ h₃:=hs₃
 replace he₃:IsItemIter h₃ it d (i+1) kvs.length ep es[i].key ov:=he₃
 refine wpAny_bind (wpAny_setField_rec he₃ (by simp) fun h₄ he₄ hs₄=>?_)
 replace hs₄:Heap.SameBut it h₃ h₄:=hs₄
 replace he₄:IsItemIter h₄ it d (i+1) kvs.length ep es[i].key es[i].val:=he₄
 refine wpAny_bind (wpAny_setField_rec he₄ (by simp) fun h₅ he₅ hs₅=>?_)
 replace hs₅:Heap.SameBut it h₄ h₅:=hs₅
 replace he₅:IsItemIterOut h₅ it d (i+1) kvs.length ep es[i].key es[i].val hp.objs.size:=he₅
 refine wpAny_bind (wpAny_setField_rec he₅ (by simp) fun h₆ he₆ hs₆=>?_)
 replace hs₆:Heap.SameBut it h₅ h₆:=hs₆
 replace he₆:IsItemIterOut h₆ it d (i+1) kvs.length ep es[i].key es[i].val hp.objs.size:=he₆
 refine wpAny_bind (wpAny_letGo (wpAny_pure (wpAny_pure ⟨_,rfl,wpAny_pure (hQ es[i].key h₆ hkey (hval ▸ he₆) ?_ ?_ ?_)⟩)))
 ·rw[<-hval];exact hs₆.extBut _ _ (Nat.ne_of_gt hil) (hs₅.extBut _ _ (Nat.ne_of_gt hil) (hs₄.extBut _ _ (Nat.ne_of_gt hil) (hs₃.extBut _ _ (Nat.ne_of_gt hil) ht₂)))
 ·show h₆.objs.size=hp.objs.size+1
  rw[hs₆.1,hs₅.1,hs₄.1,hs₃.1,hz₂]
 ·exact fun b o hb e=>hs₆.extBut b o hb (hs₅.extBut b o hb (hs₄.extBut b o hb (hs₃.extBut b o hb (hk₂ b o hb e))))
theorem J5 {it d:Addr}     (hh:A.handled=none)(hit:IsItemIter s.heap it d i kvs.length ep ok ov)
  (hm:s.heap.DictV d kvs ep) (hx:kvs[i]?=none)
  (hQ:∀h',Heap.ExtBut it s.heap h'->Q none {s with heap:=h' }):wpAny (model prog w) A (pyNext (.ref it)) Q E s:=by
 obtain⟨od,es,hod,hcd,hdd,hk,hpr,hn⟩:=id hm
 have hT:s.TypeIs (.ref it) "dict_itemiterator" := ⟨_,hit,rfl⟩
 unfold pyNext
 refine wpAny_bind (wpAny_attempt (wpAny_callSpecial?_slot (name:=Str.ofString "__next__") hT PySem.F.slot_dict_itemiterator_next
  (wpAny_call_entry PySem.F.slot_dict_itemiterator_next hT PySem.F.entry_dict_itemiterator_next ?_ (PySem.F.args_dict_itemiterator_next_1 _))))
 refine wpAny_bind (wpAny_pure ?_)
 refine wpAny_bind ?_
 refine wpAny_bind ?_
 first|refine wpAny_bind (wpAny_typeNameOfWhole_itemiter hT (wpAny_pure ?_))|refine wpAny_bind (wpAny_typeNameOf_itemiter hT (wpAny_pure ?_))
 refine wpAny_bind (wpAny_fieldsOf hit rfl ?_)
 have hown:Builtin.Dict_items.ownsTuple "dict_itemiterator"=true:=by decide
 simp only[hown,if_true]
 show wpAny _ _ (if (Value.ref d==Value.none)=true then _ else _) _ _ s
 rw[if_neg (show ¬ ((Value.ref d==Value.none)=true) from Bool.false_ne_true)]
 refine wpAny_bind (wpAny_pure ?_)
 refine wpAny_bind (wpAny_dictEntries hod hdd ?_)
 have hsz:es.size=kvs.length:=by rw[<-hpr.length];simp
 rw[if_neg (by rw[hsz];simp)]
 refine wpAny_bind (wpAny_pure ?_)
 refine wpAny_bind (wpAny_dictEpoch hod hdd ?_)
 rw[if_neg (by simp)]
 refine wpAny_pure ?_
 have hge:es.size<=i:=by rw[hsz];simpa using hx
 simp only[show ¬ ((i:Int)<0) from by omega,if_false,Int.toNat_natCast,Array.getElem?_eq_none hge]
 refine wpAny_bind ?_
 first|refine wpAny_bind (wpAny_typeNameOfWhole_itemiter hT (wpAny_pure ?_))|refine wpAny_bind (wpAny_typeNameOf_itemiter hT (wpAny_pure ?_))
 show wpAny _ _ (setField (.ref it) 2 .none >>= _) _ _ s
 refine wpAny_bind (wpAny_setField hit rfl (by simp) ?_)
 show wpAny _ _ (newExc (.type "StopIteration") [] >>= _) _ _ _
 refine wpAny_bind ?_
 simp only[newExc,newTuple]
 refine wpAny_bind (wpAny_newObj_type ?_ (by size_fits))
 refine wpAny_bind (m:=firstArgMember _ _) (wpAny_of_eq (a:=Value.none) (by first|rfl|(simp only[firstArgMember];rfl)) ?_)
 refine wpAny_newObj_type ?_ (by size_fits)
 simp only[raiseNew]
 refine wpAny_bind (wpAny_handled ?_)
 rw[show A.in1.handled=none from hh]
 refine wpAny_bind (wpAny_pure (wpAny_throw ?_))
 refine wpAny_bind (wpAny_isInstance (T := "StopIteration") (b:=true) ⟨_,Heap.get?_push_size _ rfl,rfl⟩ isSubtype_stop ?_)
 exact wpAny_pure (hQ _ (((Heap.SameBut.update ..).extBut.push _).push _))
theorem WH {it d a:Addr}        (hit:KdxIt s.heap it d i kvs.length ep ok ov a f)(ha:s.heap.get? a=some oa)(hai:a≠it)
  (hm:s.heap.DictV d kvs ep) (hx:kvs[i]?=some (k,v))
  (hQ:∀key h',k=key->KdxIt h' it d (i+1) kvs.length ep ok ov a true ->
   h'.get? s.heap.objs.size=some {cls:=.type "tuple",data:=.seq #[key,v]}->h'.objs.size=s.heap.objs.size+1 ->
   (∀b o,b≠it->s.heap.get? b=some o->h'.get? b=some o)->Q (some (.ref s.heap.objs.size)) {s with heap:=h' }):
  wpAny (model prog w) A (pyNext (.ref it)) Q E s:=by
 obtain⟨hp,g,dr,tk,os⟩:=s
 obtain⟨od,es,hod,hcd,hdd,hk,hpr,hn⟩:=id hm
 have hT:Shared.TypeIs ⟨hp,g,dr,tk,os⟩ (.ref it) "dict_itemiterator" := ⟨_,hit,rfl⟩
 unfold pyNext
 refine wpAny_bind (wpAny_attempt (wpAny_callSpecial?_slot (name:=Str.ofString "__next__") hT PySem.F.slot_dict_itemiterator_next
  (wpAny_call_entry PySem.F.slot_dict_itemiterator_next hT PySem.F.entry_dict_itemiterator_next ?_ (PySem.F.args_dict_itemiterator_next_1 _))))
 refine wpAny_bind (wpAny_pure ?_)
 refine wpAny_bind ?_
 refine wpAny_bind ?_
 first|refine wpAny_bind (wpAny_typeNameOfWhole_itemiter hT (wpAny_pure ?_))|refine wpAny_bind (wpAny_typeNameOf_itemiter hT (wpAny_pure ?_))
 refine wpAny_bind (wpAny_fieldsOf hit rfl ?_)
 have hown:Builtin.Dict_items.ownsTuple "dict_itemiterator"=true:=by decide
 simp only[hown,if_true]
 show wpAny _ _ (if (Value.ref d==Value.none)=true then _ else _) _ _ _
 rw[if_neg (show ¬ ((Value.ref d==Value.none)=true) from Bool.false_ne_true)]
 refine wpAny_bind (wpAny_pure ?_)
 refine wpAny_bind (wpAny_dictEntries hod hdd ?_)
 have hsz:es.size=kvs.length:=by rw[<-hpr.length];simp
 rw[if_neg (by rw[hsz];simp)]
 refine wpAny_bind (wpAny_pure ?_)
 refine wpAny_bind (wpAny_dictEpoch hod hdd ?_)
 rw[if_neg (by simp)]
 refine wpAny_pure ?_
 have hlt:i<kvs.length:=by
  rcases Nat.lt_or_ge i kvs.length with h|h
  ·exact h
  ·simp[List.getElem?_eq_none h]at hx
 have hlt':i<es.size:=by rw[hsz];exact hlt
 obtain⟨hkey,hval⟩:=hpr.get? (e:=es[i]) (by simp[hlt']) hx
 simp only[show ¬ ((i:Int)<0) from by omega,if_false,Int.toNat_natCast,Array.getElem?_eq_getElem hlt']
 refine wpAny_bind ?_
 first|refine wpAny_bind (wpAny_typeNameOfWhole_itemiter hT (wpAny_pure ?_))|refine wpAny_bind (wpAny_typeNameOf_itemiter hT (wpAny_pure ?_))
 refine wpAny_bind (wpAny_isOneOf_itemiter hT ?_)
 show wpAny _ _ (setField (.ref it) 3 (rawInt ((i:Int)+1)) >>= _) _ _ ⟨hp,g,dr,tk,os⟩
 refine wpAny_bind (wpAny_setField_rec hit (by simp) fun h₁ he₁ hs₁=>?_)
 replace hs₁:Heap.SameBut it hp h₁:=hs₁
 replace he₁:KdxIt h₁ it d (i+1) kvs.length ep ok ov a f:=by
  have e:((i+1:Nat):Int)=(i:Int)+1:=by omega
  unfold KdxIt;rw[e];simpa [rawInt] using he₁
 have hT₁:Shared.TypeIs ⟨h₁,g,dr,tk,os⟩ (.ref it) "dict_itemiterator" := ⟨_,he₁,rfl⟩
 refine wpAny_bind (wpAny_holding ?_)
 refine wpAny_bind (wpAny_isOneOf_itemiter hT₁ ?_)
 refine wpAny_bind (wpAny_isOneOf_itemiter hT₁ ?_)
 show wpAny _ _ (Builtin.Dict_items.pairFromOwner (.ref it) 6 es[i].key es[i].val) _ _ ⟨h₁,g,dr,tk,os⟩
 unfold Builtin.Dict_items.pairFromOwner
 refine wpAny_bind (wpAny_newTuple ?_)
 have he₂:KdxIt (h₁.push {cls:=.type "tuple",data:=.seq #[es[i].key,es[i].val]}) it d (i+1) kvs.length ep ok ov a f:=Heap.get?_push_of_some _ he₁
 generalize hh₂:h₁.push {cls:=.type "tuple",data:=.seq #[es[i].key,es[i].val]}=h₂ at he₂
 have hz₁:h₁.objs.size=hp.objs.size:=hs₁.1
 have hil:it<hp.objs.size:=Heap.lt_size hit
 have ht₂:h₂.get? hp.objs.size=some {cls:=.type "tuple",data:=.seq #[es[i].key,es[i].val]}:=by rw[<-hh₂,<-hz₁];exact Heap.get?_push_size _ rfl
 have hz₂:h₂.objs.size=hp.objs.size+1:=by rw[<-hh₂,Heap.size_push,hz₁]
 have hk₂:∀b o,b≠it->hp.get? b=some o->h₂.get? b=some o:=fun b o hb e=>by rw[<-hh₂];exact Heap.get?_push_of_some _ (hs₁.extBut b o hb e)
 show wpAny _ _ (Builtin.Dict_items.ownedTupleIsFree (.ref it) >>= _) _ _ ⟨h₂,g,dr,tk,os⟩
 rw[hz₁]
 clear hh₂ he₁ hs₁ hT₁ hz₁ h₁
 have ha₂:h₂.get? a=some oa:=hk₂ a oa hai ha
 refine wpAny_bind ?_
 unfold Builtin.Dict_items.ownedTupleIsFree
 refine wpAny_bind (wpAny_field he₂ rfl (x:=rawInt a) rfl ?_)
 show wpAny _ _ (loadIfAlive ((a:Int).toNat) >>= _) _ _ _
 rw[Int.toNat_natCast]
 refine wpAny_bind (kdx_alive ha₂ ?_)
 simp only[Option.isNone_some,Bool.false_eq_true,if_false]
 refine wpAny_bind (wpAny_field he₂ rfl (x:=.bool f) rfl ?_)
 have fin:∀h₃:Heap,KdxIt h₃ it d (i+1) kvs.length ep ok ov a true->Heap.SameBut it h₂ h₃->Q (some (.ref hp.objs.size)) ⟨h₃,g,dr,tk,os⟩:=fun h₃ he₃ hs₃=>
  hQ es[i].key h₃ hkey he₃ (by rw[<-hval];exact hs₃.extBut _ _ (Nat.ne_of_gt hil) ht₂) (by show h₃.objs.size=hp.objs.size+1;rw[hs₃.1,hz₂]) fun b o hb e=>hs₃.extBut b o hb (hk₂ b o hb e)
 cases f with
 |true=>
  rw[if_neg (show ¬ ((Value.bool true != Value.bool true)=true) from Bool.false_ne_true)]
  refine wpAny_pure ?_
  simp only[Bool.false_eq_true,if_false]
  exact wpAny_pure (wpAny_pure ⟨_,rfl,wpAny_pure (fin h₂ he₂ (Heap.SameBut.refl _ _))⟩)
 |false=>
  rw[if_pos (show (Value.bool false != Value.bool true)=true from rfl)]
  refine wpAny_bind (wpAny_setField_rec he₂ (by simp) fun h₃ he₃ hs₃=>?_)
  replace hs₃:Heap.SameBut it h₂ h₃:=hs₃
  replace he₃:KdxIt h₃ it d (i+1) kvs.length ep ok ov a true:=he₃
  refine wpAny_pure ?_
  simp only[Bool.false_eq_true,if_false]
  exact wpAny_pure (wpAny_pure ⟨_,rfl,wpAny_pure (fin h₃ he₃ hs₃)⟩)
theorem YX {it d a:Addr}      (hh:A.handled=none)(hit:KdxIt s.heap it d i kvs.length ep ok ov a f)
  (hm:s.heap.DictV d kvs ep) (hx:kvs[i]?=none)
  (hQ:∀h',Heap.ExtBut it s.heap h'->Q none {s with heap:=h' }):wpAny (model prog w) A (pyNext (.ref it)) Q E s:=by
 obtain⟨od,es,hod,hcd,hdd,hk,hpr,hn⟩:=id hm
 have hT:s.TypeIs (.ref it) "dict_itemiterator" := ⟨_,hit,rfl⟩
 unfold pyNext
 refine wpAny_bind (wpAny_attempt (wpAny_callSpecial?_slot (name:=Str.ofString "__next__") hT PySem.F.slot_dict_itemiterator_next
  (wpAny_call_entry PySem.F.slot_dict_itemiterator_next hT PySem.F.entry_dict_itemiterator_next ?_ (PySem.F.args_dict_itemiterator_next_1 _))))
 refine wpAny_bind (wpAny_pure ?_)
 refine wpAny_bind ?_
 refine wpAny_bind ?_
 first|refine wpAny_bind (wpAny_typeNameOfWhole_itemiter hT (wpAny_pure ?_))|refine wpAny_bind (wpAny_typeNameOf_itemiter hT (wpAny_pure ?_))
 refine wpAny_bind (wpAny_fieldsOf hit rfl ?_)
 have hown:Builtin.Dict_items.ownsTuple "dict_itemiterator"=true:=by decide
 simp only[hown,if_true]
 show wpAny _ _ (if (Value.ref d==Value.none)=true then _ else _) _ _ s
 rw[if_neg (show ¬ ((Value.ref d==Value.none)=true) from Bool.false_ne_true)]
 refine wpAny_bind (wpAny_pure ?_)
 refine wpAny_bind (wpAny_dictEntries hod hdd ?_)
 have hsz:es.size=kvs.length:=by rw[<-hpr.length];simp
 rw[if_neg (by rw[hsz];simp)]
 refine wpAny_bind (wpAny_pure ?_)
 refine wpAny_bind (wpAny_dictEpoch hod hdd ?_)
 rw[if_neg (by simp)]
 refine wpAny_pure ?_
 have hge:es.size<=i:=by rw[hsz];simpa using hx
 simp only[show ¬ ((i:Int)<0) from by omega,if_false,Int.toNat_natCast,Array.getElem?_eq_none hge]
 refine wpAny_bind ?_
 first|refine wpAny_bind (wpAny_typeNameOfWhole_itemiter hT (wpAny_pure ?_))|refine wpAny_bind (wpAny_typeNameOf_itemiter hT (wpAny_pure ?_))
 show wpAny _ _ (setField (.ref it) 2 .none >>= _) _ _ s
 refine wpAny_bind (wpAny_setField hit rfl (by simp) ?_)
 show wpAny _ _ (newExc (.type "StopIteration") [] >>= _) _ _ _
 refine wpAny_bind ?_
 simp only[newExc,newTuple]
 refine wpAny_bind (wpAny_newObj_type ?_ (by size_fits))
 refine wpAny_bind (m:=firstArgMember _ _) (wpAny_of_eq (a:=Value.none) (by first|rfl|(simp only[firstArgMember];rfl)) ?_)
 refine wpAny_newObj_type ?_ (by size_fits)
 simp only[raiseNew]
 refine wpAny_bind (wpAny_handled ?_)
 rw[show A.in1.handled=none from hh]
 refine wpAny_bind (wpAny_pure (wpAny_throw ?_))
 refine wpAny_bind (wpAny_isInstance (T := "StopIteration") (b:=true) ⟨_,Heap.get?_push_size _ rfl,rfl⟩ isSubtype_stop ?_)
 exact wpAny_pure (hQ _ (((Heap.SameBut.update ..).extBut.push _).push _))
theorem EP_ {it d S:Addr}      (hst:KdxSt s.heap it d S i kvs.length ep)(hS:S<s.heap.objs.size)
  (hm:s.heap.DictV d kvs ep) (hx:kvs[i]?=some (k,v))
  (hQ:∀key h',k=key->KdxSt h' it d S (i+1) kvs.length ep->h'.get? s.heap.objs.size=some {cls:=.type "tuple",data:=.seq #[key,v]}->h'.objs.size=s.heap.objs.size+1 ->
   (∀b o,b≠it->s.heap.get? b=some o->h'.get? b=some o)->Q (some (.ref s.heap.objs.size)) {s with heap:=h' }):
  wpAny (model prog w) A (pyNext (.ref it)) Q E s:=by
 rcases hst with ⟨rfl,ok,ov,hit⟩|⟨ok,ov,a,f,oa,hit,ha,hai,haS⟩
 ·exact JF hit hm hx fun key h' hk hit' ht hz hkeep=>hQ key h' hk (.inr ⟨key,v,_,false,_,hit',ht,Nat.ne_of_gt (Heap.lt_size hit),Nat.ne_of_gt hS⟩) ht hz hkeep
 ·exact WH hit ha hai hm hx fun key h' hk hit' ht hz hkeep=>hQ key h' hk (.inr ⟨ok,ov,a,true,oa,hit',hkeep a oa hai ha,hai,haS⟩) ht hz hkeep
theorem EQ_ {it d S:Addr}    (hh:A.handled=none)(hst:KdxSt s.heap it d S i kvs.length ep)(hm:s.heap.DictV d kvs ep)(hx:kvs[i]?=none)
  (hQ:∀h',Heap.ExtBut it s.heap h'->Q none {s with heap:=h' }):wpAny (model prog w) A (pyNext (.ref it)) Q E s:=by
 rcases hst with ⟨rfl,ok,ov,hit⟩|⟨ok,ov,a,f,oa,hit,_,_,_⟩
 ·exact J5 hh hit hm hx hQ
 ·exact YX hh hit hm hx hQ
structure KdxGV (kvs:List (Value×Value))(lo:Addr)(h:Heap)(as:List Addr):Prop where
 rise:as.Pairwise (· < ·)
 above:∀a∈as,lo<a
 pairs:∀(j:Nat) (a:Addr),as[j]?=some a->∃key k x,kvs[j]?=some (k,x)/\k=key/\h.get? a=some {cls:=.type "tuple",data:=.seq #[key,x]}
theorem KdxGV.there  {lo:Addr}   (g:KdxGV kvs lo h as)  (ha:a∈as):a<h.objs.size:=by
 obtain⟨j,hj⟩:=List.mem_iff_getElem?.mp ha
 obtain⟨_,_,_,_,_,e⟩:=g.pairs j a hj
 exact Heap.lt_size e
end
section
variable {prog:Program} {w:World} {A:Around} {s:Shared} {R:Result->Shared->Prop} {kvs:List (Value×Value)} {ep:Nat}
theorem ER_ {S I d:Addr}(hh:A.handled=none)(hSI:S<I)(hSd:d≠S)(hId:d≠I)(hn:kvs.length<=sizeLine)(res:Value){h₁:Heap}
  (hR:∀h' tk acc c as,(∀b o,b≠S->b≠I->h₁.get? b=some o->h'.get? b=some o)->h'.get? S=some {cls:=.type "list",dict:=none,data:=.seq acc c,slots := #[]}->as.length=kvs.length->KdxGV kvs I h' as ->
   acc.toList=as.map Value.ref->R (.ok (.ret res)) {s with heap:=h',toks:=tk}):
  ∀(k i:Nat) (h:Heap) (tk c:Nat) (acc:Array Value) (as:List Addr),kvs.length-i=k->i<=kvs.length->KdxSt h I d S i kvs.length ep->h.DictV d kvs ep->(∀b o,b≠S->b≠I->h₁.get? b=some o->h.get? b=some o) ->
   h.get? S=some {cls:=.type "list",dict:=none,data:=.seq acc c,slots := #[]}->acc.toList=as.map Value.ref->as.length=i->KdxGV kvs I h as->I<h.objs.size ->
   codeAny (model prog w) A (.builtin "list.extend.loop" ⟨[.ref S,.ref I,res],[]⟩) R {s with heap:=h,toks:=tk}:=by
 have hne:S≠I:=Nat.ne_of_lt hSI
 intro k
 induction k with
 |zero=>
  intro i h tk c acc as hk hi hst hD hkeep hS hacc hal hG hIs
  have hin:i=kvs.length:=by omega
  refine codeAny_builtin PySem.F.entry_extend_loop ?_
  rw[Around.under_plainId PySem.F.plain_extend_loop _]
  show wpAny _ A.in1 (pyNext (.ref I) >>= _) _ _ _
  refine wpAny_bind (EQ_ (s:={s with heap:=h,toks:=tk}) (A:=A.in1) hh hst hD (List.getElem?_eq_none (by omega)) fun h' he=>?_)
  refine wpAny_pure (hR h' tk acc c as (fun b o h1 h2 e=>he b o h2 (hkeep b o h1 h2 e)) (he S _ hne hS) (by omega) ⟨hG.rise,hG.above,fun j a hj=>?_⟩ hacc)
  obtain⟨key,kk,x,e1,e2,e3⟩:=hG.pairs j a hj
  exact⟨key,kk,x,e1,e2,he a _ (Nat.ne_of_gt (hG.above a (List.mem_of_getElem? hj))) e3⟩
 |succ k ih=>
  intro i h tk c acc as hk hi hst hD hkeep hS hacc hal hG hIs
  have hlt:i<kvs.length:=by omega
  obtain⟨⟨kk,x⟩,hx⟩:∃p,kvs[i]?=some p:=⟨kvs[i],List.getElem?_eq_getElem hlt⟩
  have hsz:acc.size=i:=by rw[<-Array.length_toList,hacc,List.length_map,hal]
  refine codeAny_builtin PySem.F.entry_extend_loop ?_
  rw[Around.under_plainId PySem.F.plain_extend_loop _]
  show wpAny _ A.in1 (pyNext (.ref I) >>= _) _ _ _
  refine wpAny_bind (EP_ (s:={s with heap:=h,toks:=tk}) (S:=S) hst (Heap.lt_size hS) hD hx fun key h' hkey hst' ht hz hkp=>?_)
  dsimp only at ht hz hkp ⊢
  have hS':=hkp S _ hne hS
  have up:∀b o,b≠S->h'.get? b=some o->(h'.update S (Obj.mapSeq (·.push (Value.ref h.objs.size)))).get? b=some o:=fun b o hb e=>(Heap.get?_update_other _ _ (Ne.symm hb)).trans e
  have hSl:S<h.objs.size:=Heap.lt_size hS
  show wpAny _ A.in1 (updateSeq S (·.push (Value.ref h.objs.size)) >>= _) _ _ _
  refine wpAny_bind ?_
  refine wpAny_updateSeq hS' rfl (wpAny_pure ⟨plainId_quiet PySem.F.plain_extend_loop _,ih (i+1) _ tk _ (acc.push (Value.ref h.objs.size)) (as++[h.objs.size]) (by omega) hlt (hst'.keep up (Ne.symm hne)) (hD.at' fun o e=>up d o hSd (hkp d o hId e))
   (fun b o h1 h2 e=>up b o h1 (hkp b o h2 (hkeep b o h1 h2 e))) (Heap.get?_update_self _ hS' rfl) (by rw[Array.toList_push,hacc,List.map_append];rfl) (by rw[List.length_append,hal];rfl) ⟨?_,?_,?_⟩ ?_⟩) (by rw[hsz];omega) (by show (acc.push (Value.ref h.objs.size)).size<=sizeLine+1;rw[Array.size_push,hsz];omega)
  ·refine List.pairwise_append.mpr ⟨hG.rise,List.pairwise_singleton _ _,fun a ha b hb=>?_⟩
   rw[List.mem_singleton.mp hb]
   exact hG.there ha
  ·intro a ha
   rcases List.mem_append.mp ha with ha|ha
   ·exact hG.above a ha
   ·rw[List.mem_singleton.mp ha];exact hIs
  ·intro j b hj
   rcases Nat.lt_trichotomy j as.length with h1|h1|h1
   ·rw[List.getElem?_append_left h1]at hj
    obtain⟨key',k',x',e1,e2,e3⟩:=hG.pairs j b hj
    have hb:=hG.above b (List.mem_of_getElem? hj)
    exact⟨key',k',x',e1,e2,up b _ (Nat.ne_of_gt (Nat.lt_trans hSI hb)) (hkp b _ (Nat.ne_of_gt hb) e3)⟩
   ·subst h1
    have hb:h.objs.size=b:=by simpa using hj
    subst hb
    exact⟨key,kk,x,by rw[hal];exact hx,hkey,up _ _ (Nat.ne_of_gt hSl) ht⟩
   ·have hnone:(as++[h.objs.size])[j]?=none:=List.getElem?_eq_none (by rw[List.length_append,List.length_singleton];omega)
    rw[hnone]at hj;cases hj
  ·have e:(h'.update S (Obj.mapSeq (·.push (Value.ref h.objs.size)))).get? h.objs.size=_:=up _ _ (Nat.ne_of_gt hSl) ht
   exact Nat.lt_trans hIs (Heap.lt_size e)
end
section
variable {prog:Program} {w:World} {A:Around} {E:Value->Shared->Prop} {s:Shared} {r d:Addr} {kvs:List (Value×Value)} {ep:Nat}
theorem AV_  (hh:A.handled=none)(hv:s.heap.IsItemsView r d)(hm:s.heap.DictV d kvs ep)(S:Addr)(hSr:S≠r)(hSd:d≠S)(res:Value)(c₀:Nat)(hS:s.heap.get? S=some {cls:=.type "list",data:=.seq #[] c₀})
  (hR:∀h' tk acc c as,(∀b o,b≠S->s.heap.get? b=some o->h'.get? b=some o)->h'.get? S=some {cls:=.type "list",dict:=none,data:=.seq acc c,slots := #[]}->as.length=kvs.length->KdxGV kvs s.heap.objs.size h' as ->
   acc.toList=as.map Value.ref->R (.ok (.ret res)) {s with heap:=h',toks:=tk}) (hn:kvs.length<=sizeLine):
  wpAny (model prog w) A.in1 (Builtin.List.listExtendWith (.ref S) (.ref r) res)
   (fun fin s'=>match fin with | .done f=>R (.ok f) s' | .again c'=>c'.quiet=true/\codeAny (model prog w) A c' R s') (fun e s'=>R (.error e) s') s:=by
 have hSI:S<s.heap.objs.size:=Heap.lt_size hS
 have hdI:d<s.heap.objs.size:=hm.lt_size
 have key:∀(h:Heap) (c₁ tk:Nat),(∀b o,b≠S->(s.heap.push {cls:=.type "dict_itemiterator",data:=.fields #[.none,.bool false,.ref d,.int 0 0,.int kvs.length 0,.int ep 0,.none,.none]}).get? b=some o->h.get? b=some o) ->
   h.get? S=some {cls:=.type "list",data:=.seq #[] c₁}->codeAny (model prog w) A (.builtin "list.extend.loop" ⟨[.ref S,.ref s.heap.objs.size,res],[]⟩) R {s with heap:=h,toks:=tk}:=by
  intro h c₁ tk hk hS₁
  have hI:=hk s.heap.objs.size _ (Nat.ne_of_gt hSI) (Heap.get?_push_size _ rfl)
  refine ER_ (kvs:=kvs) (ep:=ep) (s:=s) (h₁:=s.heap) hh hSI hSd (Nat.ne_of_lt hdI) hn res (fun h' tk' acc c as hk' hS' hl hG hacc=>hR h' tk' acc c as (fun b o hb e=>hk' b o hb (Nat.ne_of_lt (Heap.lt_size e)) e) hS' hl hG hacc)
   kvs.length 0 h tk c₁ #[] [] (Nat.sub_zero _) (Nat.zero_le _) (.inl ⟨rfl,.none,.none,hI⟩) (hm.at' fun o e=>hk d o hSd (Heap.get?_push_of_some _ e)) (fun b o hb _ e=>hk b o hb (Heap.get?_push_of_some _ e)) hS₁ rfl rfl
   ⟨List.Pairwise.nil,(fun _ ha=>nomatch ha),(fun j a hj=>by simp at hj)⟩ (Heap.lt_size hI)
 unfold Builtin.List.listExtendWith
 refine wpAny_bind (wpAny_typeOf (T := "dict_items") hv.typeIs ?_)
 have h1:Builtin.List.listSameRef (.ref S) (.ref r)=false:=by simp[Builtin.List.listSameRef,hSr]
 have h2:(Value.type "dict_items" == Value.type "list")=false:=by decide
 have h3:(Value.type "dict_items" == Value.type "tuple")=false:=by decide
 simp only[h1,h2,h3,Bool.or_false,Bool.false_eq_true,if_false]
 refine wpAny_bind (NX hv hm ?_)
 have hS₁:=Heap.get?_push_of_some {cls:=.type "dict_itemiterator",data:=.fields #[.none,.bool false,.ref d,.int 0 0,.int kvs.length 0,.int ep 0,.none,.none]} hS
 refine wpAny_bind (wpAny_holding (kdx_hint (let ⟨o,ho,hc,_⟩:=hv;⟨o,Heap.get?_push_of_some _ ho,hc⟩) ?_))
 refine wpAny_ite_split (fun _=>?_) (fun _=>wpAny_pure ⟨plainId_quiet PySem.F.plain_extend_loop _,key _ c₀ _ (fun b o _ e=>e) hS₁⟩)
 refine wpAny_bind (wpAny_rule ?_)
 refine wpAny_bind ?_
 show wpAny _ _ (updateSeq S (·.push .none) >>= fun _=>updateSeq S (·.pop)) _ _ _
 refine wpAny_bind (wpAny_updateSeq hS₁ rfl ?_)
 have hS₂:=Heap.get?_update_self (Obj.mapSeq (·.push Value.none)) hS₁ rfl
 refine wpAny_updateSeq (hz:=by seq_fits) hS₂ rfl ?_
 have hS₃:=Heap.get?_update_self (Obj.mapSeq (·.pop)) hS₂ rfl
 refine wpAny_pure ⟨plainId_quiet PySem.F.plain_extend_loop _,key _ _ _ (fun b o hb e=>?_) hS₃⟩
 exact (Heap.get?_update_other _ _ (Ne.symm hb)).trans ((Heap.get?_update_other _ _ (Ne.symm hb)).trans e)
theorem KdxGV.low  {lo lo':Addr}   (g:KdxGV kvs lo h as)(hl:lo'<=lo):KdxGV kvs lo' h as:=⟨g.rise,fun a ha=>Nat.lt_of_le_of_lt hl (g.above a ha),g.pairs⟩
theorem ES_  (hh:A.handled=none)(hv:s.heap.IsItemsView r d)(hm:s.heap.DictV d kvs ep)(S:Addr)(hSr:S≠r)(hSd:d≠S)(hS:s.heap.get? S=some {cls:=.type "list",data:=.seq #[]})
  (hR:∀h' tk acc c as,(∀b o,b≠S->s.heap.get? b=some o->h'.get? b=some o)->h'.get? S=some {cls:=.type "list",dict:=none,data:=.seq acc c,slots := #[]}->as.length=kvs.length->KdxGV kvs S h' as ->
   acc.toList=as.map Value.ref->R (.ok (.ret .none)) {s with heap:=h',toks:=tk}) (hn:kvs.length<=sizeLine):
  wpAny (model prog w) A.in1 (Builtin.«list.__init__» ⟨[.ref S,.ref r],[]⟩)
   (fun fin s'=>match fin with | .done f=>R (.ok f) s' | .again c'=>c'.quiet=true/\codeAny (model prog w) A c' R s') (fun e s'=>R (.error e) s') s:=by
 show wpAny _ _ (do let old <- Builtin.List.listItems (.ref S);Builtin.List.listUpdate (.ref S) (fun _ => #[]);letGo old.toList.reverse;Builtin.List.listExtendWith (.ref S) (.ref r) .none) _ _ s
 refine wpAny_bind ?_
 unfold Builtin.List.listItems
 refine wpAny_bind (wpAny_seqItems hS rfl (wpAny_pure ?_))
 show wpAny _ _ (updateSeq S (fun _ => #[]) >>= fun _=>letGo (#[]:Array Value).toList.reverse >>= fun _=>Builtin.List.listExtendWith (.ref S) (.ref r) .none) _ _ s
 refine wpAny_bind (wpAny_updateSeq hS rfl ?_)
 have hS₂:=Heap.get?_update_self (Obj.mapSeq (fun _=>(#[]:Array Value))) hS rfl
 have oth:∀b o,b≠S->s.heap.get? b=some o->(s.heap.update S (Obj.mapSeq (fun _=>(#[]:Array Value)))).get? b=some o:=
  fun b o hb e=>(Heap.get?_update_other _ _ (Ne.symm hb)).trans e
 refine wpAny_bind (wpAny_letGo ?_)
 refine AV_ (kvs:=kvs) (ep:=ep) hh (let ⟨o,ho,x⟩:=hv;⟨o,oth r o hSr.symm ho,x⟩) (hm.at' fun o e=>oth d o hSd e) S hSr hSd .none _ hS₂ (fun h' tk acc c as hk hS' hl hG hacc=>?_) hn
 exact hR h' tk acc c as (fun b o hb e=>hk b o hb (oth b o hb e)) hS' hl (hG.low (Nat.le_of_lt (Heap.lt_size hS₂))) hacc
theorem kdx_callV  (hh:A.handled=none)(hv:s.heap.IsItemsView r d)(hm:s.heap.DictV d kvs ep)(hn:kvs.length<=sizeLine)
  (hQ:∀h' tk acc c as,(∀b o,s.heap.get? b=some o->h'.get? b=some o)->h'.get? s.heap.objs.size=some {cls:=.type "list",dict:=none,data:=.seq acc c,slots := #[]}->as.length=kvs.length->KdxGV kvs s.heap.objs.size h' as ->
   acc.toList=as.map Value.ref->Q (.ref s.heap.objs.size) {s with heap:=h',toks:=tk}):
  wpAny (model prog w) A (call (.type "list") [.ref r]) Q E s:=by
 refine callType_codes (Q₁:=fun obj s₁=>obj=.ref s.heap.objs.size/\s₁={s with heap:=s.heap.push {cls:=.type "list",data:=.seq #[]} }) PySem.F.called_list (PySem.F.typeCall_list_1 _) PySem.F.entry_list_init
  (code_list_new _ ⟨rfl,rfl⟩) fun obj s₁ h₁=>?_
 obtain⟨rfl,rfl⟩:=h₁
 have hS:(s.heap.push {cls:=.type "list",data:=.seq #[]}).get? s.heap.objs.size=some {cls:=.type "list",data:=.seq #[]}:=Heap.get?_push_size _ rfl
 have hr:r<s.heap.objs.size:=let ⟨_,ho,_⟩:=hv;Heap.lt_size ho
 have hd:d<s.heap.objs.size:=hm.lt_size
 refine⟨⟨_,hS,rfl⟩,PySem.F.args_list_init_2 _ _,ES_ (kvs:=kvs) (ep:=ep) (A:=A.in1) hh (let ⟨o,ho,x⟩:=hv;⟨o,Heap.get?_push_of_some _ ho,x⟩) (hm.push _) _ (Nat.ne_of_gt hr) (Nat.ne_of_lt hd) hS (fun h' tk acc c as hk hS' hl hG hacc=>?_) hn⟩
 exact⟨rfl,hQ h' tk acc c as (fun b o e=>hk b o (Nat.ne_of_lt (Heap.lt_size e)) (Heap.get?_push_of_some _ e)) hS' hl hG hacc⟩
end
end PySem.W
namespace L2
open PySem PySem.Spec PyProof.Rows
theorem Cu_       (ok:HOk P w H h)(e:Rd H a (.dT kvs)):
  ∃o es ep,h.get? a=some o/\o.ExactDict/\o.data=.dict es ep/\es.size=kvs.length/\(a==sysModules)=false/\kvs.length<=sizeLine /\
   ∀(i:Nat) (k:List Key) (v:V),kvs[i]?=some (k,v)->∃b en,es[i]?=some en/\en.key=.ref b/\H b=some (.tup (k.map kV))/\RelV v en.val:=by
 obtain⟨z,y,xs,r,o,es,ep,h1,h2,h3,h4,h5⟩:=(show C4 P w H h a (.dT kvs) from FY_ ok e)
 have hl:=Paired.length r
 have hs:es.size=kvs.length:=by rw[<-Array.length_toList,h4,List.length_map,hl]
 refine⟨o,es,ep,h1,h2,h3,hs,y,z,fun i k v hk=>?_⟩
 obtain⟨q,hq,e1,e2,e3⟩:=P6 r hk
 refine⟨q.2.1,entryOfKey (tupleKind (Ec P w)) q,?_,rfl,e2,e3⟩
 rw[<-Array.getElem?_toList,h4,List.getElem?_map,hq];rfl
def AW_ (v d:Addr):HO:=.ext (fun h=>h.IsItemsView v d)
def Hz_ (td:TE):TE:=fun σ H Q=>td σ H fun x H1=>∃d kvs,x=.ref d/\Rd H1 d (.dT kvs)/\∀v,H1 v=none->Q (.ref v) (upd H1 v (AW_ v d))
theorem ET_     : Hz_ td σ H Q=td σ H fun x H1=>∃d kvs,x=.ref d/\Rd H1 d (.dT kvs)/\∀v,H1 v=none->Q (.ref v) (upd H1 v (AW_ v d)):=rfl
theorem Gl_     (ho:PE X o td)(hbase:attributeBase o "items" X.env (eval o X.env)=eval o X.env:=by rfl)(hline:(apos.endLine==cpos.line)=true:=by rfl):PE X (.Call (.Attribute o "items" apos) [] [] cpos) (Hz_ td):=by
 intro pins s σ H Q I h
 refine wpAny_Call_method0_late hbase hline (thn (ho pins s σ H _ I h) fun v s1 ⟨x,H1,I1,r1,d,kvs,ex,hd,q⟩=>?_)
 subst ex
 obtain rfl:v=Value.ref d:=r1
 obtain⟨od,es,ep,g1,g2,g3,g4,g5,g6,g7⟩:=Cu_ I1.hok hd
 have hT:s1.TypeIs (.ref d) "dict" := ⟨od,g1,g2.1⟩
 refine⟨"dict","dict.items",PySem.F.plainAttrs_dict,PySem.F.slot_dict_items,PySem.F.type_dict_items,hT,fun b e=>?_,Calls.callWith_builtin rfl (PySem.evalArgs_none ?_)⟩
 ·cases e
  exact⟨od,g1,g2.2.1⟩
 refine wpAny_call_entry PySem.F.slot_dict_items hT PySem.F.entry_dict_items (?_:wpAny _ _ (Builtin.«dict.items» _) _ _ s1) (PySem.F.args_dict_items_1 _)
 unfold Builtin.«dict.items»
 refine wpAny_bind ?_
 unfold Builtin.Dict.noArgs
 refine wpAny_bind (wpAny_notOrdered_dict hT ?_)
 show wpAny _ _ (pure d) _ _ s1
 refine wpAny_pure ?_
 show wpAny _ _ (Builtin.Dict.showsAll d >>= _) _ _ s1
 unfold Builtin.Dict.showsAll
 rw[if_neg (by rw[g5];exact Bool.false_ne_true)]
 refine wpAny_bind (wpAny_pure ?_)
 refine wpAny_bind (wpAny_newObj_type (wpAny_pure ⟨_,rfl,?_⟩))
 have new:C4 X.prog X.w (upd H1 s1.heap.objs.size (AW_ s1.heap.objs.size d)) (s1.heap.push {cls:=.type "dict_items",data:=.fields #[.ref d]}) s1.heap.objs.size (AW_ s1.heap.objs.size d):=
  ⟨⟨_,Heap.get?_push_size _ rfl,rfl,rfl⟩,⟨_,Heap.get?_push_size _ rfl⟩,fun h1 h2 ⟨o,e,r⟩ k=>⟨o,k o e,r⟩⟩
 exact⟨.ref _,_,I1.laid (t':=s1.toks) (fun b u e=>Heap.get?_push_of_some _ e) (Nat.le_refl _) new,rfl,q _ (I1.hok.fresh (Nat.le_refl _))⟩
theorem Cv_ {P:Program}{w:World}{fs:List Addr}{H0:Hp}{h0 h':Heap}:∀(as:List (Addr×List V)),(as.map (·.1)).Nodup ->
  (∀p∈as,h0.objs.size<=p.1/\p.2.length<=sizeLine/\∃its:List Value,Vals p.2 its/\IsTup h' p.1 its.toArray)->∀H,Un fs [] H0 H h0 h'->HOk P w H h'->(∀p∈as,H p.1=none) ->
  ∃H2,Un fs [] H0 H2 h0 h'/\HOk P w H2 h'/\Same H H2/\(∀p∈as,H2 p.1=some (.tup p.2))/\∀b,b∉as.map (·.1)->H2 b=H b
 |[],_,_,H,u,k,_=>⟨H,u,k,Same.refl _,(fun p hp=>by simp at hp),fun b _=>rfl⟩
 |p::r,nd,hp,H,u,k,hn=>by
  rw[List.map_cons,List.nodup_cons]at nd
  obtain⟨h1,h2,its,h3,h4⟩:=hp p List.mem_cons_self
  have hnp:=hn p List.mem_cons_self
  have k2:HOk P w (upd H p.1 (.tup p.2)) h':=k.track hnp ⟨h2,its,h3,h4⟩
  obtain⟨H2,e1,e2,e3,e4,e5⟩:=Cv_ r nd.2 (fun q hq=>hp q (List.mem_cons_of_mem _ hq)) (upd H p.1 (.tup p.2)) (u.track h1 hnp) k2 (fun q hq=>by
   have hne:q.1≠p.1:=fun z=>nd.1 (by rw[<-z];exact List.mem_map_of_mem hq)
   rw[Ah hne]
   exact hn q (List.mem_cons_of_mem _ hq))
  refine⟨H2,e1,e2,(Same.new hnp).trans e3,fun q hq=>?_,fun b hb=>?_⟩
  ·rcases List.mem_cons.mp hq with rfl|hq
   ·exact e3 _ _ Ae
   ·exact e4 q hq
  ·rw[List.map_cons,List.mem_cons,not_or]at hb
   rw[e5 b hb.2,Ah hb.1]
theorem Vals.two'   (h1:RelV x u)(h2:RelV y v):Vals [x,y] [u,v]:=.cons h1 (.cons h2 .nil)
theorem S8  (hc:X.calm=true):NT X (.type "list") (fun xs H Q=>∃v d kvs,xs=[.ref v]/\H v=some (AW_ v d)/\Rd H d (.dT kvs)/\∀l rs H',Same H H'->H' l=none->rs.length=kvs.length ->
  (∀(i:Nat) (k:List Key) (x:V),kvs[i]?=some (k,x)->∃t b,rs[i]?=some (V.ref t)/\H' t=some (.tup [.ref b,x])/\H b=some (.tup (k.map kV)))->Q (.ref l) (upd H' l (.lst rs))):=by
 intro pins s σ H xs us Q I r h
 obtain⟨p,d,kvs,rfl,hv,hp,q⟩:=h
 obtain⟨u,rfl,rx⟩:=vals1 r
 cases rx
 obtain⟨o,es,ep,g1,g2,g3,g4,g5,g6,g7⟩:=Cu_ I.hok hp
 obtain⟨hview,_⟩:=(show C4 X.prog X.w H s.heap p (AW_ p d) from I.hok p _ hv)
 refine PySem.W.kdx_callV (ep:=ep) (kvs:=es.toList.map fun e:DictEntry=>(e.key,e.val)) (I.ok.hd hc) hview ⟨o,es,g1,g2,g3,True.intro,show PySem.W.PairsV es.toList (es.toList.map fun e=>(e.key,e.val)) from rfl,True.intro⟩ (by rw[List.length_map,Array.length_toList,g4];exact g6) fun h' tk acc c as hk hS hl hG hacc=>?_
 have hal:as.length=kvs.length:=by rw[hl,List.length_map,Array.length_toList,g4]
 let f:DictEntry->V:=fun e=>match e.key with | .ref b=>V.ref b|_=>.non
 let cs:List (List V):=(es.toList.zip kvs).map fun q=>[f q.1,q.2.2]
 have hcl:cs.length=kvs.length:=by simp[cs,g4]
 have hci:∀(i:Nat) (k:List Key) (v:V) (b:Addr) (en:DictEntry),kvs[i]?=some (k,v)->es[i]?=some en->en.key=.ref b->cs[i]?=some [V.ref b,v]:=fun i k v b en h1 h2 h3=>by
  simp only[cs]
  rw[List.getElem?_map,show (es.toList.zip kvs)[i]?=some (en,(k,v)) from List.getElem?_zip_eq_some.mpr ⟨by rw[Array.getElem?_toList];exact h2,h1⟩]
  show some [f en,v]=_
  simp only[f,h3]
 have hz:(as.zip cs).map (·.1)=as:=by rw[List.map_fst_zip];rw[hal,hcl];exact Nat.le_refl _
 have u0:Un X.fs [] H H s.heap h':=Un.kept hk
 have k0:HOk X.prog X.w H h':=I.hok.kept hk
 have hmem:∀p∈as.zip cs,∃i:Nat,as[i]?=some p.1/\cs[i]?=some p.2:=fun p hp=>by
  obtain⟨i,hi⟩:=List.mem_iff_getElem?.mp hp
  exact⟨i,List.getElem?_zip_eq_some.mp hi⟩
 obtain⟨H2,e1,e2,e3,e4,e5⟩:=Cv_ (as.zip cs) (by rw[hz];exact hG.rise.imp fun a=>Nat.ne_of_lt a) (fun p hp=>by
  obtain⟨i,h1,h2⟩:=hmem p hp
  have hi:i<kvs.length:=by rw[<-hal];exact (List.getElem?_eq_some_iff.mp h1).1
  obtain⟨b,en,a1,a2,a3,a4⟩:=g7 i kvs[i].1 kvs[i].2 (by simp[hi])
  have hc:=hci i _ _ b en (show kvs[i]?=some (kvs[i].1,kvs[i].2) by simp[hi]) a1 a2
  rw[hc]at h2
  have h2':=Option.some.inj h2
  obtain⟨key,k,x,b1,b2,b3⟩:=hG.pairs i p.1 h1
  rw[List.getElem?_map,Array.getElem?_toList,a1]at b1
  simp only[Option.map_some,Option.some.injEq,Prod.mk.injEq]at b1
  obtain⟨b1,b1'⟩:=b1
  refine⟨Nat.le_of_lt (hG.above _ (List.mem_of_getElem? h1)),by rw[<-h2'];have:=Ao;simp;omega,[key,x],?_,⟨_,b3,rfl,0,rfl⟩⟩
  rw[<-h2',<-b2,<-b1,<-b1',a2]
  exact Vals.two' rfl a4) H u0 k0 (fun p hp=>by
  obtain⟨i,h1,h2⟩:=hmem p hp
  exact I.hok.fresh (Nat.le_of_lt (hG.above _ (List.mem_of_getElem? h1))))
 have hD:H2 s.heap.objs.size=none:=by
  rw[e5 _ (by rw[hz];exact fun z=>absurd (hG.above _ z) (Nat.lt_irrefl _))]
  exact I.hok.fresh (Nat.le_refl _)
 have hv:Vals (as.map V.ref) acc.toList:=by
  rw[hacc]
  clear hS hl hG hacc hal hz hmem e4 e5
  induction as with
  |nil=>exact .nil
  |cons a r ih=>exact .cons rfl ih
 have new:C4 X.prog X.w (upd H2 s.heap.objs.size (.lst (as.map V.ref))) h' s.heap.objs.size (.lst (as.map V.ref)):=⟨by rw[List.length_map,hal];exact g6,acc.toList,c,hv,by simpa using hS⟩
 refine⟨.ref _,_,I.un (t':=tk) (e1.track (Nat.le_refl _) hD) (e2.track hD new),rfl,q _ _ H2 e3 hD (by rw[List.length_map,hal]) fun i k x hkx=>?_⟩
 obtain⟨b,en,a1,a2,a3,a4⟩:=g7 i k x hkx
 have hi:i<as.length:=by rw[hal];exact (List.getElem?_eq_some_iff.mp hkx).1
 have hai:as[i]?=some as[i]:=by simp[hi]
 refine⟨as[i],b,by rw[List.getElem?_map,hai];rfl,?_,a3⟩
 exact e4 (as[i],[V.ref b,x]) (List.mem_iff_getElem?.mpr ⟨i,List.getElem?_zip_eq_some.mpr ⟨hai,hci i k x b en hkx a1 a2⟩⟩)
theorem KK_     (hg:Gl X x)(hm:∃t,X.mg x=some (.int n t))(hd:(x==("__debug__" : Str))=false:=by decide):PE X (.Name x pos) (tC (.int n)):=by
 obtain⟨t,hm⟩:=hm
 exact Li hg hm ⟨_,rfl⟩ hd
section
variable {K:PySem.W.Frag} {ta tv td ty tx:TE} {t:TA} {f m:Str} {σ:St} {H:Hp} {Q:VK} {D:Ends} {C:Addr} {sp:Sp} {dvs:List V} {E:XK}
theorem Kc_:tFld K ta f σ H Q=ta σ H fun x H1=>∃a C dx fs v,x=.ref a/\H1 a=some (.ins C dx fs)/\Cls K C/\Fo K C f/\fs.lookup f=some v/\Q v H1:=rfl
theorem HA_:sFld K ta tv f D σ H=tv σ H fun y H1=>ta σ H1 fun x H2=>∃a C dx fs,x=.ref a/\H2 a=some (.ins C dx fs)/\Cls K C/\Fo K C f/\fs.length<1000/\D.nx σ (upd H2 a (.ins C dx (putF f y fs))):=rfl
theorem HB_:Im_ C m sp dvs E ta t σ H Q=ta σ H fun x H1=>∃a dx fs,x=.ref a/\H1 a=some (.ins C dx fs)/\fs.lookup m=none/\t σ H1 fun vs H2=>sp (x::(vs++dvs)) H2 Q E:=rfl
theorem HC_:Js_ C sp dvs E t σ H Q=t σ H fun vs H1=>∀x dx,H1 x=none->H1 dx=none->dx≠x->sp (.ref x::(vs++dvs)) (upd (upd H1 dx (.own x)) x (.ins C dx [])) (fun v H2=>v=.non/\Q (.ref x) H2) E:=rfl
theorem EU_:Hc_ td ty tx σ H Q=td σ H fun x H1=>∃a,x=.ref a/\IsD H1 a/\ty σ H1 fun y H2=>tx σ H2 fun z H3=>∃o,DGet H3 a y o/\Q (o.getD z) H3:=rfl
end
def ents (es:List (List Int×Int)):List (List Key×V):=es.map fun e=>(wkey e.1,V.int e.2)
theorem EV_ (es:List (List Int×Int)):HK (es.map (·.1)) (ents es):=by unfold HK ents;rw[List.map_map,List.map_map];rfl
theorem S9   (h:w∉es.map (·.1)):valV (ents es) (wkey w)=none:=by
 have:=(EV_ es).some_iff w
 rw[decide_eq_false h]at this
 cases q:valV (ents es) (wkey w) with
 |none=>rfl
 |some v=>rw[q]at this;cases this
theorem IX:∀{es:List (List Int×Int)} {w:List Int} {m:Int},(es.map (·.1)).Nodup->(w,m)∈es->valV (ents es) (wkey w)=some (.int m)
 |[],_,_,_,h=>by cases h
 |e::r,w,m,nd,h=>by
  rw[List.map_cons,List.nodup_cons]at nd
  unfold valV ents
  rw[List.map_cons,List.find?_cons]
  by_cases hw:e.1=w
  ·have hem:e.2=m:=by
    rcases List.mem_cons.mp h with q|q
    ·rw[<-q]
    ·exact absurd (List.mem_map.mpr ⟨_,q,hw.symm⟩) nd.1
   rw[show decide ((wkey e.1,V.int e.2).1=wkey w)=true from decide_eq_true (by rw[hw]),<-hem];rfl
  ·rw[show decide ((wkey e.1,V.int e.2).1=wkey w)=false from decide_eq_false fun z=>hw (SD z)]
   rcases List.mem_cons.mp h with q|q
   ·exact absurd (by rw[<-q]) hw
   ·exact IX nd.2 q
theorem Cw_    (h:w∉es.map (·.1)):putK (ents es) (wkey w) (.int m)=ents (es++[(w,m)]):=by
 unfold putK
 rw[J3,S9 h,if_neg (by simp)]
 unfold ents
 rw[List.map_append];rfl
theorem Di_:¬ (("letters" : Str) = "marks"):=by decide +kernel
def YY (L:Int)(d:Addr):List (Str×V):=putF "marks" (.ref d) (putF "letters" (.int L) [])
theorem WI (L:Int)(d:Addr):(YY L d).lookup ("letters" : Str)=some (.int L):=by
 unfold YY
 rw[FP,if_neg Di_,FP,if_pos rfl]
theorem GU (L:Int)(d:Addr):(YY L d).lookup ("marks" : Str)=some (.ref d):=by
 unfold YY
 rw[FP,if_pos rfl]
theorem Hf (L:Int)(d:Addr){m:Str}(h1:¬ m = "marks")(h2:¬ m = "letters"):(YY L d).lookup m=none:=by
 unfold YY
 rw[FP,if_neg h1,FP,if_neg h2]
 rfl
structure BookAt (C:Addr)(H:Hp)(p d:Addr)(L:Int)(es:List (List Int×Int)):Prop where
 ob:∃dx,H p=some (.ins C dx (YY L d))
 dc:H d=some (.dT (ents es))
 nd:(es.map (·.1)).Nodup
theorem BookAt.mono      (h:BookAt C H p d L es)(s:Same H H'):BookAt C H' p d L es:=by
 obtain⟨⟨dx,a⟩,b,c⟩:=h
 exact⟨⟨dx,s _ _ a⟩,s _ _ b,c⟩
end L2
namespace L2
open PySem PySem.Spec PyProof.Rows
def EW_ (C:Addr)(m:Str)(sp:Sp)(dvs:List V)(E:St->XK)(ta:TE)(t:TA):TE:=fun σ H Q=>ta σ H fun x H1=>∃a dx fs,x=.ref a/\H1 a=some (.ins C dx fs)/\fs.lookup m=none/\t σ H1 fun vs H2=>sp (x::(vs++dvs)) H2 Q (E σ)
theorem EX_           : EW_ C m sp dvs E ta t σ H Q=ta σ H fun x H1=>∃a dx fs,x=.ref a/\H1 a=some (.ins C dx fs)/\fs.lookup m=none/\t σ H1 fun vs H2=>sp (x::(vs++dvs)) H2 Q (E σ):=rfl
theorem Cx_                  (he:PE X o ta)(c:Cls X.K C)(hm:Meth X.K C m f)(F:FnOk X.prog X.w X.K X.mg X.base CX k f fd ps sp)(hr:Room k X.A)(hb:Binds X.K fd ps ds)(hd:Vals dvs ds)(hx:∀σ,Sy CX X σ (E σ))(ha:PA X (e::es) t)
  (hst:starEach (e::es) X.env=(false,eval e X.env)::starEach es X.env:=by rfl) (hpl:(backTo pos (starEach es X.env)).any (·.1)=false:=by rfl)
  (ht:eval (.Call (.Attribute o m apos) (e::es) [] pos) X.env=(do
   let ov <- eval o X.env
   standAt apos.atName
   let (f,first) <- holding [ov] (getMethod ov m pl)
   callWith pos f first (backTo pos (starEach (e::es) X.env)) (backToKw pos (keywordEach [] X.env))):=by rfl):
  PE X (.Call (.Attribute o m apos) (e::es) [] pos) (EW_ C m sp dvs E ta t):=by
 intro pins s σ H Q I h
 refine PySem.W.methodCall_KW (pl:=pl) (thn (he pins s σ H _ I h) fun u s1 ⟨x,H1,I1,rx,a,dx,fs,ex,ea,l,q⟩=>?_) ht
 subst ex
 obtain rfl:u=Value.ref a:=rx
 refine M0 I1 ea c hm l ?_
 refine PySem.W.callWith_K (first:=[.ref a]) (h₀:=X.base) I.ok.mod.kin hm.kp (thn (ha pos pins s1 σ H1 _ I1 q) fun us s2 ⟨vs,H2,I2,r,q2⟩=>⟨I2.kIn,?_⟩) hst hpl
 exact EF_ (us:=.ref a::us) (vs:=.ref a::vs) F hr hb hd (hx σ) I2 (.cons rfl r) q2
def HD_ (i:Nat)(f:Addr)(sp:Sp)(dvs:List V)(E:XK)(t:TA):TE:=fun σ H Q=>tVar i σ H fun v H1=>v=.ref f/\t σ H1 fun vs H2=>sp (vs++dvs) H2 Q E
theorem EY_          : HD_ i f sp dvs E t σ H Q=tVar i σ H fun v H1=>v=.ref f/\t σ H1 fun vs H2=>sp (vs++dvs) H2 Q E:=rfl
theorem EZ_     : Jq_ A σ H Z=A σ H fun vs H1=>∃i j:Int,vs=[.int i,.int j]/\(-(2 ^ 62)<=i/\i<2 ^ 62 /\ -(2 ^ 62)<=j/\j<2 ^ 62)/\Z (Itr i (j-i).toNat) H1:=rfl
section
variable {X:Cx} {CX CX':CXT} {k k':Nat} {f f':Addr} {fd fd':FuncData} {ps ps':List Str} {sp sp':Sp} {dvs dvs':List V} {ds ds':List Value} {x:Str} {p pos:Pos} {e:Expr} {es:List Expr} {t:TA}
theorem Gm_  (i:Nat)(F:FnOk X.prog X.w X.K X.mg X.base CX k f fd ps sp)(hr:Room k X.A)(hk:PySem.W.keepIn X.K (.ref f)=true)(hb:Binds X.K fd ps ds)(hd:Vals dvs ds)(hx:Lk CX X E)(ha:PA X (e::es) t)
  (hN:X.N[i]?=some x:=by rfl) (hv:Vis X.env.scope x:=by first|exact Or.inl rfl|exact Or.inr (Or.inl rfl)|exact Or.inr (Or.inr rfl)) (hdb:(x==("__debug__" : Str))=false:=by decide) (hcd:(x==("__classdict__" : Str))=false:=by decide)
  (he:starEach (e::es) X.env=(false,eval e X.env)::starEach es X.env:=by rfl) (hpl:(backTo pos (starEach es X.env)).any (·.1)=false:=by rfl):
  PE X (.Call (.Name x p) (e::es) [] pos) (HD_ i f sp dvs E t):=by
 intro pins s σ H Q I h
 refine wpAny_Call_Name_kw (thn (pv i hN hv hdb hcd pins s σ H _ I h) fun u s1 ⟨v,H1,I1,rv,ev,q⟩=>?_)
 subst ev
 obtain rfl:u=Value.ref f:=rv
 refine PySem.W.callWith_K (h₀:=X.base) I.ok.mod.kin hk (thn (ha pos pins s1 σ H1 _ I1 q) fun us s2 ⟨vs,H2,I2,r,q2⟩=>⟨I2.kIn,?_⟩) he hpl
 exact YK F hr hb hd hx I2 r q2
end
end L2
namespace PySem
open Sem (wp)
open PySem.F
section
variable {prog:Program} {w:World} {A:Around} {E:Value->Shared->Prop} {s:Shared}
theorem KG {it l:Addr}  {items}   (hit:s.heap.IsTupleIter it l i)
  (hl:s.heap.IsTuple l items) (hx:items[i]?=some x)
  (hQ:∀h',h'.IsTupleIter it l (i+1)->Heap.SameBut it s.heap h'->Q x {s with heap:=h' }):
  wpAny (model prog w) A (Builtin.SmallTypes.nextOf (.ref it)) Q E s:=by
 obtain⟨o,ho,hc,hd⟩:=id hit
 obtain⟨ol,hol,_,nl,hdl⟩:=hl
 unfold Builtin.SmallTypes.nextOf
 refine wpAny_bind (wpAny_callSpecial?_slot (name:=Str.ofString "__next__") hit.typeIs PySem.F.slot_tuple_iterator_next
  (wpAny_call_entry PySem.F.slot_tuple_iterator_next hit.typeIs PySem.F.entry_tuple_iterator_next ?_ (PySem.F.args_tuple_iterator_next_1 _)))
 show wpAny _ _ (field (.ref it) 0 >>= _) _ _ s
 refine wpAny_bind (wpAny_field ho hd (x:=.ref l) rfl ?_)
 show wpAny _ _ (if (Value.ref l==Value.none)=true then _ else _) _ _ s
 rw[if_neg (show ¬ ((Value.ref l==Value.none)=true) from Bool.false_ne_true)]
 show wpAny _ _ (field (.ref it) 1 >>= _) _ _ s
 refine wpAny_bind (wpAny_field ho hd (x:=.int i 0) rfl ?_)
 show wpAny _ _ (seqItems? (.ref l) >>= _) _ _ s
 refine wpAny_bind (wpAny_seqItems hol hdl ?_)
 simp only[Int.toNat_natCast,hx]
 refine wpAny_bind (wpAny_setField ho hd (by simp) (wpAny_pure ⟨x,rfl,wpAny_pure (hQ _ ?_ (Heap.SameBut.update ..))⟩))
 exact⟨_,Heap.get?_update_self _ ho (Obj.isFreed_of_fields (Obj.data_mapFields hd _)),(Obj.cls_mapFields ..).trans hc,by
  rw[Obj.data_mapFields hd];simp[rawInt]⟩
theorem Lq {it l:Addr}  {items}  (hh:A.handled=none)
  (hit:s.heap.IsTupleIter it l i) (hl:s.heap.IsTuple l items) (hx:items[i]?=none)
  (hE:∀h' e,Heap.ExtBut it s.heap h'->(∃o,h'.get? e=some o/\o.cls=.type "StopIteration")->E (.ref e) {s with heap:=h' }):
  wpAny (model prog w) A (Builtin.SmallTypes.nextOf (.ref it)) Q E s:=by
 obtain⟨o,ho,hc,hd⟩:=id hit
 obtain⟨ol,hol,_,nl,hdl⟩:=hl
 unfold Builtin.SmallTypes.nextOf
 refine wpAny_bind (wpAny_callSpecial?_slot (name:=Str.ofString "__next__") hit.typeIs PySem.F.slot_tuple_iterator_next
  (wpAny_call_entry PySem.F.slot_tuple_iterator_next hit.typeIs PySem.F.entry_tuple_iterator_next ?_ (PySem.F.args_tuple_iterator_next_1 _)))
 show wpAny _ _ (field (.ref it) 0 >>= _) _ _ s
 refine wpAny_bind (wpAny_field ho hd (x:=.ref l) rfl ?_)
 show wpAny _ _ (if (Value.ref l==Value.none)=true then _ else _) _ _ s
 rw[if_neg (show ¬ ((Value.ref l==Value.none)=true) from Bool.false_ne_true)]
 show wpAny _ _ (field (.ref it) 1 >>= _) _ _ s
 refine wpAny_bind (wpAny_field ho hd (x:=.int i 0) rfl ?_)
 show wpAny _ _ (seqItems? (.ref l) >>= _) _ _ s
 refine wpAny_bind (wpAny_seqItems hol hdl ?_)
 simp only[Int.toNat_natCast,hx]
 refine wpAny_bind (wpAny_rule (wpAny_bind (wpAny_setField ho hd (by simp) ?_)))
 show wpAny _ _ (newExc (.type "StopIteration") [] >>= _) _ _ _
 refine wpAny_bind ?_
 simp only[newExc,newTuple]
 refine wpAny_bind (wpAny_newObj_type ?_ (by size_fits))
 refine wpAny_bind (m:=firstArgMember _ _) (wpAny_of_eq (a:=Value.none) (by first|rfl|(simp only[firstArgMember];rfl)) ?_)
 refine wpAny_newObj_type ?_ (by size_fits)
 simp only[raiseNew]
 refine wpAny_bind (wpAny_handled ?_)
 first|rw[show A.in1.handled=none from hh]|rw[hh]
 refine wpAny_bind (wpAny_pure (wpAny_throw ?_))
 exact hE _ _ (((Heap.SameBut.update ..).extBut.push _).push _) ⟨_,Heap.get?_push_size _ rfl,rfl⟩
end
def GX (t:Bool)(h:Heap)(l:Addr)(xs:Array Value):Prop:=match t with|false=>h.IsList l xs|true=>h.IsTuple l xs
def EG (t:Bool)(h:Heap)(i l:Addr)(k:Nat):Prop:=match t with|false=>h.IsListIter i l k|true=>h.IsTupleIter i l k
theorem GX.extBut   {a b items}(x:GX t h a items)(hs:Heap.ExtBut b h h')(hab:a≠b):GX t h' a items:=by
 cases t
 ·exact Heap.IsList.extBut x hs hab
 ·exact Heap.IsTuple.extBut x hs hab
theorem GX.push   {a items}(x:GX t h a items)(o:Obj):GX t (h.push o) a items:=by
 cases t
 ·exact Heap.IsList.push x o
 ·exact Heap.IsTuple.push x o
theorem GX.lt   {a items}(x:GX t h a items):a<h.objs.size:=by
 cases t
 ·obtain⟨_,e,_⟩:=x;exact Heap.lt_size e
 ·obtain⟨_,e,_⟩:=x;exact Heap.lt_size e
theorem EG.extBut   {a b l i}(x:EG t h a l i)(hs:Heap.ExtBut b h h')(hab:a≠b):EG t h' a l i:=by
 cases t
 ·exact Heap.IsListIter.extBut x hs hab
 ·exact Heap.IsTupleIter.extBut x hs hab
theorem EG.at   {a l i}(x:EG t h a l i)(e:∀o,h.get? a=some o->h'.get? a=some o):EG t h' a l i:=by
 cases t
 ·exact Heap.IsListIter.at x e
 ·exact Heap.IsTupleIter.at x e
theorem EG.ob   {a l i}(x:EG t h a l i):∃o,h.get? a=some o/\o.data=.fields #[.ref l,.int i 0]:=by
 cases t
 ·obtain⟨o,e,_,d⟩:=x;exact⟨o,e,d⟩
 ·obtain⟨o,e,_,d⟩:=x;exact⟨o,e,d⟩
theorem EG.lt   {a l i}(x:EG t h a l i):a<h.objs.size:=by
 obtain⟨_,e,_⟩:=x.ob;exact Heap.lt_size e
section
variable {prog:Program} {w:World} {A:Around} {E:Value->Shared->Prop} {s:Shared}
theorem EH  {it l:Addr}  {items}   (hit:EG t s.heap it l i)(hl:GX t s.heap l items)(hx:items[i]?=some x)
  (hQ:∀h',EG t h' it l (i+1)->Heap.SameBut it s.heap h'->Q x {s with heap:=h' }):wpAny (model prog w) A (Builtin.SmallTypes.nextOf (.ref it)) Q E s:=by
 cases t
 ·exact wpAny_nextOf_list_item hit hl hx hQ
 ·exact KG hit hl hx hQ
theorem HN  {it l:Addr}  {items}  (hh:A.handled=none)(hit:EG t s.heap it l i)(hl:GX t s.heap l items)(hx:items[i]?=none)
  (hE:∀h' e,Heap.ExtBut it s.heap h'->(∃o,h'.get? e=some o/\o.cls=.type "StopIteration")->E (.ref e) {s with heap:=h' }):wpAny (model prog w) A (Builtin.SmallTypes.nextOf (.ref it)) Q E s:=by
 cases t
 ·exact wpAny_nextOf_list_end hh hit hl hx hE
 ·exact Lq hh hit hl hx hE
def Fa_ (t:Bool):Value:=match t with|false=>.type "list_iterator" |true=>.type "tuple_iterator"
theorem EG.mk    (g:h.get? a=some {cls:=Fa_ t,data:=.fields #[.ref l,.int 0 0]}):EG t h a l 0:=by
 cases t
 ·exact⟨_,g,rfl,rfl⟩
 ·exact⟨_,g,rfl,rfl⟩
theorem Ku   {items}  (hl:GX t s.heap l items)
  (hQ:Q (.ref s.heap.objs.size) {s with heap:=s.heap.push {cls:=Fa_ t,data:=.fields #[.ref l,.int 0 0]} }):wpAny (model prog w) A (pyIter (.ref l)) Q E s:=by
 cases t
 ·exact wpAny_pyIter_list hl hQ
 ·exact wpAny_pyIter_tuple hl hQ
end
section
variable {prog:Program} {w:World} {A:Around} {E:Value->Shared->Prop} {s:Shared}
theorem U6 {t1 t2:Bool}{z TI TO i1 i2 l1 l2:Addr}{k1 k2:Nat}{xs ys:Array Value}{x y a b:Value}{Q:Value->Shared->Prop}(D:ZipApart z TI TO i1 i2 l1 l2)
  (hz:IsZip s.heap z TI TO .none) (hTI:IsPair s.heap TI (.ref i1) (.ref i2)) (hTO:IsPair s.heap TO a b)
  (h1:EG t1 s.heap i1 l1 k1) (h2:EG t2 s.heap i2 l2 k2) (hl1:GX t1 s.heap l1 xs) (hl2:GX t2 s.heap l2 ys) (hx:xs[k1]?=some x) (hy:ys[k2]?=some y)
  (hQ:∀h',IsZip h' z TI TO (rawInt s.heap.objs.size)->IsPair h' TO x y->EG t1 h' i1 l1 (k1+1)->EG t2 h' i2 l2 (k2+1)->IsPair h' s.heap.objs.size x y->h'.objs.size=s.heap.objs.size+1 ->
   (∀c o,c≠z->c≠TO->c≠i1->c≠i2->s.heap.get? c=some o->h'.get? c=some o)->Q (.ref s.heap.objs.size) {s with heap:=h' }):
  wpAny (model prog w) A (Builtin.«zip.__next__» ⟨[.ref z],[]⟩) (fun fin s'=>∃v,fin=.done (.ret v)/\Q v s') E s:=by
 show wpAny _ _ (field (.ref z) 2 >>= _) _ _ _
 refine wpAny_bind (wpAny_field hz rfl (x:=.bool false) rfl ?_)
 show wpAny _ _ (field (.ref z) 3 >>= _) _ _ _
 refine wpAny_bind (wpAny_field hz rfl (x:=.ref TI) rfl ?_)
 refine wpAny_bind (wpAny_seqItems hTI rfl ?_)
 show wpAny _ _ (Builtin.SmallTypes.ownedTupleIsFree (.ref z) >>= _) _ _ _
 refine wpAny_bind ?_
 unfold Builtin.SmallTypes.ownedTupleIsFree
 refine wpAny_bind (wpAny_field hz rfl (x:=.none) rfl (wpAny_pure ?_))
 simp only[if_true]
 refine wpAny_bind (wpAny_rule ?_)
 refine wpAny_bind (wpAny_field hz rfl (x:=.ref TO) rfl ?_)
 refine wpAny_bind (wpAny_setField_rec hz (by simp) fun h₁ hz₁ hs₁=>?_)
 replace hz₁:IsZip h₁ z TI TO .ellipsis:=hz₁
 refine wpAny_bind ?_
 simp only[List.zipIdx_cons,List.zipIdx_nil,List.forIn_cons,List.forIn_nil]
 refine wpAny_bind (wpAny_bind (wpAny_onRaise ?_))
 show wpAny _ _ (Builtin.SmallTypes.nextOf (.ref i1) >>= _) _ _ _
 refine wpAny_bind (EH (h1.extBut hs₁.extBut D.i1z) (hl1.extBut hs₁.extBut D.l1z) hx fun h₂ h1₂ hs₂=>wpAny_pure ?_)
 have hTO₂:IsPair h₂ TO a b:=hs₂.extBut _ _ D.TOi1 (hs₁.extBut _ _ D.TOz hTO)
 refine wpAny_bind (wpAny_seqItems hTO₂ rfl ?_)
 refine wpAny_bind (wpAny_updateSeq_pair hTO₂ fun h₃ hTO₃ hs₃=>?_)
 replace hTO₃:IsPair h₃ TO x b:=hTO₃
 refine wpAny_bind (wpAny_letGo (wpAny_pure ?_))
 refine wpAny_bind (wpAny_bind (wpAny_onRaise ?_))
 show wpAny _ _ (Builtin.SmallTypes.nextOf (.ref i2) >>= _) _ _ _
 refine wpAny_bind (EH (((h2.extBut hs₁.extBut D.i2z).extBut hs₂.extBut D.i12.symm).extBut hs₃.extBut D.TOi2.symm)
  (((hl2.extBut hs₁.extBut D.l2z).extBut hs₂.extBut D.l2i1).extBut hs₃.extBut D.l2TO) hy fun h₄ h2₄ hs₄=>wpAny_pure ?_)
 have hTO₄:IsPair h₄ TO x b:=hs₄.extBut _ _ D.TOi2 hTO₃
 refine wpAny_bind (wpAny_seqItems hTO₄ rfl ?_)
 refine wpAny_bind (wpAny_updateSeq_pair hTO₄ fun h₅ hTO₅ hs₅=>?_)
 replace hTO₅:IsPair h₅ TO x y:=hTO₅
 refine wpAny_bind (wpAny_letGo (wpAny_pure (wpAny_pure ?_)))
 refine wpAny_bind (wpAny_seqItems hTO₅ rfl ?_)
 refine wpAny_bind (wpAny_newTuple ?_)
 have hsz:h₅.objs.size=s.heap.objs.size:=by rw[hs₅.1,hs₄.1,hs₃.1,hs₂.1,hs₁.1]
 have hz₅:IsZip h₅ z TI TO .ellipsis:=hs₅.extBut _ _ D.TOz.symm (hs₄.extBut _ _ D.i2z.symm (hs₃.extBut _ _ D.TOz.symm (hs₂.extBut _ _ D.i1z.symm hz₁)))
 have hk₅:∀c o,c≠z->c≠TO->c≠i1->c≠i2->s.heap.get? c=some o->h₅.get? c=some o:=fun c o c1 c2 c3 c4 e=>
  hs₅.extBut _ _ c2 (hs₄.extBut _ _ c4 (hs₃.extBut _ _ c2 (hs₂.extBut _ _ c3 (hs₁.extBut _ _ c1 e))))
 have h1₅:EG t1 h₅ i1 l1 (k1+1):=((h1₂.extBut hs₃.extBut D.TOi1.symm).extBut hs₄.extBut D.i12).extBut hs₅.extBut D.TOi1.symm
 have h2₅:EG t2 h₅ i2 l2 (k2+1):=h2₄.extBut hs₅.extBut D.TOi2.symm
 have hzlt:z<h₅.objs.size:=Heap.lt_size hz₅
 have hTOlt:TO<h₅.objs.size:=Heap.lt_size hTO₅
 have hi1lt:i1<h₅.objs.size:=h1₅.lt
 have hi2lt:i2<h₅.objs.size:=h2₅.lt
 show wpAny _ _ (Builtin.SmallTypes.ownedTupleHandOut (.ref z) (.ref h₅.objs.size) >>= _) _ _ _
 refine wpAny_bind ?_
 unfold Builtin.SmallTypes.ownedTupleHandOut
 have hz₆:IsZip (h₅.push {cls:=.type "tuple",data:=.seq #[x,y]}) z TI TO .ellipsis:=Heap.get?_push_of_some _ hz₅
 refine wpAny_bind (wpAny_setField_rec hz₆ (by simp) fun h₇ hz₇ hs₇=>?_)
 replace hz₇:IsZip h₇ z TI TO (rawInt h₅.objs.size):=hz₇
 refine wpAny_setField_rec hz₇ (by simp) fun h₈ hz₈ hs₈=>?_
 replace hz₈:IsZip h₈ z TI TO (rawInt h₅.objs.size):=hz₈
 have up:∀c o,c≠z->h₅.get? c=some o->h₈.get? c=some o:=fun c o c1 e=>hs₈.extBut _ _ c1 (hs₇.extBut _ _ c1 (Heap.get?_push_of_some _ e))
 have hT₈:IsPair h₈ h₅.objs.size x y:=hs₈.extBut _ _ (Nat.ne_of_gt hzlt) (hs₇.extBut _ _ (Nat.ne_of_gt hzlt) (Heap.get?_push_size _ rfl))
 have hz8:h₈.objs.size=h₅.objs.size+1:=by rw[hs₈.1,hs₇.1,Heap.size_push]
 rw[hsz]at hz₈ hT₈ hz8
 refine wpAny_pure ⟨_,rfl,?_⟩
 show Q (.ref h₅.objs.size) _
 rw[hsz]
 exact hQ h₈ hz₈ (up _ _ D.TOz hTO₅) (h1₅.at fun o e=>up _ o D.i1z e) (h2₅.at fun o e=>up _ o D.i2z e) hT₈ hz8 fun c o c1 c2 c3 c4 e=>up c o c1 (hk₅ c o c1 c2 c3 c4 e)
theorem WJ  {z TI TO i1 i2 l1 l2:Addr}     (hh:A.handled=none)(D:ZipApart z TI TO i1 i2 l1 l2)
  (hz:IsZip s.heap z TI TO .none) (hTI:IsPair s.heap TI (.ref i1) (.ref i2)) (hTO:IsPair s.heap TO a b)
  (h1:EG t1 s.heap i1 l1 k1) (h2:EG t2 s.heap i2 l2 k2) (hl1:GX t1 s.heap l1 xs) (hl2:GX t2 s.heap l2 ys) (hend:xs[k1]?=none\/ys[k2]?=none)
  (hE:∀h' e,(∀c o,c≠z->c≠TO->c≠i1->c≠i2->s.heap.get? c=some o->h'.get? c=some o)->(∃o,h'.get? e=some o/\o.cls=.type "StopIteration")->E (.ref e) {s with heap:=h' }):
  wpAny (model prog w) A (Builtin.«zip.__next__» ⟨[.ref z],[]⟩) Q E s:=by
 show wpAny _ _ (field (.ref z) 2 >>= _) _ _ _
 refine wpAny_bind (wpAny_field hz rfl (x:=.bool false) rfl ?_)
 show wpAny _ _ (field (.ref z) 3 >>= _) _ _ _
 refine wpAny_bind (wpAny_field hz rfl (x:=.ref TI) rfl ?_)
 refine wpAny_bind (wpAny_seqItems hTI rfl ?_)
 show wpAny _ _ (Builtin.SmallTypes.ownedTupleIsFree (.ref z) >>= _) _ _ _
 refine wpAny_bind ?_
 unfold Builtin.SmallTypes.ownedTupleIsFree
 refine wpAny_bind (wpAny_field hz rfl (x:=.none) rfl (wpAny_pure ?_))
 simp only[if_true]
 refine wpAny_bind (wpAny_rule ?_)
 refine wpAny_bind (wpAny_field hz rfl (x:=.ref TO) rfl ?_)
 refine wpAny_bind (wpAny_setField_rec hz (by simp) fun h₁ hz₁ hs₁=>?_)
 replace hz₁:IsZip h₁ z TI TO .ellipsis:=hz₁
 refine wpAny_bind ?_
 simp only[List.zipIdx_cons,List.zipIdx_nil,List.forIn_cons,List.forIn_nil]
 refine wpAny_bind (wpAny_bind (wpAny_onRaise ?_))
 show wpAny _ _ (Builtin.SmallTypes.nextOf (.ref i1) >>= _) _ _ _
 cases hx:xs[k1]? with
 |none=>
  refine wpAny_bind (HN hh (h1.extBut hs₁.extBut D.i1z) (hl1.extBut hs₁.extBut D.l1z) hx fun h₂ e hs₂ he=>?_)
  obtain⟨oe,hoe,hce⟩:=he
  have hz₂:IsZip h₂ z TI TO .ellipsis:=hs₂ _ _ D.i1z.symm hz₁
  have hez:e≠z:=fun x=>by subst x;rw[hz₂]at hoe;cases hoe;simp at hce
  refine wpAny_setField_rec hz₂ (by simp) fun h₃ _ hs₃=>hE h₃ e (fun c o c1 _ c3 _ x=>hs₃.extBut _ _ c1 (hs₂ _ _ c3 (hs₁.extBut _ _ c1 x))) ⟨oe,hs₃.extBut _ _ hez hoe,hce⟩
 |some x=>
  have hy:ys[k2]?=none:=by rcases hend with h|h;rw[hx]at h;cases h;exact h
  refine wpAny_bind (EH (h1.extBut hs₁.extBut D.i1z) (hl1.extBut hs₁.extBut D.l1z) hx fun h₂ h1₂ hs₂=>wpAny_pure ?_)
  have hTO₂:IsPair h₂ TO a b:=hs₂.extBut _ _ D.TOi1 (hs₁.extBut _ _ D.TOz hTO)
  refine wpAny_bind (wpAny_seqItems hTO₂ rfl ?_)
  refine wpAny_bind (wpAny_updateSeq_pair hTO₂ fun h₃ hTO₃ hs₃=>?_)
  refine wpAny_bind (wpAny_letGo (wpAny_pure ?_))
  refine wpAny_bind (wpAny_bind (wpAny_onRaise ?_))
  show wpAny _ _ (Builtin.SmallTypes.nextOf (.ref i2) >>= _) _ _ _
  refine wpAny_bind (HN hh (((h2.extBut hs₁.extBut D.i2z).extBut hs₂.extBut D.i12.symm).extBut hs₃.extBut D.TOi2.symm)
   (((hl2.extBut hs₁.extBut D.l2z).extBut hs₂.extBut D.l2i1).extBut hs₃.extBut D.l2TO) hy fun h₄ e hs₄ he=>?_)
  obtain⟨oe,hoe,hce⟩:=he
  have hz₄:IsZip h₄ z TI TO .ellipsis:=hs₄ _ _ D.i2z.symm (hs₃.extBut _ _ D.TOz.symm (hs₂.extBut _ _ D.i1z.symm hz₁))
  have hez:e≠z:=fun x=>by subst x;rw[hz₄]at hoe;cases hoe;simp at hce
  refine wpAny_setField_rec hz₄ (by simp) fun h₅ _ hs₅=>hE h₅ e (fun c o c1 c2 c3 c4 x=>hs₅.extBut _ _ c1 (hs₄ _ _ c4 (hs₃.extBut _ _ c2 (hs₂.extBut _ _ c3 (hs₁.extBut _ _ c1 x))))) ⟨oe,hs₅.extBut _ _ hez hoe,hce⟩
theorem KH  {z TI TO i1 i2 l1 l2:Addr}     (D:ZipApart z TI TO i1 i2 l1 l2)
  (hz:IsZip s.heap z TI TO .none) (hTI:IsPair s.heap TI (.ref i1) (.ref i2)) (hTO:IsPair s.heap TO a b)
  (h1:EG t1 s.heap i1 l1 k1) (h2:EG t2 s.heap i2 l2 k2) (hl1:GX t1 s.heap l1 xs) (hl2:GX t2 s.heap l2 ys) (hx:xs[k1]?=some x) (hy:ys[k2]?=some y)
  (hQ:∀h',IsZip h' z TI TO (rawInt s.heap.objs.size)->IsPair h' TO x y->EG t1 h' i1 l1 (k1+1)->EG t2 h' i2 l2 (k2+1)->IsPair h' s.heap.objs.size x y->h'.objs.size=s.heap.objs.size+1 ->
   (∀c o,c≠z->c≠TO->c≠i1->c≠i2->s.heap.get? c=some o->h'.get? c=some o)->Q (some (.ref s.heap.objs.size)) {s with heap:=h' }):
  wpAny (model prog w) A (pyNext (.ref z)) Q E s:=by
 have hT:s.TypeIs (.ref z) "zip" := ⟨_,hz,rfl⟩
 unfold pyNext
 exact wpAny_bind (wpAny_attempt (wpAny_callSpecial?_slot (name:=Str.ofString "__next__") hT PySem.F.slot_zip_next
  (wpAny_call_entry PySem.F.slot_zip_next hT PySem.F.entry_zip_next
   (U6 D hz hTI hTO h1 h2 hl1 hl2 hx hy fun h' a1 a2 a3 a4 a5 a6 a7=>wpAny_pure (hQ h' a1 a2 a3 a4 a5 a6 a7)) (PySem.F.args_zip_next_1 _))))
theorem Lr  {z TI TO i1 i2 l1 l2:Addr}     (hh:A.handled=none)(D:ZipApart z TI TO i1 i2 l1 l2)
  (hz:IsZip s.heap z TI TO .none) (hTI:IsPair s.heap TI (.ref i1) (.ref i2)) (hTO:IsPair s.heap TO a b)
  (h1:EG t1 s.heap i1 l1 k1) (h2:EG t2 s.heap i2 l2 k2) (hl1:GX t1 s.heap l1 xs) (hl2:GX t2 s.heap l2 ys) (hend:xs[k1]?=none\/ys[k2]?=none)
  (hQ:∀h',(∀c o,c≠z->c≠TO->c≠i1->c≠i2->s.heap.get? c=some o->h'.get? c=some o)->Q none {s with heap:=h' }):wpAny (model prog w) A (pyNext (.ref z)) Q E s:=by
 have hT:s.TypeIs (.ref z) "zip" := ⟨_,hz,rfl⟩
 unfold pyNext
 refine wpAny_bind (wpAny_attempt (wpAny_callSpecial?_slot (name:=Str.ofString "__next__") hT PySem.F.slot_zip_next
  (wpAny_call_entry PySem.F.slot_zip_next hT PySem.F.entry_zip_next (WJ hh D hz hTI hTO h1 h2 hl1 hl2 hend fun h' e hk he=>?_) (PySem.F.args_zip_next_1 _))))
 obtain⟨o,ho,hc⟩:=he
 refine wpAny_bind (wpAny_isInstance (T := "StopIteration") (b:=true) ⟨o,ho,hc⟩ isSubtype_stop ?_)
 exact wpAny_pure (hQ _ hk)
end
abbrev Gn_ (t1 t2:Bool)(h:Heap)(l1:Addr):Heap:=h.push {cls:=Fa_ t1,data:=.fields #[.ref l1,.int 0 0]}
abbrev Go_ (t1 t2:Bool)(h:Heap)(l1 l2:Addr):Heap:=(Gn_ t1 t2 h l1).push {cls:=Fa_ t2,data:=.fields #[.ref l2,.int 0 0]}
abbrev Gp_ (t1 t2:Bool)(h:Heap)(l1 l2:Addr):Heap:=(Go_ t1 t2 h l1 l2).push {cls:=.type "tuple",data:=.seq #[.ref h.objs.size,.ref (Gn_ t1 t2 h l1).objs.size]}
abbrev Gq_ (t1 t2:Bool)(h:Heap)(l1 l2:Addr):Heap:=(Gp_ t1 t2 h l1 l2).push {cls:=.type "tuple",data:=.seq #[.none,.none]}
abbrev AX_ (t1 t2:Bool)(h:Heap)(l1 l2:Addr):Heap:=(Gq_ t1 t2 h l1 l2).push {cls:=.type "zip",data:=.fields #[.none,.bool false,.bool false,.ref (Go_ t1 t2 h l1 l2).objs.size,.ref (Gp_ t1 t2 h l1 l2).objs.size]}
theorem U7 (t1 t2:Bool)(l1 l2:Addr)(xs ys:Array Value):
  Meets (Builtin.«zip.__new__» ⟨[.type "zip",.ref l1,.ref l2],[]⟩) (fun _ R s=>GX t1 s.heap l1 xs/\GX t2 s.heap l2 ys /\
   R (.ok (.ret (.ref (Gq_ t1 t2 s.heap l1 l2).objs.size))) {s with heap:=AX_ t1 t2 s.heap l1 l2}):=
 .of_wp fun prog w A R s h=>by
  obtain⟨hp,g,d,tk,os⟩:=s;obtain⟨hl1,hl2,h⟩:=h
  have hsub:=sub_zip
  have hL1:GX t1 (Shared.heap ⟨hp,g,d,tk,os⟩) l1 xs:=hl1
  have hL2:GX t2 (Shared.heap ⟨hp.push {cls:=Fa_ t1,data:=.fields #[.ref l1,.int 0 0]},g,d,tk,os⟩) l2 ys:=GX.push hl2 _
  wp_walk using Ku hL1,Ku hL2
  exact⟨_,rfl,h⟩
section
variable {prog:Program} {w:World} {A:Around} {E:Value->Shared->Prop} {s:Shared}
theorem AY_     (hl1:GX t1 s.heap l1 xs)(hl2:GX t2 s.heap l2 ys)
  (h:∀h',IsZip h' (s.heap.objs.size+4) (s.heap.objs.size+2) (s.heap.objs.size+3) .none->IsPair h' (s.heap.objs.size+2) (.ref s.heap.objs.size) (.ref (s.heap.objs.size+1)) ->
   IsPair h' (s.heap.objs.size+3) .none .none->EG t1 h' s.heap.objs.size l1 0->EG t2 h' (s.heap.objs.size+1) l2 0->h'.objs.size=s.heap.objs.size+5 ->
   (∀c o,s.heap.get? c=some o->h'.get? c=some o)->Q (.ref (s.heap.objs.size+4)) {s with heap:=h' }):
  wpAny (model prog w) A (call (.type "zip") [.ref l1,.ref l2]) Q E s:=by
 refine callType_new PySem.F.called_zip (by decide) (PySem.F.typeCall_zip_2 _ _) (PySem.F.newCall_zip_2 _ _) (fun obj=>PySem.F.args_object_init_3 obj _ _) PySem.F.entry_zip_new
  (U7 t1 t2 l1 l2 xs ys) ⟨hl1,hl2,?_⟩
 have z1:(Gn_ t1 t2 s.heap l1).objs.size=s.heap.objs.size+1:=Heap.size_push ..
 have z2:(Go_ t1 t2 s.heap l1 l2).objs.size=s.heap.objs.size+2:=by rw[Heap.size_push,z1]
 have z3:(Gp_ t1 t2 s.heap l1 l2).objs.size=s.heap.objs.size+3:=by rw[Heap.size_push,z2]
 have z4:(Gq_ t1 t2 s.heap l1 l2).objs.size=s.heap.objs.size+4:=by rw[Heap.size_push,z3]
 have z5:(AX_ t1 t2 s.heap l1 l2).objs.size=s.heap.objs.size+5:=by rw[Heap.size_push,z4]
 have g5:(AX_ t1 t2 s.heap l1 l2).get? (Gq_ t1 t2 s.heap l1 l2).objs.size=some _:=Heap.get?_push_size _ rfl
 have g4:(AX_ t1 t2 s.heap l1 l2).get? (Gp_ t1 t2 s.heap l1 l2).objs.size=some _:=Heap.get?_push_of_some _ (Heap.get?_push_size _ rfl)
 have g3:(AX_ t1 t2 s.heap l1 l2).get? (Go_ t1 t2 s.heap l1 l2).objs.size=some _:=Heap.get?_push_of_some _ (Heap.get?_push_of_some _ (Heap.get?_push_size _ rfl))
 have g2:(AX_ t1 t2 s.heap l1 l2).get? (Gn_ t1 t2 s.heap l1).objs.size=some _:=Heap.get?_push_of_some _ (Heap.get?_push_of_some _ (Heap.get?_push_of_some _ (Heap.get?_push_size _ rfl)))
 have g1:(AX_ t1 t2 s.heap l1 l2).get? s.heap.objs.size=some _:=Heap.get?_push_of_some _ (Heap.get?_push_of_some _ (Heap.get?_push_of_some _ (Heap.get?_push_of_some _ (Heap.get?_push_size _ rfl))))
 show _/\_
 rw[z2,z3,z4]at g5
 rw[z1,z2]at g3
 rw[z3]at g4
 rw[z1]at g2
 rw[z4]
 exact⟨⟨_,g5,rfl⟩,h _ g5 g3 g4 (EG.mk g1) (EG.mk g2) z5 fun c o x=>
  Heap.get?_push_of_some _ (Heap.get?_push_of_some _ (Heap.get?_push_of_some _ (Heap.get?_push_of_some _ (Heap.get?_push_of_some _ x))))⟩
end
end PySem
namespace L2
open PySem PySem.Spec PyProof.Rows GW
def SqB (K:PySem.W.Frag)(H:Hp)(t:Bool)(a:Addr)(xs:List V):Prop:=match t with|false=>SqL K H a xs|true=>SqT K H a xs
theorem Inv.seqB         (I:Inv X pins σ H s)(h:SqB X.K H t a xs):∃its:List Value,Vals xs its/\GX t s.heap a its.toArray:=by
 cases t
 ·obtain⟨its,r,p,_⟩:=I.list h
  exact⟨its,r,p.isList⟩
 ·obtain⟨its,r,p,_⟩:=I.tuple h
  exact⟨its,r,p⟩
def Itz2 (K:PySem.W.Frag)(t1 t2:Bool)(a b:Addr)(xs ys:List V):It:=⟨fun i H=>i<xs.length/\i<ys.length/\SqB K H t1 a xs/\SqB K H t2 b ys,fun i H x H'=>∃t u v,H t=none/\xs[i]?=some u/\ys[i]?=some v/\x=.ref t/\H'=upd H t (.tup [u,v]),fun i H=>(xs.length<=i\/ys.length<=i)/\SqB K H t1 a xs/\SqB K H t2 b ys⟩
theorem Fb_ {P:Program}{w:World}{K:PySem.W.Frag}{elts:List Expr}{x1}{tpos:Pos}{t1 t2:Bool}{a b z TI TO i1 i2:Addr}(D:ZipApart z TI TO i1 i2 a b)(xs ys:List V):Turn P w K (.Tuple elts x1 tpos) (Itz2 K t1 t2 a b xs ys) [z,TI,TO,i1,i2] z
  (fun i h=>IsZip h z TI TO .none/\IsPair h TI (.ref i1) (.ref i2)/\(∃c d,IsPair h TO c d)/\EG t1 h i1 a i/\EG t2 h i2 b i) where
 mem:=by simp
 obj:=fun i h st c hc=>by
  obtain⟨h1,h2,⟨u,v,h3⟩,h4',h5'⟩:=st
  obtain⟨o4,h4,d4⟩:=h4'.ob
  obtain⟨o5,h5,d5⟩:=h5'.ob
  simp only[List.mem_cons,List.not_mem_nil,or_false]at hc
  rcases hc with rfl|rfl|rfl|rfl|rfl
  ·exact⟨_,h1,fun v z=>by cases z⟩
  ·exact⟨_,h2,fun v z=>by cases z⟩
  ·exact⟨_,h3,fun v z=>by cases z⟩
  ·exact⟨o4,h4,fun v z=>by rw[d4]at z;cases z⟩
  ·exact⟨o5,h5,fun v z=>by rw[d5]at z;cases z⟩
 keep:=fun i h h' st k=>by
  obtain⟨h1,h2,⟨u,v,h3⟩,h4,h5⟩:=st
  exact⟨k z (by simp) _ h1,k TI (by simp) _ h2,⟨u,v,k TO (by simp) _ h3⟩,h4.at fun o q=>k i1 (by simp) o q,h5.at fun o q=>k i2 (by simp) o q⟩
 item:=by
  intro X hP hw hK hc i pins s σ H E I hf st hg
  subst hP hw hK
  obtain⟨hi,hj,hq,hq2⟩:=hg
  obtain⟨hz,hTI,⟨c,d,hTO⟩,h1,h2⟩:=st
  obtain⟨its,rv,p⟩:=I.seqB hq
  obtain⟨its2,rv2,p2⟩:=I.seqB hq2
  obtain⟨u,hu,ru⟩:=rv.get (i:=i) (x:=xs[i]) (by simp[hi])
  obtain⟨v,hv,rv'⟩:=rv2.get (i:=i) (x:=ys[i]) (by simp[hj])
  refine KH D hz hTI hTO h1 h2 p p2 (x:=u) (y:=v) (by simpa using hu) (by simpa using hv) fun h' g1 g2 g3 g4 g5 gs gk=>?_
  have hTz:s.heap.objs.size≠z:=Nat.ne_of_gt (Heap.lt_size hz)
  refine⟨_,rfl,wpAny_letOwnedTupleGo_zip g1 fun h2' e1 hs2=>?_⟩
  have hk2:∀b o,b ∉ [z,TI,TO,i1,i2]->s.heap.get? b=some o->h2'.get? b=some o:=fun b o hb q=>by
   simp only[List.mem_cons,List.not_mem_nil,or_false,not_or]at hb
   exact (hs2.2 b hb.1).trans (gk b o hb.1 hb.2.2.1 hb.2.2.2.1 hb.2.2.2.2 q)
  obtain⟨un,hok⟩:=I.unL hk2 hf
  have hn:H s.heap.objs.size=none:=I.hok.fresh (Nat.le_refl _)
  have new:C4 X.prog X.w (upd H s.heap.objs.size (.tup [xs[i],ys[i]])) h2' s.heap.objs.size (.tup [xs[i],ys[i]]):=⟨by have:=Ao;simp;omega,[u,v],.cons ru (.cons rv' .nil),_,(hs2.2 _ hTz).trans g5,rfl,_,rfl⟩
  refine⟨.ref s.heap.objs.size,upd H s.heap.objs.size (.tup [xs[i],ys[i]]),I.call' (s':={s with heap:=h2' }) (ch:=[z,TI,TO,i1,i2]) rfl (un.track (Nat.le_refl _) hn) (hok.track hn new) I.bare (fun b hb=>?_),rfl,⟨_,_,_,hn,by simp[hi],by simp[hj],rfl,rfl⟩,?_,fun b hb=>?_⟩
  ·exact (hf b hb).ch
  ·refine⟨e1,(hs2.2 TI D.TIz).trans (gk TI _ D.TIz D.TITO D.TIi1 D.TIi2 hTI),⟨u,v,(hs2.2 TO D.TOz).trans g2⟩,g3.at fun o q=>(hs2.2 i1 D.i1z).trans q,g4.at fun o q=>(hs2.2 i2 D.i2z).trans q⟩
  ·have hb':=hf b hb
   have:∃o,s.heap.get? b=some o:=by
    simp only[List.mem_cons,List.not_mem_nil,or_false]at hb
    rcases hb with rfl|rfl|rfl|rfl|rfl
    ·exact⟨_,hz⟩
    ·exact⟨_,hTI⟩
    ·exact⟨_,hTO⟩
    ·obtain⟨o,ho,_⟩:=h1.ob;exact⟨o,ho⟩
    ·obtain⟨o,ho,_⟩:=h2.ob;exact⟨o,ho⟩
   obtain⟨o,ho⟩:=this
   rw[Ah (Nat.ne_of_lt (Heap.lt_size ho))]
   exact hb'.1
 done:=by
  intro X hP hw hK hc i pins s σ H E I hf st hg
  subst hP hw hK
  obtain⟨hi,hq,hq2⟩:=hg
  obtain⟨hz,hTI,⟨c,d,hTO⟩,h1,h2⟩:=st
  obtain⟨its,rv,p⟩:=I.seqB hq
  obtain⟨its2,rv2,p2⟩:=I.seqB hq2
  have l1:=rv.length
  have l2:=rv2.length
  refine Lr (I.ok.hd hc) D hz hTI hTO h1 h2 p p2 (by simp;omega) fun h' gk=>⟨rfl,?_⟩
  obtain⟨un,hok⟩:=I.unL (h':=h') (fun b o hb q=>by
   simp only[List.mem_cons,List.not_mem_nil,or_false,not_or]at hb
   exact gk b o hb.1 hb.2.2.1 hb.2.2.2.1 hb.2.2.2.2 q) hf
  exact I.call' (s':={s with heap:=h' }) (ch:=[z,TI,TO,i1,i2]) rfl un hok I.bare fun b hb=>(hf b hb).ch
 self:=fun A i s Q E st h=>wpAny_pyIter_zip st.1 h
def Kd_ (K:PySem.W.Frag)(ta:TA):TI:=fun σ H R=>ta σ H fun vs H1=>∃a b xs ys t1 t2,vs=[.ref a,.ref b]/\SqB K H1 t1 a xs/\SqB K H1 t2 b ys/\R (Itz2 K t1 t2 a b xs ys) H1
theorem Fc_ {K:PySem.W.Frag}     : Kd_ K ta σ H Z=ta σ H fun vs H1=>∃a b xs ys t1 t2,vs=[.ref a,.ref b]/\SqB K H1 t1 a xs/\SqB K H1 t2 b ys/\Z (Itz2 K t1 t2 a b xs ys) H1:=rfl
theorem IA_   {x1}     (hg:Gl X "zip")(hm:X.mg "zip"=none)(ha:PA X [e,f] ta)(hs:starEach [e,f] X.env=[(false,eval e X.env),(false,eval f X.env)]:=by rfl)(hs2:starEach [f] X.env=[(false,eval f X.env)]:=by rfl):PI X (.Tuple elts x1 tpos) (.Call (.Name "zip" p) [e,f] [] pos) (Kd_ X.K ta):=by
 intro pins s σ H R I h
 refine Call_ (SM I hg hm boot_zip (PyProof.Rows.callWith_type1 (thn (ha pos pins s σ H _ I h) fun us s1 ⟨vs,H1,I1,r1,q1⟩=>?_) (by rw[hs,hs2]) (by rw[hs2];rfl)))
 obtain⟨a,b,xs,ys,t1,t2,ev,hq,hq2,q⟩:=q1
 subst ev
 cases r1 with
 |cons r rr=>cases rr with
  |cons r' rr=>
   cases rr
   cases r
   cases r'
   obtain⟨its,rv,pl⟩:=I1.seqB hq
   obtain⟨its2,rv2,pl2⟩:=I1.seqB hq2
   refine AY_ pl pl2 fun h' hz hTI hTO hi1 hi2 hsz hk=>?_
   refine wpAny_pyIter_zip (s:={s1 with heap:=h' }) hz ?_
   have I2:Inv X pins σ H1 {s1 with heap:=h' }:=I1.kept (t':=s1.toks) hk
   refine⟨_,_,_,_,H1,rfl,I2,Fb_ (zipApart_new pl.lt pl2.lt) xs ys,⟨hz,hTI,⟨_,_,hTO⟩,hi1,hi2⟩,fun c hc=>?_,q⟩
   have hle:s1.heap.objs.size<=c:=by
    simp only[List.mem_cons,List.not_mem_nil,or_false]at hc
    rcases hc with rfl|rfl|rfl|rfl|rfl
    ·exact Nat.le_add_right _ 4
    ·exact Nat.le_add_right _ 2
    ·exact Nat.le_add_right _ 3
    ·exact Nat.le_refl _
    ·exact Nat.le_add_right _ 1
   exact I1.fpOk hle (I1.hok.fresh hle)
theorem Ke_ {K:PySem.W.Frag}           (n:Nat)(hn1:n<=xs.length)(hn2:n<=ys.length)(hn3:xs.length=n\/ys.length=n)(Pv:Nat->List V->St->Hp->Prop)(h0:Pv 0 [] (cp.st σ) H)(hz:n<sizeLine)
  (hl:∀i zs σ H,i<=n->Pv i zs σ H->SqB K H t1 a xs/\SqB K H t2 b ys/\zs.length<=i)
  (hs:∀i u v zs σ H t,i<n->xs[i]?=some u->ys[i]?=some v->Pv i zs σ H->H t=none->g (.ref t) σ (upd H t (.tup [u,v])) fun σ2 H2=>tc σ2 H2 fun b H3=>if b=true then te σ2 H3 fun v H4=>Pv (i+1) (zs++[v]) σ2 H4 else Pv (i+1) zs σ2 H3)
  (hd:∀zs σ H,Pv n zs σ H->∀D,H D=none->Q (.ref D) (upd H D (.lst zs))):De_ (Itz2 K t1 t2 a b xs ys) cp g tc te σ H Q:=by
 refine⟨fun i m zs σ H=>m=n-i/\i<=n/\Pv i zs σ H,⟨n,by simp,Nat.zero_le _,h0⟩,?_⟩
 rintro i m zs σ H ⟨rfl,hi,p⟩
 obtain⟨q1,q2,ly⟩:=hl i zs σ H hi p
 refine⟨by omega,?_⟩
 by_cases hlt:i<n
 ·refine .inr ⟨⟨by omega,by omega,q1,q2⟩,Pv (i+1),fun zs' σ' H' p'=>⟨n-(i+1),by omega,rfl,hlt,p'⟩,fun x H' y=>?_⟩
  obtain⟨t,u,v,e1,e2,e3,rfl,rfl⟩:=y
  exact hs i u v zs σ H t hlt e2 e3 p e1
 ·have e:i=n:=by omega
  subst e
  exact .inl ⟨⟨by omega,q1,q2⟩,hd zs σ H p⟩
end L2
namespace Nest
def sl (row:List Int)(b i:Nat):List Int:=(row.take i).drop b
def outF (p e:Int)(s:List Int×Int)(x:Int):List Int×Int:=if x=e then (s.1,s.2-1) else (if s.2=0 then s.1++[x] else s.1,if p<=x then s.2+1 else s.2)
def outS (p e:Int)(l:List Int):List Int×Int:=l.foldl (outF p e) ([],0)
def outW (p e:Int)(l:List Int):List Int:=(outS p e l).1
def wd (p e:Int)(row:List Int)(i a:Nat):List Int:=outW p e (sl row (a+1) i)
end Nest
namespace L2
open PySem PySem.Spec PyProof.Rows GW
theorem IB_  {K:PySem.W.Frag}      (hK:X.K=K)(hc:X.calm=true)(h:PGs X es t)
  (hn:(assignEach es X.env).length=n:=by rfl) (hst:(assignEach es X.env).findIdx? (·.1)=none:=by rfl):PG X (.Tuple es k pos) (gTup K n t):=by
 subst hK
 exact DT_ hc h hn hst
end L2
namespace HT
open PySem PySem.Spec PyProof.Rows L2
section
variable {prog:Program} {w:World} {A:Around} {E:Value->Shared->Prop} {s:Shared}
theorem getItem_tuple_whole {t sl:Addr}   {lo hi:Option Int}  (ht:IsTup s.heap t items)(hs:s.heap.IsSliceOf sl vl vu .none)(pl:IsPart vl lo)(pu:IsPart vu hi)
  (hw:sIx items.size 0 lo=0/\sIx items.size items.size hi=items.size) (h:Q (.ref t) s):wpAny (model prog w) A (getItem (.ref t) (.ref sl)) Q E s:=by
 obtain⟨os,hos,hcs,hds⟩:=id hs
 have hTs:s.TypeIs (.ref sl) "slice" := ⟨os,hos,hcs⟩
 unfold getItem
 try with_reducible refine wpAny_holding ?_
 first|refine wpAny_bind (wpAny_pure ?_)|skip
 refine wpAny_bind (wpAny_sequenceKey ht.typeIs (by decide) ?_)
 refine wpAny_bind (wpAny_callSpecial?_slot (name:=Str.ofString "__getitem__") ht.typeIs PyProof.Rows.slot_tuple_getitem
  (wpAny_call_entry PyProof.Rows.slot_tuple_getitem ht.typeIs entry_tuple_getitem ?_ (args_tuple_getitem _ _)))
 show wpAny _ _ (Builtin.Tuple.tupleItemsOf (.ref t) >>= _) _ _ s
 refine wpAny_bind (tupleItemsOf_ ht ?_)
 refine wpAny_bind (wpAny_typeOf hTs ?_)
 rw[if_pos (by decide)]
 refine wpAny_bind (Kp hs pl pu ?_)
 rw[hw.1,hw.2]
 show wpAny _ _ (if ((((0:Nat):Int)==0&&(1:Int)==1&&(items.size-0)==items.size)=true) then _ else _) _ _ s
 rw[if_pos (by simp)]
 refine wpAny_bind ?_
 unfold Builtin.Tuple.tupleIsExact
 refine wpAny_bind (wpAny_typeOf ht.typeIs (wpAny_pure ?_))
 rw[if_pos (by decide)]
 refine wpAny_bind (wpAny_rule ?_)
 exact wpAny_pure ⟨_,rfl,wpAny_pure h⟩
end
end HT
namespace L2
open PySem PySem.Spec PyProof.Rows
theorem YZ  {K:PySem.W.Frag}(h:X.K=K):OpR X (binaryOp .Add) (Kq K):=by subst h;exact J4
end L2
set_option maxHeartbeats 1000000
set_option maxHeartbeats 4000000
namespace L2
section
variable {α:Type} [DecidableEq α]
def ins1 (acc:List α)(x:α):List α:=if x∈acc then acc else acc++[x]
def IC_ (acc row:List α):List α:=row.foldl ins1 acc
def Fd_ (row:List α):List α:=IC_ [] row
def num (row:List α):List Int:=row.map fun x=>((Fd_ row).idxOf x:Int)
def ncl (row:List α):Nat:=(Fd_ row).length
end
def rowB (n:Nat)(b:List Int->Nat->Int)(w:List Int):List Int:=(List.range n).map (b w)
abbrev StC:=List (List Int)×List Int
def KL_ (n:Nat)(b:List Int->Nat->Int)(w:List Int)(st:StC)(x:Nat):StC:=if ncl st.2<ncl (st.2.zip (rowB n b ((x:Int)::w))) then (st.1++[(x:Int)::w],num (st.2.zip (rowB n b ((x:Int)::w)))) else st
def Kf_ (n:Nat)(b:List Int->Nat->Int)(w:List Int)(L:Nat)(st:StC):StC:=(List.range L).foldl (KL_ n b w) st
def HE_ (n:Nat)(b:List Int->Nat->Int)(L:Nat):Nat->Nat->StC->StC
 |0,_,st=>st
 |f+1,k,st=>if k<st.1.length then HE_ n b L f (k+1) (Kf_ n b (st.1.getD k []) L st) else st
section
variable {n L:Nat} {b:List Int->Nat->Int} {w:List Int} {st:StC}
def wcOf (n L:Nat)(b:List Int->Nat->Int):StC:=HE_ n b L 41 0 ([[]],num (rowB n b []))
end
end L2
namespace L2
open GW GB
def bW (marks:List Int)(ways:List (List Int))(w:List Int)(r:Nat):Int:=marks.getD (KJ_ ways (r:Int) w).toNat 0
def cf (c:List Int)(r:Int):Int:=c.getD r.toNat 0
def hm (c R:List Int)(r:Int):Int:=(((Fd_ (R.map (cf c))).idxOf (cf c r):Nat):Int)
def Kg_ (c acc:List Int)(r:Int):List Int:=if cf c r∈acc.map (cf c) then acc else acc++[r]
def FR (c R:List Int):List Int:=R.foldl (Kg_ c) []
def cOf (L:Nat)(marks:List Int)(ways:List (List Int)):List Int:=(wcOf marks.length L (bW marks ways)).2
def rOf (ways:List (List Int)):List Int:=(EL_ ways).map (·.1)
def sF (L:Nat)(marks:List Int)(ways:List (List Int)):List Int:=FR (cOf L marks ways) (rOf ways)
def hO (L:Nat)(marks:List Int)(ways:List (List Int))(r:Int):Int:=hm (cOf L marks ways) (rOf ways) r
section
variable {L:Nat} {marks:List Int} {ways:List (List Int)}
def wi (ways:List (List Int))(r:Int):List Int:=(((EL_ ways).find? fun e=>decide (e.1=r)).map (·.2)).getD []
end
end L2
set_option maxHeartbeats 1000000
set_option maxHeartbeats 4000000
namespace L2
open PySem PySem.Spec PyProof.Rows
theorem Hn  : NT X (.type "tuple") (fun xs H Q=>∃p ys,xs=[.ref p]/\((SqL X.K H p ys/\∀l,H l=none->Q (.ref l) (upd H l (.tup ys)))\/False)):=fun pins s σ H xs us Q I r h=>by
 obtain⟨p,ys,e,h|h⟩:=h
 ·exact Wx pins s σ H xs us Q I r ⟨p,ys,e,.inl h⟩
 ·exact h.elim
theorem len1 {α:Type}{us:List α}(h:us.length=1):∃a,us=[a]:=by match us,h with|[a],_=>exact⟨a,rfl⟩
theorem len2 {α:Type}{us:List α}(h:us.length=2):∃a b,us=[a,b]:=by match us,h with|[a,b],_=>exact⟨a,b,rfl⟩
theorem len3 {α:Type}{us:List α}(h:us.length=3):∃a b c,us=[a,b,c]:=by match us,h with|[a,b,c],_=>exact⟨a,b,c,rfl⟩
theorem len4 {α:Type}{us:List α}(h:us.length=4):∃a b c d,us=[a,b,c,d]:=by match us,h with|[a,b,c,d],_=>exact⟨a,b,c,d,rfl⟩
theorem len6 {α:Type}{us:List α}(h:us.length=6):∃a b c d e f,us=[a,b,c,d,e,f]:=by match us,h with|[a,b,c,d,e,f],_=>exact⟨a,b,c,d,e,f,rfl⟩
end L2
set_option maxHeartbeats 1000000
set_option maxHeartbeats 4000000
namespace L2
open PySem PySem.W PySem.Spec PySem.Calls PyProof.Rows
structure CMeth (K:PySem.W.Frag)(C:Addr)(m:Str)(f:Addr):Prop where
 sg:PySem.W.specialIn K (.ref C) "__getattribute__"=some (some (.builtin "type.__getattribute__"))
 rd:PySem.W.readsIn K C (.type "type")=true
 fc:PySem.W.findCls K (.ref C) (.type "type") m=some (.val (.ref f))
 kp:PySem.W.keepIn K (.ref f)=true
section
variable {X:Cx} {CX:CXT} {k:Nat} {f C:Addr} {fd:FuncData} {ps:List Str} {sp:Sp} {dvs:List V} {ds:List Value} {E:XK} {x m:Str} {np apos pos:Pos} {e:Expr} {es:List Expr} {t:TA}
theorem Kh_  (hg:Gl X x)(hmx:X.mg x=some (.ref C))(hm:CMeth X.K C m f)(F:FnOk X.prog X.w X.K X.mg X.base CX k f fd ps sp)(hr:Room k X.A)(hb:Binds X.K fd ps ds)(hd:Vals dvs ds)(hx:Lk CX X E)(ha:PA X (e::es) t)
  (hdb:(x==("__debug__" : Str))=false:=by decide) (hst:starEach (e::es) X.env=(false,eval e X.env)::starEach es X.env:=by rfl) (hpl:(backTo pos (starEach es X.env)).any (·.1)=false:=by rfl)
  (ht:eval (.Call (.Attribute (.Name x np) m apos) (e::es) [] pos) X.env=(do
   let ov <- eval (.Name x np) X.env
   standAt apos.atName
   let (f,first) <- holding [ov] (getMethod ov m pl)
   callWith pos f first (backTo pos (starEach (e::es) X.env)) (backToKw pos (keywordEach [] X.env))):=by rfl):
  PE X (.Call (.Attribute (.Name x np) m apos) (e::es) [] pos) (Il_ sp dvs E t):=by
 intro pins s σ H Q I h
 refine PySem.W.methodCall_KW (pl:=pl) (PY I hg hmx ?_ hdb) ht
 refine PySem.W.method_cls I.kIn hm.sg (PySem.W.cls_value I.kIn hm.rd hm.fc rfl ?_)
 refine PySem.W.callWith_K (first:=[]) (h₀:=X.base) I.ok.mod.kin hm.kp (thn (ha pos pins _ σ H _ (I.tok _) h) fun us s2 ⟨vs,H2,I2,r,q2⟩=>⟨I2.kIn,?_⟩) hst hpl
 exact YK F hr hb hd hx I2 r q2
end
end L2
namespace L2
open PySem PySem.W PySem.Spec PySem.Calls PyProof.Rows
theorem Fe_                (he:PE X o ta)(c:Cls X.K C)(hm:Meth X.K C m f)(F:FnOk X.prog X.w X.K X.mg X.base CX k f fd ps sp)(hr:Room k X.A)(hb:Binds X.K fd ps ds)(hd:Vals dvs ds)(hx:∀σ,Sy CX X σ (E σ))
  (ht:eval (.Call (.Attribute o m apos) [] [] pos) X.env=(do
   let ov <- eval o X.env
   standAt apos.atName
   let (f,first) <- holding [ov] (getMethod ov m pl)
   callWith pos f first (backTo pos (starEach [] X.env)) (backToKw pos (keywordEach [] X.env))):=by rfl):
  PE X (.Call (.Attribute o m apos) [] [] pos) (EW_ C m sp dvs E ta tNil):=by
 intro pins s σ H Q I h
 refine PySem.W.methodCall_KW (pl:=pl) (thn (he pins s σ H _ I h) fun u s1 ⟨x,H1,I1,rx,a,dx,fs,ex,ea,l,q⟩=>?_) ht
 subst ex
 obtain rfl:u=Value.ref a:=rx
 refine M0 I1 ea c hm l ?_
 exact PySem.W.callWith_K0 (first:=[.ref a]) I1.kIn hm.kp (EF_ (us:=[.ref a]) (vs:=[.ref a]) F hr hb hd (hx σ) I1 (.cons rfl .nil) q)
end L2
namespace L2
open PySem PySem.W PySem.Spec PySem.Calls PyProof.Rows
def vD:Option (Option V)->(V->Prop)->Prop
 |some (some v),q=>q v
 |_,_=>False
theorem Ff_   : vD (some (some v)) q=q v:=rfl
theorem KM_   (h:vD o q):∃v,o=some (some v)/\q v:=by
 match o,h with
 |some (some v),h=>exact⟨v,rfl,h⟩
def Ki_ (i:Nat):TE:=fun σ H Q=>vD σ[i]? fun v=>Q v H
theorem HF_     : Ki_ i σ H Q=vD σ[i]? fun v=>Q v H:=rfl
theorem pvD  (i:Nat)   (hN:X.N[i]?=some x:=by rfl)(hv:Vis X.env.scope x:=by first|exact Or.inl rfl|exact Or.inr (Or.inl rfl)|exact Or.inr (Or.inr rfl))(hd:(x==("__debug__" : Str))=false:=by decide)
  (hcd:(x==("__classdict__" : Str))=false:=by decide):PE X (.Name x pos) (Ki_ i):=fun pins s σ H Q I h=>pv i hN hv hd hcd pins s σ H Q I (KM_ h)
def iD:V->V->(Int->Int->Prop)->Prop
 |.int i,.int j,q=>q i j
 |x,y,q=>∃i j,x=.int i/\y=.int j/\q i j
theorem HG_   : iD (.int i) (.int j) q=q i j:=rfl
theorem ID_   : iD x y q=∃i j,x=.int i/\y=.int j/\q i j:=by
 cases x<;>cases y<;>first|rfl|(simp[iD])
def rID (C:Int->Int->Prop)(g:Int->Int->V):R2:=fun x y H Q=>iD x y fun i j=>C i j/\Q (g i j) H
def rI0D (g:Int->Int->V):R2:=fun x y H Q=>iD x y fun i j=>Q (g i j) H
theorem r_ID      : rID C f x y H Q=iD x y fun i j=>C i j/\Q (f i j) H:=rfl
theorem Kj_     : rI0D f x y H Q=iD x y fun i j=>Q (f i j) H:=rfl
theorem Kk_   : rID C g=rI C g:=by
 funext x y H Q;exact ID_
theorem IE_  : rI0D g=rI0 g:=by
 funext x y H Q;exact ID_
theorem opD     (h:OpR X f (rI C g)):OpR X f (rID C g):=by rw[Kk_];exact h
theorem opD0    (h:OpR X f (rI0 g)):OpR X f (rI0D g):=by rw[IE_];exact h
def bD:V->(Bool->Prop)->Prop
 |.bl c,q=>q c
 |x,q=>∃c,x=.bl c/\q c
theorem Kl_   : bD (.bl c) q=q c:=rfl
theorem Km_   : bD x q=∃c,x=.bl c/\q c:=by
 cases x<;>first|rfl|(simp[bD])
def tBD (t:TE):TT:=fun σ H Q=>t σ H fun x H1=>bD x fun c=>Q c H1
theorem r_BD     : tBD te σ H R=te σ H fun x H1=>bD x fun c=>R c H1:=rfl
theorem HH_  : tBD t=tB t:=by
 funext σ H Q
 show t σ H _=t σ H _
 congr 1
 funext x H1;exact Km_
theorem IF_  : tBD t=FQ_ t:=HH_
theorem ptB    (h:PT X e (tB t)):PT X e (tBD t):=by rw[HH_];exact h
theorem ptT    (h:PT X e (FQ_ t)):PT X e (tBD t):=by rw[IF_];exact h
def eD:V->V->Prop->Prop
 |.int _,.int _,q=>q
 |.str _,.str _,q=>q
 |.non,.non,q=>q
 |.bl _,.bl _,q=>q
 |x,y,q=>scal x y=true/\q
theorem HI_   : eD (.int i) (.int j) q=q:=rfl
theorem HJ_   : eD (.str i) (.str j) q=q:=rfl
theorem HK_  : eD .non .non q=q:=rfl
theorem Kn_   : eD (.bl i) (.bl j) q=q:=rfl
theorem IG_   : eD x y q=(scal x y=true/\q):=by
 cases x<;>cases y<;>first|rfl|(simp[eD,scal])
def rEqF:R2:=fun x y H Q=>eD x y (Q (.bl (decide (x=y))) H)
def rNeF:R2:=fun x y H Q=>eD x y (Q (.bl (!decide (x=y))) H)
theorem Ko_    : rEqF x y H Q=eD x y (Q (.bl (decide (x=y))) H):=rfl
theorem Kp_    : rNeF x y H Q=eD x y (Q (.bl (!decide (x=y))) H):=rfl
theorem IH_:rEqF=rEq:=by funext x y H Q;exact IG_
theorem II_:rNeF=rNe:=by funext x y H Q;exact IG_
theorem opE   (h:OpR X f rEq):OpR X f rEqF:=by rw[IH_];exact h
theorem opN   (h:OpR X f rNe):OpR X f rNeF:=by rw[II_];exact h
def aD:V->(Addr->Prop)->Prop
 |.ref a,q=>q a
 |x,q=>∃a,x=.ref a/\q a
theorem HL_   : aD (.ref a) q=q a:=rfl
theorem Gr_   : aD x q=∃a,x=.ref a/\q a:=by
 cases x<;>first|rfl|(simp[aD])
def nD:V->(Int->Prop)->Prop
 |.int a,q=>q a
 |x,q=>∃a,x=.int a/\q a
theorem HM_   : nD (.int a) q=q a:=rfl
theorem Fg_   : nD x q=∃a,x=.int a/\q a:=by
 cases x<;>first|rfl|(simp[nD])
def IJ_ (K:PySem.W.Frag):R2:=fun x y H Q=>aD x fun p=>∃xs,nD y fun i=>SqT K H p xs/\∃v,atI xs i=some v/\Q v H
def IK_ (K:PySem.W.Frag):R2:=fun x y H Q=>aD x fun p=>∃xs,nD y fun i=>SqL K H p xs/\∃v,atI xs i=some v/\Q v H
theorem HN_ {K:PySem.W.Frag}    : IJ_ K x y H Q=aD x fun p=>∃xs,nD y fun i=>SqT K H p xs/\∃v,atI xs i=some v/\Q v H:=rfl
theorem HO_ {K:PySem.W.Frag}    : IK_ K x y H Q=aD x fun p=>∃xs,nD y fun i=>SqL K H p xs/\∃v,atI xs i=some v/\Q v H:=rfl
theorem Gs_ {K:PySem.W.Frag}:IJ_ K=rIxT K:=by
 funext x y H Q
 show aD x _=∃p xs i v,_
 rw[Gr_]
 refine propext ⟨fun ⟨p,e,h⟩=>?_,fun ⟨p,xs,i,v,e1,e2,e3,e4,e5⟩=>⟨p,e1,?_⟩⟩
 ·obtain⟨xs,h⟩:=h
  rw[Fg_]at h
  obtain⟨i,e2,e3,v,e4,e5⟩:=h
  exact⟨p,xs,i,v,e,e2,e3,e4,e5⟩
 ·refine⟨xs,?_⟩
  rw[Fg_]
  exact⟨i,e2,e3,v,e4,e5⟩
theorem Gt_ {K:PySem.W.Frag}:IK_ K=rIxL K:=by
 funext x y H Q
 show aD x _=∃p xs i v,_
 rw[Gr_]
 refine propext ⟨fun ⟨p,e,h⟩=>?_,fun ⟨p,xs,i,v,e1,e2,e3,e4,e5⟩=>⟨p,e1,?_⟩⟩
 ·obtain⟨xs,h⟩:=h
  rw[Fg_]at h
  obtain⟨i,e2,e3,v,e4,e5⟩:=h
  exact⟨p,xs,i,v,e,e2,e3,e4,e5⟩
 ·refine⟨xs,?_⟩
  rw[Fg_]
  exact⟨i,e2,e3,v,e4,e5⟩
theorem ixTD  {K:PySem.W.Frag}(h:IxR X (rIxT K)):IxR X (IJ_ K):=by rw[Gs_];exact h
theorem ixLD  {K:PySem.W.Frag}(h:IxR X (rIxL K)):IxR X (IK_ K):=by rw[Gt_];exact h
def lD1:List V->(V->Prop)->Prop
 |[x],q=>q x
 |xs,q=>∃x,xs=[x]/\q x
theorem Fh_   : lD1 [x] q=q x:=rfl
theorem Kq_   : lD1 xs q=∃x,xs=[x]/\q x:=by
 match xs with
 |[]=>rfl
 |[x]=>simp[lD1]
 |x::y::r=>rfl
def IL_ (K:PySem.W.Frag):List V->Hp->VK->Prop:=fun xs H Q=>lD1 xs fun x=>aD x fun p=>∃ys,(SqL K H p ys\/SqT K H p ys)/\Q (.int ys.length) H
theorem HP_ {K:PySem.W.Frag}    : IL_ K xs H Q=lD1 xs fun x=>aD x fun p=>∃ys,(SqL K H p ys\/SqT K H p ys)/\Q (.int ys.length) H:=rfl
theorem lenD  {K:PySem.W.Frag}  (h:NT X f (fun xs H Q=>∃p ys,xs=[.ref p]/\(SqL K H p ys\/SqT K H p ys)/\Q (.int ys.length) H)):NT X f (IL_ K):=by
 have e:IL_ K=fun xs H Q=>∃p ys,xs=[.ref p]/\(SqL K H p ys\/SqT K H p ys)/\Q (.int ys.length) H:=by
  funext xs H Q
  show lD1 xs _=_
  rw[Kq_]
  refine propext ⟨fun ⟨x,e,h⟩=>?_,fun ⟨p,ys,e,h1,h2⟩=>⟨_,e,ys,h1,h2⟩⟩
  rw[Gr_]at h
  obtain⟨p,rfl,ys,h1,h2⟩:=h
  exact⟨p,ys,e,h1,h2⟩
 rw[e];exact h
theorem AB       (hN:X.N.Nodup)(he:PE X e te)(hi:X.N[i]?=some x:=by rfl)(hx:Loc X.env.scope x:=by exact Or.inl rfl)(hs:swapsWith e (some (.Name x pos')) pos.line X.env=pure false:=by rfl)(hf:X.fn x=true\/X.env.scope.names.lookup x=some .local:=by first|exact .inl rfl|exact .inr rfl|assumption):PS X (.Assign [.Name x pos'] e pos) (tAsg te (AJ_ i)):=Rp hN hi hx he hs hf
theorem BF      (hr:IxR X r)(ha:PE X a ta)(hb:PE X b tb)(hs:Eo_ b:=by exact fun _ _=>rfl):PE X (.Subscript a b pos) (tOp r ta tb):=KE_ hr ha hb hs
end L2
namespace PySem
open Sem (wp)
structure VKind (prog:Program)(w:World)(K:Type)[DecidableEq K] where
 is:Heap->K->Value->Prop
 hash:K->Int
 draws:K->Nat
 room:Around->Prop
 inj:∀{h:Heap} {a:Value} {x y:K},is h x a->is h y a->x=y
 keeps:∀{h h':Heap} {k:K} {a:Value} {d:Addr} {o:Obj} {es ep},is h k a->h.get? d=some o->o.data=.dict es ep->Heap.SameBut d h h'->is h' k a
 pyHash:∀{A:Around} {E:Value->Shared->Prop} {s:Shared} {k:K} {a:Addr} {Q:Int->Shared->Prop},room A->is s.heap k (.ref a)->Q (hash k) {s with toks:=s.toks+draws k}->wpAny (model prog w) A (PySem.pyHash (.ref a)) Q E s
 eqBool:∀{A:Around} {E:Value->Shared->Prop} {s:Shared} {x y:K} {u:Value} {b:Addr} {Q:Bool->Shared->Prop},room A->is s.heap x u->is s.heap y (.ref b)->Q (decide (x=y)) s->wpAny (model prog w) A (PySem.eqBool u (.ref b)) Q E s
 quiet:∀{A:Around} {E:Value->Shared->Prop} {s:Shared} {k:K} {a:Value} {Q:Bool->Shared->Prop},room A->is s.heap k a->Q true s->wpAny (model prog w) A (eqIsQuiet 8 a) Q E s
abbrev NI:=Int ⊕ List Int
abbrev NK:=Option (List NI)
end PySem
namespace S64
open PySem PyProof.Rows
def KE (κ:KeyKind)(x:Keyed):κ.α:=(κ.keyOf x.1).getD κ.dflt
def NI (κ:KeyKind)(xs:Array Keyed)(lo hi:Nat):Prop:=∀i j,lo<=i->i<=j->j<hi->κ.kle (KK κ xs j) (KK κ xs i)
def WK:Bool->Keyed->Array Keyed->Nat->Nat->Nat->StateT SortSt Sem (Option Nat):=sortPriv% PySem.Builtin.gallop
def HW:Nat->StateT SortSt Sem Unit:=sortPriv% PySem.Builtin.setMinGallop
def AZ_ (a b out:Array Keyed)(ia ib:Nat):Array Keyed:=out++a.extract ia a.size++b.extract ib b.size
def IM_ (a b out:Array Keyed)(ia ib:Nat):Array Keyed:=out++b.extract ib b.size++a.extract ia a.size
abbrev G5:=Option (Array Keyed)×Array Keyed×Nat×Nat×Nat
abbrev G6:=Option (Array Keyed)×Array Keyed×Nat×Nat×Nat×Nat
abbrev G7:=Option (Array Keyed)×Array Keyed×Nat×Nat×Nat×Nat×Nat
def PC (a b out:Array Keyed)(ia ib mg ac bc:Nat):StateT SortSt Sem (ForInStep G7):=do
 let y <- elem' a ia
 if (ia+1+1==a.size)=true then pure (.done (some (IM_ a b (out.push y) (ia+1) ib),out.push y,ia+1,ib,mg,ac,bc))
 else if (decide (ac<7)&&decide (bc<7))=true then pure (.done (none,out.push y,ia+1,ib,mg,ac,bc)) else pure (.yield (none,out.push y,ia+1,ib,mg,ac,bc))
def PB (a b out:Array Keyed)(ia ib mg ac bc:Nat):StateT SortSt Sem (ForInStep G7):=do
 let y <- elem' b ib
 if (ib+1==b.size)=true then pure (.done (some (AZ_ a b (out.push y) ia (ib+1)),out.push y,ia,ib+1,mg,ac,bc))
 else do
  let z <- elem' a ia
  let x <- WK true z b (ib+1) (b.size-(ib+1)) 0
  match x with
  |some k=>if k > 0 then (if (ib+1+k==b.size)=true then pure (.done (some (AZ_ a b (out.push y++b.extract (ib+1) (ib+1+k)) ia (ib+1+k)),out.push y++b.extract (ib+1) (ib+1+k),ia,ib+1+k,mg,ac,k)) else PC a b (out.push y++b.extract (ib+1) (ib+1+k)) ia (ib+1+k) mg ac k) else PC a b (out.push y) ia (ib+1) mg ac k
  |_=>pure (.done (some (AZ_ a b (out.push y) ia (ib+1)),out.push y,ia,ib+1,mg,ac,bc))
def PA (a b out:Array Keyed)(ia ib mg ac bc:Nat):StateT SortSt Sem (ForInStep G7):=do
 HW mg
 let y <- elem' b ib
 let x <- WK false y a ia (a.size-ia) 0
 match x with
 |some k=>if k > 0 then (if (ia+k+1==a.size)=true then pure (.done (some (IM_ a b (out++a.extract ia (ia+k)) (ia+k) ib),out++a.extract ia (ia+k),ia+k,ib,mg,k,bc)) else if (ia+k==a.size)=true then pure (.done (some (AZ_ a b (out++a.extract ia (ia+k)) (ia+k) ib),out++a.extract ia (ia+k),ia+k,ib,mg,k,bc)) else PB a b (out++a.extract ia (ia+k)) (ia+k) ib mg k bc) else PB a b out ia ib mg k bc
 |_=>pure (.done (some (AZ_ a b out ia ib),out,ia,ib,mg,ac,bc))
def P1 (a b:Array Keyed)(mg:Nat)(c:G6):StateT SortSt Sem (ForInStep G6):=do
 let y <- elem' b c.2.2.2.1
 let z <- elem' a c.2.2.1
 let x <- lt' y z
 match x with
 |some bWins=>
  if bWins=true then
   elem' b c.2.2.2.1 >>= fun y=>
   if (c.2.2.2.1+1==b.size)=true then pure (.done (some (AZ_ a b (c.2.1.push y) c.2.2.1 (c.2.2.2.1+1)),c.2.1.push y,c.2.2.1,c.2.2.2.1+1,0,c.2.2.2.2.2+1))
   else if c.2.2.2.2.2+1 >= mg then pure (.done (none,c.2.1.push y,c.2.2.1,c.2.2.2.1+1,0,c.2.2.2.2.2+1)) else pure (.yield (none,c.2.1.push y,c.2.2.1,c.2.2.2.1+1,0,c.2.2.2.2.2+1))
  else
   elem' a c.2.2.1 >>= fun y=>
   if (c.2.2.1+1+1==a.size)=true then pure (.done (some (IM_ a b (c.2.1.push y) (c.2.2.1+1) c.2.2.2.1),c.2.1.push y,c.2.2.1+1,c.2.2.2.1,c.2.2.2.2.1+1,0))
   else if c.2.2.2.2.1+1 >= mg then pure (.done (none,c.2.1.push y,c.2.2.1+1,c.2.2.2.1,c.2.2.2.2.1+1,0)) else pure (.yield (none,c.2.1.push y,c.2.2.1+1,c.2.2.2.1,c.2.2.2.2.1+1,0))
 |_=>pure (.done (some (AZ_ a b c.2.1 c.2.2.1 c.2.2.2.1),c.2.1,c.2.2.1,c.2.2.2.1,c.2.2.2.2.1,c.2.2.2.2.2))
def P2 (a b:Array Keyed)(c:G7):StateT SortSt Sem (ForInStep G7):=if c.2.2.2.2.1 > 1 then PA a b c.2.1 c.2.2.1 c.2.2.2.1 (c.2.2.2.2.1-1) c.2.2.2.2.2.1 c.2.2.2.2.2.2 else PA a b c.2.1 c.2.2.1 c.2.2.2.1 c.2.2.2.2.1 c.2.2.2.2.2.1 c.2.2.2.2.2.2
def PO (a b:Array Keyed)(c:G5):StateT SortSt Sem (ForInStep G5):=do
 let d <- forIn [0:a.size+b.size] ((none,c.2.1,c.2.2.1,c.2.2.2.1,0,0):G6) fun _ d=>P1 a b c.2.2.2.2 d
 match d.1 with
 |some r=>pure (.done (some r,d.2.1,d.2.2.1,d.2.2.2.1,c.2.2.2.2))
 |none=>do
  liftM (rule "list.sort.gallop")
  let e <- forIn [0:a.size+b.size] ((none,d.2.1,d.2.2.1,d.2.2.2.1,c.2.2.2.2+1,d.2.2.2.2.1,d.2.2.2.2.2):G7) fun _ e=>P2 a b e
  match e.1 with
  |some r=>pure (.done (some r,e.2.1,e.2.2.1,e.2.2.2.1,e.2.2.2.2.1))
  |none=>do
   HW (e.2.2.2.2.1+1)
   pure (.yield (none,e.2.1,e.2.2.1,e.2.2.2.1,e.2.2.2.2.1+1))
def Ba_ (a b out:Array Keyed)(na nb:Nat):Array Keyed:=a.extract 0 na++b.extract 0 nb++out.reverse
def Fi_ (a b out:Array Keyed)(na nb:Nat):Array Keyed:=b.extract 0 nb++a.extract 0 na++out.reverse
abbrev H5:=Option (Array Keyed)×Nat×Nat×Array Keyed×Nat
abbrev H6:=Option (Array Keyed)×Nat×Nat×Array Keyed×Nat×Nat
abbrev H7:=Option (Array Keyed)×Nat×Nat×Array Keyed×Nat×Nat×Nat
def HC (a b out:Array Keyed)(na nb mg ac bc:Nat):StateT SortSt Sem (ForInStep H7):=do
 let y <- elem' a (na-1)
 if (na-1==0)=true then pure (.done (some (Ba_ a b (out.push y) (na-1) nb),na-1,nb,out.push y,mg,ac,bc))
 else if (decide (ac<7)&&decide (bc<7))=true then pure (.done (none,na-1,nb,out.push y,mg,ac,bc)) else pure (.yield (none,na-1,nb,out.push y,mg,ac,bc))
def HB (a b out:Array Keyed)(na nb mg ac bc:Nat):StateT SortSt Sem (ForInStep H7):=do
 let y <- elem' b (nb-1)
 if (nb-1==1)=true then pure (.done (some (Fi_ a b (out.push y) na (nb-1)),na,nb-1,out.push y,mg,ac,bc))
 else do
  let z <- elem' a (na-1)
  let x <- WK true z b 0 (nb-1) (nb-1-1)
  match x with
  |some t=>if nb-1-t > 0 then (if (t==1)=true then pure (.done (some (Fi_ a b (out.push y++(b.extract t (nb-1)).reverse) na t),na,t,out.push y++(b.extract t (nb-1)).reverse,mg,ac,nb-1-t)) else if (t==0)=true then pure (.done (some (Ba_ a b (out.push y++(b.extract t (nb-1)).reverse) na t),na,t,out.push y++(b.extract t (nb-1)).reverse,mg,ac,nb-1-t)) else HC a b (out.push y++(b.extract t (nb-1)).reverse) na t mg ac (nb-1-t)) else HC a b (out.push y) na (nb-1) mg ac (nb-1-t)
  |_=>pure (.done (some (Ba_ a b (out.push y) na (nb-1)),na,nb-1,out.push y,mg,ac,bc))
def HA (a b out:Array Keyed)(na nb mg ac bc:Nat):StateT SortSt Sem (ForInStep H7):=do
 HW mg
 let y <- elem' b (nb-1)
 let x <- WK false y a 0 na (na-1)
 match x with
 |some t=>if na-t > 0 then (if (t==0)=true then pure (.done (some (Ba_ a b (out++(a.extract t na).reverse) t nb),t,nb,out++(a.extract t na).reverse,mg,na-t,bc)) else HB a b (out++(a.extract t na).reverse) t nb mg (na-t) bc) else HB a b out na nb mg (na-t) bc
 |_=>pure (.done (some (Ba_ a b out na nb),na,nb,out,mg,ac,bc))
def H1 (a b:Array Keyed)(mg:Nat)(c:H6):StateT SortSt Sem (ForInStep H6):=do
 let y <- elem' b (c.2.2.1-1)
 let z <- elem' a (c.2.1-1)
 let x <- lt' y z
 match x with
 |some aWins=>
  if aWins=true then
   elem' a (c.2.1-1) >>= fun y=>
   if (c.2.1-1==0)=true then pure (.done (some (Ba_ a b (c.2.2.2.1.push y) (c.2.1-1) c.2.2.1),c.2.1-1,c.2.2.1,c.2.2.2.1.push y,c.2.2.2.2.1+1,0))
   else if c.2.2.2.2.1+1 >= mg then pure (.done (none,c.2.1-1,c.2.2.1,c.2.2.2.1.push y,c.2.2.2.2.1+1,0)) else pure (.yield (none,c.2.1-1,c.2.2.1,c.2.2.2.1.push y,c.2.2.2.2.1+1,0))
  else
   elem' b (c.2.2.1-1) >>= fun y=>
   if (c.2.2.1-1==1)=true then pure (.done (some (Fi_ a b (c.2.2.2.1.push y) c.2.1 (c.2.2.1-1)),c.2.1,c.2.2.1-1,c.2.2.2.1.push y,0,c.2.2.2.2.2+1))
   else if c.2.2.2.2.2+1 >= mg then pure (.done (none,c.2.1,c.2.2.1-1,c.2.2.2.1.push y,0,c.2.2.2.2.2+1)) else pure (.yield (none,c.2.1,c.2.2.1-1,c.2.2.2.1.push y,0,c.2.2.2.2.2+1))
 |_=>pure (.done (some (Ba_ a b c.2.2.2.1 c.2.1 c.2.2.1),c.2.1,c.2.2.1,c.2.2.2.1,c.2.2.2.2.1,c.2.2.2.2.2))
def H2 (a b:Array Keyed)(c:H7):StateT SortSt Sem (ForInStep H7):=if c.2.2.2.2.1 > 1 then HA a b c.2.2.2.1 c.2.1 c.2.2.1 (c.2.2.2.2.1-1) c.2.2.2.2.2.1 c.2.2.2.2.2.2 else HA a b c.2.2.2.1 c.2.1 c.2.2.1 c.2.2.2.2.1 c.2.2.2.2.2.1 c.2.2.2.2.2.2
def HO (a b:Array Keyed)(c:H5):StateT SortSt Sem (ForInStep H5):=do
 let d <- forIn [0:a.size+b.size] ((none,c.2.1,c.2.2.1,c.2.2.2.1,0,0):H6) fun _ d=>H1 a b c.2.2.2.2 d
 match d.1 with
 |some r=>pure (.done (some r,d.2.1,d.2.2.1,d.2.2.2.1,c.2.2.2.2))
 |none=>do
  liftM (rule "list.sort.gallop")
  let e <- forIn [0:a.size+b.size] ((none,d.2.1,d.2.2.1,d.2.2.2.1,c.2.2.2.2+1,d.2.2.2.2.1,d.2.2.2.2.2):H7) fun _ e=>H2 a b e
  match e.1 with
  |some r=>pure (.done (some r,e.2.1,e.2.2.1,e.2.2.2.1,e.2.2.2.2.1))
  |none=>do
   HW (e.2.2.2.2.1+1)
   pure (.yield (none,e.2.1,e.2.2.1,e.2.2.2.1,e.2.2.2.2.1+1))
def wr (a:Array Keyed)(base:Nat)(r:List Keyed)(n:Nat):Array Keyed:=(r.zipIdx n).foldl (fun a (p,j)=>a.setIfInBounds (base+j) p) a
end S64
namespace S64
open PySem PyProof.Rows L2
abbrev Wd:=Addr×List Int
def wv (ws:List Wd):List V:=ws.map fun w=>V.ref w.1
def wu (ws:List Wd):List Value:=ws.map fun w=>Value.ref w.1
def kw (w:Wd):Int×List Int:=((w.2.length:Int),w.2)
section
variable {X:Cx} {pins:List (Addr×Obj)} {σ:L2.St} {H H0:Hp} {s:Shared} {A:Around} {E:Value->Shared->Prop} {ws:List Wd} {ts:List Addr} {a kT:Addr} {e1:Nat} {P:PySem.Fin->Shared->Prop} {f:Value}
def Turn (X:Cx)(pins:List (Addr×Obj))(σ:L2.St)(A:Around)(f:Value)(ws:List Wd)(H0:Hp):Prop:=∀w∈ws,∀(H':Hp) (s':Shared),Inv X pins σ H' s'->Same H0 H' ->
 wpAny (model X.prog X.w) A (call f [.ref w.1]) (EP X pins σ (fun k H''=>∃t,k=.ref t/\Same H' H''/\SqT X.K H'' t [.int w.2.length,.ref w.1])) (fun _ _=>False) s'
end
end S64
namespace L2
open PySem PySem.Spec PyProof.Rows
abbrev HA (K:PySem.W.Frag)(x:Str)(f:Addr):Prop:=PySem.W.nsIn K mainGlobals x=some (some (.ref f))
structure HF (K:PySem.W.Frag)(x:Str)(st:Stmt)(f:Addr)(fd:FuncData):Prop where
 a:PySem.W.nsIn K mainGlobals x=some (some (.ref f))
 F:Fun K x x st f fd
end L2
namespace N80
open Nest L2 GW
def val (b:Nat)(v:List Int):Nat:=v.foldl (fun a x=>a*b+x.toNat) 0
def cod (b:Nat)(v:List Int):Nat:=b ^ v.length+val b v
structure Turn {R:Type}(A:Int->List Int->Prop)(p e:Int)(b:Nat)(fin:R->Prop)(best:R->Option (List Int))(res:Option (List Int)):Prop where
 s:∀t,res=some t->∃r,best r=some t/\fin r
 l:∀r t,best r=some t->fin r->∃t',res=some t'/\cod b t'<=cod b t
end N80
namespace HT
open PySem PyProof.Rows
inductive LtE (A:Around)(s:Shared)(f:Bool):List Value->List Value->Bool->Prop
 | endL {ws:List Value}:LtE A s f [] ws f
 | endR {vs:List Value}:LtE A s f vs [] f
 | eq {v w:Value} {vs ws:List Value} {b:Bool}:SeqAt.EqAt A s v w true->LtE A s f vs ws b->LtE A s f (v::vs) (w::ws) b
 | ne {v w:Value} {vs ws:List Value} {b:Bool}:SeqAt.EqAt A s v w false->(∀(prog:Program) (wd:World) (E:Value->Shared->Prop) (Q:Value->Shared->Prop),Q (.bool b) s->wpAny (model prog wd) A (richCompare .Lt v w) Q E s)->LtE A s f (v::vs) (w::ws) b
end HT
namespace Mine
open PySem L2 GW GB
local macro_rules | `(tactic| walk_at "rd") => `(tactic| (try dsimp only[↓HF_,Ff_,↓r_ID,↓Kj_,HG_,↓r_BD,Kl_,↓Ko_,↓Kp_,HI_,HJ_,HK_,Kn_,↓HN_,↓HO_,HL_,HM_,↓HP_,Fh_,↓JE_,↓He_,↓JF_,↓Ey_,↓JG_,↓r_c,↓r_op,↓r_un,↓r_I,↓r_I0,↓r_U,↓Hf_,↓Hg_,↓JH_,↓JI_,↓Hh_,↓r_if,↓r_B,↓Hi_,↓JJ_,↓r_or,↓JK_,↓Hj_,↓Ez_,↓r_CB,↓JL_,↓JM_,↓JN_,↓JO_,↓r_sl,↓Hk_,↓Cp_,↓JV_,↓r_BM,↓Cq_,↓r_Eq,↓r_Ne,↓JP_,↓EA_,↓Hl_,↓EB_,↓Hm_,↓Hn_,↓JR_,↓EI_,↓JX_,↓Hq_,↓Hr_,↓JY_,↓Hs_,↓EJ_,↓Ht_,↓Hu_,↓Hv_,↓EK_,↓EM_,↓Cr_,↓Cs_,↓EN_,↓Ka_,↓Kc_,↓HA_,↓HB_,↓HC_,↓EU_,↓ET_,↓EX_,↓EZ_,↓Fc_,↓EY_,JQ_,L2.start,List.map_cons,List.map_nil,List.length_cons,List.length_nil,List.cons_append,List.nil_append,List.replicate,List.getElem?_cons_zero,List.getElem?_cons_succ,List.set_cons_zero,List.set_cons_succ,scal])<;>(try simp only[↓HF_,Ff_,↓r_ID,↓Kj_,HG_,↓r_BD,Kl_,↓Ko_,↓Kp_,HI_,HJ_,HK_,Kn_,↓HN_,↓HO_,HL_,HM_,↓HP_,Fh_,ID_,Km_,IG_,Gr_,Fg_,↓JE_,↓He_,↓JF_,↓Ey_,↓JG_,↓r_c,↓r_op,↓r_un,↓r_I,↓r_I0,↓r_U,↓Hf_,↓Hg_,↓JH_,↓JI_,↓Hh_,↓r_if,↓r_B,↓Hi_,↓JJ_,↓r_or,↓JK_,↓Hj_,↓Ez_,↓r_CB,↓JL_,↓JM_,↓JN_,↓JO_,↓r_sl,↓Hk_,↓Cp_,↓JV_,↓r_BM,↓Cq_,↓r_Eq,↓r_Ne,↓JP_,↓EA_,↓Hl_,↓EB_,↓Hm_,↓Hn_,↓JR_,↓EI_,↓JX_,↓Hq_,↓Hr_,↓JY_,↓Hs_,↓EJ_,↓Ht_,↓Hu_,↓Hv_,↓EK_,↓EM_,↓Cr_,↓Cs_,↓EN_,↓Ka_,↓Kc_,↓HA_,↓HB_,↓HC_,↓EU_,↓ET_,↓EX_,↓EZ_,↓Fc_,↓EY_,JQ_,L2.start,List.map_cons,List.map_nil,List.length_cons,List.length_nil,List.cons_append,List.nil_append,List.append_nil,List.replicate,List.getElem?_cons_zero,List.getElem?_cons_succ,List.set_cons_zero,List.set_cons_succ,Option.some.injEq,V.int.injEq,V.str.injEq,V.ref.injEq,V.bl.injEq,List.cons.injEq,and_true,true_and,and_assoc,exists_and_left,exists_eq_left',exists_eq_left,exists_eq_right,exists_eq,if_true,if_false,Bool.false_eq_true,decide_eq_true_eq,scal,Nat.reduceAdd,Nat.reduceSub,reduceCtorEq,Bool.not_true,Bool.not_false]))
local macro_rules | `(tactic| walk_at "sc") => `(tactic| exact⟨rfl,rfl,rfl,by decide +kernel,rfl,by decide +kernel,by decide +kernel⟩)
def top (i:Nat):Stmt:=PySem.Challenge.pw_guessroom_k57_say_asker_refuses.main.body.getD i (.Pass ⟨0,0,0,0⟩)
abbrev Ed:Stmt:=Br (top 20) 1
theorem U8:FnScope ["self"] ["self"] (Ab Ed):=by walk_at "sc"
abbrev Bx:Stmt:=Br (top 41) 1
theorem P7:FnScope ["self"] ["self"] (Ab Bx):=by walk_at "sc"
abbrev Ci:Stmt:=top 43
theorem Y0:FnScope ["script","k"] ["script","k"] (Ab Ci):=by walk_at "sc"
abbrev Iv:Stmt:=top 8
theorem Dj_:FnScope ["letters","word"] ["letters","word"] (Ab Iv):=by walk_at "sc"
abbrev D0:Stmt:=top 9
theorem WL:FnScope ["letters","word"] ["letters","word"] (Ab D0):=by walk_at "sc"
abbrev Iw:Stmt:=top 12
theorem Dk_:FnScope ["number"] ["number"] (Ab Iw):=by walk_at "sc"
abbrev EI:Stmt:=top 17
theorem WM:FnScope ["mark"] ["mark"] (Ab EI):=by walk_at "sc"
abbrev D1:Stmt:=Br (top 18) 1
theorem WN:FnScope ["self","word","mark"] ["self","word","mark"] (Ab D1):=by walk_at "sc"
abbrev F7:Stmt:=Br (top 18) 2
theorem Bb_:FnScope ["self","word","mark"] ["self","word","mark"] (Ab F7):=by walk_at "sc"
abbrev AX:Stmt:=Br (top 20) 2
theorem Na:FnScope ["self","deed"] ["self","deed"] (Ab AX):=by walk_at "sc"
abbrev Ls:Stmt:=top 13
theorem SE:FnScope ["house","word","ways","rooms","letter"] ["house","word"] (Ab Ls):=by walk_at "sc"
abbrev Ee:Stmt:=Br (top 18) 3
theorem Y1:FnScope ["self","word"] ["self","word"] (Ab Ee):=by walk_at "sc"
abbrev J6:Stmt:=top 33
theorem Gs:FnScope ["book","access","guess","word","mark","last","rooms","low","high","middle","asked","told"] ["book","access","guess","word","mark","last"] (Ab J6):=by walk_at "sc"
abbrev DF:Stmt:=Br (top 21) 8
theorem Iy:FnScope ["self","words","left","word"] ["self","words"] (Ab DF):=by walk_at "sc"
abbrev Ho:Stmt:=top 23
theorem JG:FnScope ["letters","access","rows","word","letter"] ["letters","access"] (Ab Ho):=by walk_at "sc"
abbrev NY:Stmt:=top 24
theorem SF:FnScope ["letters","access","ends","words","row","end"] ["letters","access","ends"] (Ab NY):=by walk_at "sc"
abbrev AR:Stmt:=Br (top 34) 3
theorem KI:FnScope ["self"] ["self"] (Ab AR):=by walk_at "sc"
abbrev BS:Stmt:=top 36
theorem OI:FnScope ["word"] ["word"] (Ab BS):=by walk_at "sc"
abbrev Ta:Stmt:=top 37
theorem IN_:FnScope ["house","word"] ["house","word"] (Ab Ta):=by walk_at "sc"
abbrev Ef:Stmt:=top 38
theorem Y2:FnScope ["house","word"] ["house","word"] (Ab Ef):=by walk_at "sc"
abbrev Cb:Stmt:=Br (top 40) 1
theorem P8:FnScope ["self","house","word"] ["self","house","word"] (Ab Cb):=by walk_at "sc"
abbrev Eg:Stmt:=Br (top 34) 4
theorem Hg:FnScope ["self","mark","last","found"] ["self"] (Ab Eg):=by walk_at "sc"
abbrev GY:Stmt:=top 25
theorem Bc_:FnScope ["book","word","ends"] ["book","word","ends"] (Ab GY):=by walk_at "sc"
abbrev CF:Stmt:=top 26
theorem Iz:FnScope ["book","letters","access","ends","marks","row"] ["book","letters","access","ends"] (Ab CF):=by walk_at "sc"
abbrev CZ:Stmt:=top 28
theorem C6:FnScope ["letters","access","marks","rooms","room","word","ways"] ["letters","access","marks"] (Ab CZ):=by walk_at "sc"
abbrev BA:Stmt:=Br (top 40) 2
theorem EJ:FnScope ["self","marks","says"] ["self"] (Ab BA):=by walk_at "sc"
abbrev D2:Stmt:=Br (top 18) 4
theorem WO:FnScope ["self"] ["self"] (Ab D2):=by walk_at "sc"
abbrev DG:Stmt:=top 30
theorem IA:FnScope ["heard","answer","house","word","told"] ["heard","answer","house"] (Ab DG):=by walk_at "sc"
abbrev BB:Stmt:=Br (top 40) 3
theorem Lu:FnScope ["self"] ["self"] (Ab BB):=by walk_at "sc"
abbrev BC:Stmt:=Br (top 21) 9
theorem Lv:FnScope ["self"] ["self"] (Ab BC):=by walk_at "sc"
abbrev GZ:Stmt:=top 27
theorem J7:FnScope ["book","letters","access","ends","marks","known","row"] ["book","letters","access","ends"] (Ab GZ):=by walk_at "sc"
abbrev Bu:Stmt:=Br (top 34) 5
theorem GK:FnScope ["self","row"] ["self"] (Ab Bu):=by walk_at "sc"
abbrev Ct:Stmt:=Br (top 21) 7
theorem P9:FnScope ["self"] ["self"] (Ab Ct):=by walk_at "sc"
abbrev Cv:Stmt:=Br (top 20) 3
theorem U9:FnScope ["self"] ["self"] (Ab Cv):=by walk_at "sc"
abbrev B4:Stmt:=Br (top 21) 1
theorem NZ:FnScope ["self","number"] ["self","number"] (Ab B4):=by walk_at "sc"
abbrev EK:Stmt:=Br (top 34) 1
theorem WQ:FnScope ["self","mark"] ["self","mark"] (Ab EK):=by walk_at "sc"
abbrev Co:Stmt:=Br (top 41) 2
theorem RL:FnScope ["self","mark"] ["self","mark"] (Ab Co):=by walk_at "sc"
abbrev BI:Stmt:=top 47
theorem BU:FnScope ["e","told"] ["e"] (Ab BI):=by walk_at "sc"
abbrev D3:Stmt:=top 48
theorem HX:FnScope ["asker","mark","caught","e"] ["asker","mark"] (Ab D3):=by walk_at "sc"
abbrev EL:Stmt:=Br (top 21) 2
theorem WR:FnScope ["self"] ["self"] (Ab EL):=by walk_at "sc"
abbrev Cc:Stmt:=Br (top 41) 3
theorem Qa:FnScope ["self"] ["self"] (Ab Cc):=by walk_at "sc"
abbrev Eh:Stmt:=top 49
theorem Hi:FnScope ["asker","caught","e"] ["asker"] (Ab Eh):=by walk_at "sc"
abbrev Bv:Stmt:=Br (top 21) 3
theorem KJ:FnScope ["self","word","number"] ["self","word","number"] (Ab Bv):=by walk_at "sc"
abbrev DH:Stmt:=Br (top 34) 2
theorem Tc:FnScope ["self","word","mark"] ["self","word","mark"] (Ab DH):=by walk_at "sc"
abbrev BV:Stmt:=Br (top 41) 4
theorem OJ:FnScope ["self","word","mark"] ["self","word","mark"] (Ab BV):=by walk_at "sc"
abbrev CG:Stmt:=top 50
theorem Gu:FnScope ["asker","word","mark","caught","e"] ["asker","word","mark"] (Ab CG):=by walk_at "sc"
abbrev FQ:Stmt:=Br (top 18) 0
theorem Y3:FnScope ["self","letters"] ["self","letters"] (Ab FQ):=by walk_at "sc"
abbrev EM:Stmt:=Br (top 20) 0
theorem WT:FnScope ["self"] ["self"] (Ab EM):=by walk_at "sc"
abbrev FT:Stmt:=Br (top 21) 0
theorem Y4:FnScope ["self","letters","most","book","ways","ends"] ["self","letters","most","book","ways","ends"] (Ab FT):=by walk_at "sc"
abbrev BD:Stmt:=Br (top 40) 0
theorem Lw:FnScope ["self","letters"] ["self","letters"] (Ab BD):=by walk_at "sc"
abbrev EO:Stmt:=Br (top 34) 0
theorem WU:FnScope ["self","letters","most"] ["self","letters","most"] (Ab EO):=by walk_at "sc"
abbrev C0:Stmt:=Br (top 41) 0
theorem RM:FnScope ["self","letters","most"] ["self","letters","most"] (Ab C0):=by walk_at "sc"
abbrev ER:Stmt:=Br (top 21) 6
theorem WV:FnScope ["self"] ["self"] (Ab ER):=by walk_at "sc"
abbrev BJ:Stmt:=Br (top 41) 7
theorem Qb:FnScope ["self"] ["self"] (Ab BJ):=by walk_at "sc"
abbrev G0:Stmt:=top 44
theorem Td:FnScope ["script","k","many"] ["script","k"] (Ab G0):=by walk_at "sc"
abbrev FU:Stmt:=top 45
theorem Y5:FnScope ["cell"] ["cell"] (Ab FU):=by walk_at "sc"
abbrev ES:Stmt:=top 46
theorem Hq:FnScope ["house","word","room","told","letter"] ["house","word"] (Ab ES):=by walk_at "sc"
abbrev ET:Stmt:=top 51
theorem Y6:FnScope ["script","at","letters","many"] ["script","at","letters","many"] (Ab ET):=by walk_at "sc"
abbrev C1:Stmt:=top 52
theorem HM:FnScope ["script","at","letters","heard","word"] ["script","at","letters","heard"] (Ab C1):=by walk_at "sc"
abbrev EU:Stmt:=top 53
theorem Lx:FnScope ["asker","script","letters","turn","wish","word"] ["asker","script","letters","turn"] (Ab EU):=by walk_at "sc"
abbrev Dm:Stmt:=top 54
theorem FF:FnScope ["script","letters","turns","most","asker","turn"] ["script","letters","turns"] (Ab Dm):=by walk_at "sc"
abbrev Ei:Stmt:=Br (top 21) 4
theorem Va:FnScope ["self"] ["self"] (Ab Ei):=by walk_at "sc"
abbrev Cj:Stmt:=Br (top 41) 5
theorem OK:FnScope ["self"] ["self"] (Ab Cj):=by walk_at "sc"
abbrev DI:Stmt:=Br (top 21) 5
theorem Te:FnScope ["self"] ["self"] (Ab DI):=by walk_at "sc"
abbrev B6:Stmt:=Br (top 41) 6
theorem N0:FnScope ["self"] ["self"] (Ab B6):=by walk_at "sc"
abbrev F8:Stmt:=top 55
theorem Bd_:FnScope ["asker"] ["asker"] (Ab F8):=by walk_at "sc"
abbrev DJ:Stmt:=top 56
theorem IB:FnScope ["asker","script","letters","turns","other","turn"] ["asker","script","letters","turns"] (Ab DJ):=by walk_at "sc"
abbrev BR:Stmt:=top 57
theorem B9:FnScope ["asker","script","letters","odd","word","place","number","bad","pair"] ["asker","script","letters","odd"] (Ab BR):=by walk_at "sc"
abbrev WW:Stmt:=top 58
theorem Ru:FnScope ["script","letters","turns","asker","wish","ahead","far","odd"] ["script"] (Ab WW):=by walk_at "sc"
def Tf:Caps:=[("letter",none),("letters",some 0)]
theorem Vb:(Caps.names Tf).Nodup:=by decide +kernel
def Cy_:Caps:=[("room",none),("letter",none),("house",some 0)]
theorem Tg:(Caps.names Cy_).Nodup:=by decide +kernel
def Rv:Caps:=[("end",none),("book",some 0),("word",some 1)]
theorem Th:(Caps.names Rv).Nodup:=by decide +kernel
def JH:Caps:=[("letter",none),("rooms",some 3),("marks",some 2),("word",some 5)]
theorem Nb:(Caps.names JH).Nodup:=by decide +kernel
def GL:Caps:=[("word",none),("marks",some 1),("self",some 0)]
theorem Jl:(Caps.names GL).Nodup:=by decide +kernel
def Rw:Caps:=[("word",none),("marks",some 4)]
theorem Ti:(Caps.names Rw).Nodup:=by decide +kernel
def GN:Caps:=[("letter",none)]
theorem Jm:(Caps.names GN).Nodup:=by decide +kernel
def OL:Caps:=[("k",none),("letters",some 2),("script",some 0),("at",some 1)]
theorem RO:(Caps.names OL).Nodup:=by decide +kernel
def JI:Caps:=[("pair",none)]
theorem Nd:(Caps.names JI).Nodup:=by decide +kernel
structure Txt (mg:Str->Option Value):Prop where
 ValueError:mg "ValueError"=none
 all:mg "all"=none
 enumerate:mg "enumerate"=none
 isinstance:mg "isinstance"=none
 len:mg "len"=none
 list:mg "list"=none
 max:mg "max"=none
 range:mg "range"=none
 tuple:mg "tuple"=none
 zip:mg "zip"=none
structure Own (K:PySem.W.Frag)(mg:Str->Option Value)(C_j7 C_j9 C_jj C_ja C_j1 C_j4:Addr):Prop where
 m_j7:mg "Book"=some (.ref C_j7)
 cl_j7:Cls K C_j7
 n_Book_letters:Fo K C_j7 "letters"
 n_Book_marks:Fo K C_j7 "marks"
 m_j9:mg "Turns"=some (.ref C_j9)
 m_jj:mg "Hunt"=some (.ref C_jj)
 m_ja:mg "Asker"=some (.ref C_ja)
 m_j1:mg "SayHunt"=some (.ref C_j1)
 cl_j1:Cls K C_j1
 n_SayHunt_book:Fo K C_j1 "book"
 n_SayHunt_ends:Fo K C_j1 "ends"
 n_SayHunt_gaps:Fo K C_j1 "gaps"
 n_SayHunt_guess:Fo K C_j1 "guess"
 n_SayHunt_letters:Fo K C_j1 "letters"
 n_SayHunt_most:Fo K C_j1 "most"
 n_SayHunt_ways:Fo K C_j1 "ways"
 n_SayHunt_wish:Fo K C_j1 "wish"
 n_SayHunt_wrong:Fo K C_j1 "wrong"
 m_j4:mg "SayAsker"=some (.ref C_j4)
 cl_j4:Cls K C_j4
 n_SayAsker_hunt:Fo K C_j4 "hunt"
 n_SayAsker_letters:Fo K C_j4 "letters"
 kk_SayAsker_Asker:PySem.W.kitOne K (.ref C_j4) (.ref C_ja)=some false
 ka_SayAsker:PySem.W.findIn K (.ref C_j4) "__class__"=some (some (.builtin "object.__class__"))
 ko_SayAsker:PySem.W.mroIn K C_j4 (.type "object")=some true
 q_j28:∃t,mg "MOST_MARK"=some (.int 1000000000 t)
structure Exs (K:PySem.W.Frag)(mg:Str->Option Value)(C_j8 C_j5 C_j6 C_j3 C_j2 C_j0:Addr):Prop where
 m_j8:mg "AskError"=some (.ref C_j8)
 m_j5:mg "BadWord"=some (.ref C_j5)
 m_j6:mg "BadMark"=some (.ref C_j6)
 m_j3:mg "OutOfTurn"=some (.ref C_j3)
 m_j2:mg "NoDifference"=some (.ref C_j2)
 m_j0:mg "Contradiction"=some (.ref C_j0)
 x_j5:PySem.W.excIn K C_j5 bmV "ValueError.__new__"=true
 c_j5:ExcCls K C_j5
 e_j5:PySem.W.exmOne K (.ref C_j5) (.ref C_j8)=some true
 v_j5:PySem.W.kitOne K (.ref C_j5) (.type "ValueError")=some true
 ee_j5:PySem.W.exmOne K (.ref C_j5) (.ref C_j5)=some true
 k_j5_j8:PySem.W.kitOne K (.ref C_j5) (.ref C_j8)=some true
 k_j5_j5:PySem.W.kitOne K (.ref C_j5) (.ref C_j5)=some true
 k_j5_j6:PySem.W.kitOne K (.ref C_j5) (.ref C_j6)=some false
 k_j5_j3:PySem.W.kitOne K (.ref C_j5) (.ref C_j3)=some false
 k_j5_j2:PySem.W.kitOne K (.ref C_j5) (.ref C_j2)=some false
 k_j5_j0:PySem.W.kitOne K (.ref C_j5) (.ref C_j0)=some false
 x_j6:PySem.W.excIn K C_j6 bmV "ValueError.__new__"=true
 c_j6:ExcCls K C_j6
 e_j6:PySem.W.exmOne K (.ref C_j6) (.ref C_j8)=some true
 v_j6:PySem.W.kitOne K (.ref C_j6) (.type "ValueError")=some true
 ee_j6:PySem.W.exmOne K (.ref C_j6) (.ref C_j6)=some true
 k_j6_j8:PySem.W.kitOne K (.ref C_j6) (.ref C_j8)=some true
 k_j6_j5:PySem.W.kitOne K (.ref C_j6) (.ref C_j5)=some false
 k_j6_j6:PySem.W.kitOne K (.ref C_j6) (.ref C_j6)=some true
 k_j6_j3:PySem.W.kitOne K (.ref C_j6) (.ref C_j3)=some false
 k_j6_j2:PySem.W.kitOne K (.ref C_j6) (.ref C_j2)=some false
 k_j6_j0:PySem.W.kitOne K (.ref C_j6) (.ref C_j0)=some false
 x_j3:PySem.W.excIn K C_j3 bmV "ValueError.__new__"=true
 c_j3:ExcCls K C_j3
 e_j3:PySem.W.exmOne K (.ref C_j3) (.ref C_j8)=some true
 v_j3:PySem.W.kitOne K (.ref C_j3) (.type "ValueError")=some true
 ee_j3:PySem.W.exmOne K (.ref C_j3) (.ref C_j3)=some true
 k_j3_j8:PySem.W.kitOne K (.ref C_j3) (.ref C_j8)=some true
 k_j3_j5:PySem.W.kitOne K (.ref C_j3) (.ref C_j5)=some false
 k_j3_j6:PySem.W.kitOne K (.ref C_j3) (.ref C_j6)=some false
 k_j3_j3:PySem.W.kitOne K (.ref C_j3) (.ref C_j3)=some true
 k_j3_j2:PySem.W.kitOne K (.ref C_j3) (.ref C_j2)=some false
 k_j3_j0:PySem.W.kitOne K (.ref C_j3) (.ref C_j0)=some false
 x_j2:PySem.W.excIn K C_j2 bmV "ValueError.__new__"=true
 c_j2:ExcCls K C_j2
 e_j2:PySem.W.exmOne K (.ref C_j2) (.ref C_j8)=some true
 v_j2:PySem.W.kitOne K (.ref C_j2) (.type "ValueError")=some true
 ee_j2:PySem.W.exmOne K (.ref C_j2) (.ref C_j2)=some true
 k_j2_j8:PySem.W.kitOne K (.ref C_j2) (.ref C_j8)=some true
 k_j2_j5:PySem.W.kitOne K (.ref C_j2) (.ref C_j5)=some false
 k_j2_j6:PySem.W.kitOne K (.ref C_j2) (.ref C_j6)=some false
 k_j2_j3:PySem.W.kitOne K (.ref C_j2) (.ref C_j3)=some false
 k_j2_j2:PySem.W.kitOne K (.ref C_j2) (.ref C_j2)=some true
 k_j2_j0:PySem.W.kitOne K (.ref C_j2) (.ref C_j0)=some false
 x_j0:PySem.W.excIn K C_j0 bmV "ValueError.__new__"=true
 c_j0:ExcCls K C_j0
 e_j0:PySem.W.exmOne K (.ref C_j0) (.ref C_j8)=some true
 v_j0:PySem.W.kitOne K (.ref C_j0) (.type "ValueError")=some true
 ee_j0:PySem.W.exmOne K (.ref C_j0) (.ref C_j0)=some true
 k_j0_j8:PySem.W.kitOne K (.ref C_j0) (.ref C_j8)=some true
 k_j0_j5:PySem.W.kitOne K (.ref C_j0) (.ref C_j5)=some false
 k_j0_j6:PySem.W.kitOne K (.ref C_j0) (.ref C_j6)=some false
 k_j0_j3:PySem.W.kitOne K (.ref C_j0) (.ref C_j3)=some false
 k_j0_j2:PySem.W.kitOne K (.ref C_j0) (.ref C_j2)=some false
 k_j0_j0:PySem.W.kitOne K (.ref C_j0) (.ref C_j0)=some true
section
variable {P:Program} {w:World} {K:PySem.W.Frag} {mg:Str->Option Value} {base:Heap}
variable {C_j8 C_j5 C_j6 C_j3 C_j2 C_j0 C_j7 C_j9 C_jj C_ja C_j1 C_j4:Addr}
def Wb (K:PySem.W.Frag):Sp:=fun vs H Q _=>∃(L:Int) (a:Addr) (ws:List Int),vs=[.int L,.ref a]/\SqT K H a (ws.map V.int)/\ws.length<=1000/\∀H',Same H H'->Q (.bl (isW L ws)) H'
theorem Dl_   (F:Fun K "is_word" "is_word" Iv f fd)(T:Txt mg)
  (W:Own K mg C_j7 C_j9 C_jj C_ja C_j1 C_j4)
  (Z:Exs K mg C_j8 C_j5 C_j6 C_j3 C_j2 C_j0)
  : FnOk P w K mg base CX0 1 f fd ["letters","word"] (Wb K):=by
 refine F.ok Dj_ (fun vs H Q E h=>?_) (fun cdv A outer s H vs Q E hr h=>?_)
 ·obtain⟨L,a,ws,rfl,_⟩:=h;rfl
 ·obtain⟨L,a,ws,rfl,hw,hz,k⟩:=h
  have hl:=Ao
  refine⟨_,(Ac (Ar (C3 (Gc_ rfl) rfl T.all PyProof.Rows.boot_all (Aa (Lo rfl (OG rfl) (cp:=Tf) ⟨⟨rfl,rfl⟩,True.intro⟩ (DV_ (pvD 1)) (fun _ _ _ _=>(B3 (i:=0) Vb rfl (Or.inl rfl))) (fun _ _ _ _=>OF) (fun _ _ _ _=>(Cl_ If_ Ie_ Ai (pvD 0) (pvD 1)))) Af)))),?_⟩
  walk_at "rd"
  refine⟨⟨_,hw⟩,Ge_ (σ':=[some (.int L)]) (fun x=>match x with | .int n=>.bl (inW L n)|_=>.non) rfl hw (by rw[List.length_map];omega) (fun x hx R hR=>?_) (fun D hD=>?_)⟩
  ·obtain⟨n,_,rfl⟩:=OH hx
   walk_at "rd"
   by_cases h0:0<=n
   ·simp only[h0,if_true]
    simpa [inW,h0] using hR
   ·simp only[h0,if_false]
    simpa [inW,h0] using hR
  ·refine⟨D,rfl,ws.map (inW L),.inl (.inl ?_),?_⟩
   ·rw[Ae,List.map_map,List.map_map];rfl
   ·have:=k _ (Same.new hD (o:=.lst ((ws.map V.int).map fun x=>match x with | .int n=>.bl (inW L n)|_=>.non)))
    simpa [isW,List.all_map] using this
def WX (K:PySem.W.Frag)(BW:Addr):Sp:=fun vs H Q E=>∃(L:Int) (a:Addr) (ws:List Int),vs=[.int L,.ref a]/\SqT K H a (ws.map V.int)/\ws.length<=1000/\(isW L ws=true->∀H',Same H H'->Q .non H')/\(isW L ws=false->∀H',Same H H'->E (.ref BW) none H')
theorem WY   (F:Fun K "check_word" "check_word" D0 f fd)(T:Txt mg)
  (W:Own K mg C_j7 C_j9 C_jj C_ja C_j1 C_j4)
  (Z:Exs K mg C_j8 C_j5 C_j6 C_j3 C_j2 C_j0)
   (Tj:FnOk P w K mg base CX0 1 JJ Wc ["letters","word"] (Wb K)) (Lz:Fun K "is_word" "is_word" Iv JJ Wc) (Tn:Binds K Wc ["letters","word"] []) (To:mg "is_word"=some (.ref JJ))
  : FnOk P w K mg base (CXe P w) 2 f fd ["letters","word"] (WX K C_j5):=by
 refine F.okE WL (fun vs H Q E h=>?_) (fun cdv A outer s H vs Q E hr h=>?_)
 ·obtain⟨L,a,ws,rfl,_⟩:=h;rfl
 ·obtain⟨L,a,ws,rfl,hw,hz,k,kE⟩:=h
  have hl:=Ao
  refine⟨_,(Ac (Cu (DS_ (ptB (NB (Aj Tj (hr.mono (by decide)) rfl To Lz.kp Tn .nil Ax (Aa (pvD 0) (Aa (pvD 1) Af))))))
   (Ac (M4 Z.m_j5 Z.x_j5 rfl rfl (Aa Bm Af)))
   AQ)),?_⟩
  walk_at "rd"
  refine⟨L,a,ws,rfl,hw,hz,fun H' s'=>?_⟩
  walk_at "rd"
  cases hv:isW L ws with
  |true=>
   simp only[Bool.not_true,Bool.false_eq_true,if_false]
   exact k hv H' s'
  |false=>
   simp only[Bool.not_false,if_true]
   exact⟨by omega,kE hv H' s'⟩
def We:Sp:=fun vs H Q _=>∃n:Int,vs=[.int n]/\Q (.bl (decide (0<=n)&&decide (n<=1000000000))) H
theorem Dm_   (F:Fun K "is_mark" "is_mark" Iw f fd)(T:Txt mg)
  (W:Own K mg C_j7 C_j9 C_jj C_ja C_j1 C_j4)
  (Z:Exs K mg C_j8 C_j5 C_j6 C_j3 C_j2 C_j0)
  : FnOk P w K mg base CX0 1 f fd ["number"] (We):=by
 refine F.ok Dk_ (fun vs H Q E h=>?_) (fun cdv A outer s H vs Q E hr h=>?_)
 ·obtain⟨n,rfl,_⟩:=h;rfl
 ·obtain⟨n,rfl,k⟩:=h
  refine⟨_,(Ac (Ar (Cl_ If_ If_ Ai (pvD 0) (KK_ rfl W.q_j28)))),?_⟩
  walk_at "rd"
  by_cases h0:0<=n
  ·simp only[h0,if_true]
   simpa [h0] using k
  ·simp only[h0,if_false]
   simpa [h0] using k
def NC (BM:Addr):Sp:=fun vs H Q E=>∃n:Int,vs=[.int n]/\(0<=n->n<=1000000000->Q .non H)/\(¬ (0<=n/\n<=1000000000)->E (.ref BM) none H)
theorem WZ   (F:Fun K "check_mark" "check_mark" EI f fd)(T:Txt mg)
  (W:Own K mg C_j7 C_j9 C_jj C_ja C_j1 C_j4)
  (Z:Exs K mg C_j8 C_j5 C_j6 C_j3 C_j2 C_j0)
   (Tp:FnOk P w K mg base CX0 1 JK Wg ["number"] (We)) (LA:Fun K "is_mark" "is_mark" Iw JK Wg) (Tq:Binds K Wg ["number"] []) (Tr:mg "is_mark"=some (.ref JK))
  : FnOk P w K mg base (CXe P w) 2 f fd ["mark"] (NC C_j6):=by
 refine F.okE WM (fun vs H Q E h=>?_) (fun cdv A outer s H vs Q E hr h=>?_)
 ·obtain⟨n,rfl,_⟩:=h;rfl
 ·obtain⟨n,rfl,k,kE⟩:=h
  refine⟨_,(Ac (Cu (DS_ (ptB (NB (Aj Tp (hr.mono (by decide)) rfl Tr LA.kp Tq .nil Ax (Aa (pvD 0) Af)))))
   (Ac (M4 Z.m_j6 Z.x_j6 rfl rfl (Aa Bm Af)))
   AQ)),?_⟩
  walk_at "rd"
  refine⟨n,rfl,?_⟩
  walk_at "rd"
  by_cases h0:0<=n/\n<=1000000000
  ·rw[if_neg (by simp[h0.1,h0.2])]
   exact k h0.1 h0.2
  ·rw[if_pos (by simp only[Bool.not_eq_true',Bool.and_eq_false_iff,decide_eq_false_iff_not];omega)]
   exact⟨by have:=Ao;omega,kE h0⟩
def Ts (K:PySem.W.Frag)(BW:Addr):Sp:=fun vs H Q E=>∃(h a m wv:Addr) (L:Int) (marks:List Int) (ways:List (List Int)) (ws:List Int),vs=[.ref h,.ref a]/\SqT K H h [.int L,.ref m,.ref wv]/\Rows K H wv ways/\Wf L marks ways/\SqT K H a (ws.map V.int)/\ws.length<=600/\(isW L ws=true->∀p H',Same H H'->H p=none->H' p=some (.lst ((S5 ways ws).map V.int))->Q (.ref p) H')/\(isW L ws=false->∀H',Same H H'->E (.ref BW) none H')
theorem Gu_   (F:Fun K "trail" "trail" Ls f fd)(T:Txt mg)
  (W:Own K mg C_j7 C_j9 C_jj C_ja C_j1 C_j4)
  (Z:Exs K mg C_j8 C_j5 C_j6 C_j3 C_j2 C_j0)
   (F9:FnOk P w K mg base (CXe P w) 2 Dn Gv ["letters","word"] (WX K C_j5)) (D4:Fun K "check_word" "check_word" D0 Dn Gv) (Ga:Binds K Gv ["letters","word"] []) (Gb:mg "check_word"=some (.ref Dn))
  : FnOk P w K mg base (CXe P w) 3 f fd ["house","word"] (Ts K C_j5):=by
 refine F.okE SE (fun vs H Q E h=>?_) (fun cdv A outer s H vs Q E hr h=>?_)
 ·obtain⟨h,a,m,wv,L,marks,ways,ws,rfl,_⟩:=h;rfl
 ·obtain⟨h,a,m,wv,L,marks,ways,ws,rfl,h1,h3,wf,hw,hz,k,kE⟩:=h
  have hl:=Ao
  refine⟨_,(Ad (A9 (Aj F9 (hr.mono (by decide)) rfl Gb D4.kp Ga .nil (JE fun _ _ _ h=>h) (Aa (BF (ixTD CY) (pvD 0) Ai) (Aa (pvD 1) Af))))
   (PSs.nox (Ad (AB (i:=2) SE.nd (BF (ixTD CY) (pvD 0) Ai))
   (Ad (AB (i:=3) SE.nd (Rq (Aa Ai Af)))
   (Ad (Hm PassesOwn.never rfl (DV_ (pvD 1)) (B3 (i:=4) SE.nd rfl (Or.inl rfl))
   (Ac (A9 (Da_ PySem.F.plainAttrs_list PySem.F.slot_list_append PySem.F.type_list_append Ll (pvD 3) (Aa (BF (ixTD CY) (BF (ixTD CY) (pvD 2) (BF (ixLD Jk) (pvD 3) (AL_ SN Ai))) (pvD 4)) Af)))))
   (Ac (Ar (pvD 3)))))))),?_⟩
  walk_at "rd"
  refine⟨_,h1,_,rfl,L,a,ws,rfl,hw,by omega,fun hv H1 s1=>?_,kE⟩
  walk_at "rd"
  have hw1:=s1.seqT hw
  have h3':=h3.mono s1
  refine⟨_,s1.seqT h1,_,rfl,by omega,fun p hp=>?_⟩
  have s2:=Same.new hp (o:=.lst [V.int 0])
  refine⟨⟨_,s2.seqT hw1⟩,forT (xs:=ws.map V.int) (fun i σ2 H2=>Same H1 H2/\H2 p=some (.lst (((List.range (i+1)).map fun j=>Fp ways (ws.take j)).map V.int))/\∃o,σ2=[some (.ref h),some (.ref a),some (.ref wv),some (.ref p),o]) ⟨s2,by rw[Ae];simp[Fp],none,rfl⟩ (fun i σ2 H2 _ h=>h.1.seqT hw1) (fun i x σ2 H2 hx h=>?_) (fun σ2 H2 h=>?_)⟩
  ·obtain⟨s3,hp3,o,rfl⟩:=h
   obtain⟨n,hn,rfl⟩:=Sx hx
   have hi:=(List.getElem?_eq_some_iff.mp hn).1
   have hx:=Cg.mp hv n (List.mem_of_getElem? hn)
   have hwk:=wf.walk hv i
   obtain⟨row,g,r1,r2,r3,r4,r5⟩:=wf.step hwk.1 hwk.2 hx.1 hx.2
   obtain⟨xs,t,q1,q2,q3⟩:=(h3'.mono s3).atZ hwk.1 r1
   walk_at "rd"
   refine⟨.inl ⟨rfl,_,SqL.of hp3⟩,_,SqL.of hp3,_,AT_ (v:=V.int (Fp ways (ws.take i))) (by simp),?_⟩
   walk_at "rd"
   refine⟨_,q1,_,q2,?_⟩
   walk_at "rd"
   refine⟨_,q3,_,S6 hx.1 r2,_,hp3,by simp;omega,s3.over hp,?_,_,rfl⟩
   rw[Ae,show List.range (i+1+1)=List.range (i+1)++[i+1] from List.range_succ,List.map_append,List.map_append,<-r3,<-M5 hn]
   rfl
  ·obtain⟨s3,hp3,o,rfl⟩:=h
   walk_at "rd"
   rw[List.length_map]at hp3
   exact k hv p H2 (s1.trans s3) (s1.free hp) hp3
def Vc (K:PySem.W.Frag)(H:Hp)(h:Addr)(L:Int)(says ways:List (List Int)):Prop:=∃m wv:Addr,SqT K H h [.int L,.ref m,.ref wv]/\Rows K H m says/\Rows K H wv ways
theorem Vc.mono {K:PySem.W.Frag}     (x:Vc K H h L says ways)(e:Same H H'):Vc K H' h L says ways:=by
 obtain⟨m,wv,h1,h2,h3⟩:=x
 exact⟨m,wv,e.seqT h1,h2.mono e,h3.mono e⟩
structure WfS (L:Int)(says ways:List (List Int)):Prop where
 wf:Wf L (List.replicate says.length 0) ways
 sr:∀row∈says,(row.length:Int)=L
def sayW (says ways:List (List Int))(ws:List Int):List Int:=(List.range ws.length).map fun j=>KD says (Fp ways (ws.take j)) (ws.getD j 0)
theorem IC (says ways:List (List Int))(ws:List Int):(sayW says ways ws).length=ws.length:=by unfold sayW;rw[List.length_map,List.length_range]
theorem WfS.at {L:Int}{says ways:List (List Int)}(h:WfS L says ways){r x:Int}(r0:0<=r)(r1:r<says.length)(x0:0<=x)(x1:x<L):∃row,says[r.toNat]?=some row/\row[x.toNat]?=some (KD says r x):=by
 have hr:r.toNat<says.length:=by omega
 refine⟨says[r.toNat],by simp[hr],?_⟩
 have hl:=h.sr _ (List.getElem_mem hr)
 have hx:x.toNat<(says[r.toNat]).length:=by omega
 have e:says.getD r.toNat []=says[r.toNat]:=by rw[List.getD_eq_getElem?_getD,List.getElem?_eq_getElem hr];rfl
 unfold KD
 rw[e,List.getD_eq_getElem?_getD,List.getElem?_eq_getElem hx];rfl
theorem WfS.walk   (h:WfS L says ways)  (hw:isW L ws=true)(i:Nat):0<=Fp ways (ws.take i)/\Fp ways (ws.take i)<says.length:=by
 have:=h.wf.walk hw i
 rw[List.length_replicate]at this
 exact this
def Fj_ (K:PySem.W.Frag)(BW:Addr):Sp:=fun vs H Q E=>∃(h a:Addr) (L:Int) (says ways:List (List Int)) (ws:List Int),vs=[.ref h,.ref a]/\Vc K H h L says ways/\WfS L says ways/\SqT K H a (ws.map V.int)/\ws.length<=600/\(isW L ws=true->∀p H',Same H H'->H' p=some (.lst ((sayW says ways ws).map V.int))->Q (.ref p) H')/\(isW L ws=false->∀H',Same H H'->E (.ref BW) none H')
theorem IO_   (F:Fun K "said" "said" Ta f fd)(T:Txt mg)
  (W:Own K mg C_j7 C_j9 C_jj C_ja C_j1 C_j4)
  (Z:Exs K mg C_j8 C_j5 C_j6 C_j3 C_j2 C_j0)
   (Qc:FnOk P w K mg base (CXe P w) 3 J8 OM ["house","word"] (Ts K C_j5)) (LB:Fun K "trail" "trail" Ls J8 OM) (Qd:Binds K OM ["house","word"] []) (Qe:mg "trail"=some (.ref J8))
  : FnOk P w K mg base (CXe P w) 4 f fd ["house","word"] (Fj_ K C_j5):=by
 refine F.okE IN_ (fun vs H Q E h=>?_) (fun cdv A outer s H vs Q E hr h=>?_)
 ·obtain⟨h,a,L,says,ways,ws,rfl,_⟩:=h;rfl
 ·obtain⟨h,a,L,says,ways,ws,rfl,hh,wf,hw,hz,k,kE⟩:=h
  have hl:=Ao
  refine⟨_,(Ac (Ar (Lo rfl (OG rfl) (cp:=Cy_) ⟨⟨rfl,rfl⟩,True.intro⟩ (IA_ rfl T.zip (Aa (Aj Qc (hr.mono (by decide)) rfl Qe LB.kp Qd .nil (JE fun _ _ _ h=>h) (Aa (pvD 0) (Aa (pvD 1) Af))) (Aa (pvD 1) Af))) (fun _ _ _ _=>(IB_ (K:=K) (n:=2) rfl rfl (MY (B3 (i:=0) Tg rfl (Or.inl rfl)) (MY (B3 (i:=1) Tg rfl (Or.inl rfl)) AK_)))) (fun _ _ _ _=>OF) (fun _ _ _ _=>(BF (ixTD (WE (K:=K) rfl)) (BF (ixTD (WE (K:=K) rfl)) (BF (ixTD (WE (K:=K) rfl)) (pvD 2) Ai) (pvD 0)) (pvD 1)))))),?_⟩
  walk_at "rd"
  obtain⟨m,wv,h1,h2,h3⟩:=id hh
  refine⟨h,a,m,wv,L,_,ways,ws,rfl,h1,h3,wf.wf,hw,hz,fun hv p H1 s1 hp hp1=>?_,kE⟩
  refine⟨p,rfl,_,_,false,SqL.of hp1,true,s1.seqT hw,?_⟩
  have htl:(S5 ways ws).length=ws.length+1:=WG ways ws
  obtain⟨Pv,hPv⟩:∃Pv:Nat->List V->St->Hp->Prop,∀i zs σ2 H2,Pv i zs σ2 H2↔(Same H1 H2/\zs=((List.range i).map fun j=>KD says (Fp ways (ws.take j)) (ws.getD j 0)).map V.int/\∃o1 o2,σ2=[o1,o2,some (.ref h)]):=⟨_,fun _ _ _ _=>Iff.rfl⟩
  refine Ke_ ws.length (by rw[List.length_map];omega) (by rw[List.length_map];omega) (by rw[List.length_map,List.length_map];exact .inr rfl) Pv ((hPv _ _ _ _).mpr ⟨Same.refl _,rfl,none,none,rfl⟩) (by omega) (fun i zs σ2 H2 hi h2=>?_) (fun i u v zs σ2 H2 t hi hu hv' h2 ht=>?_) (fun zs σ2 H2 h2 D hD=>?_)
  ·obtain⟨s2,rfl,_⟩:=(hPv _ _ _ _).mp h2
   exact⟨SqL.of (s2 _ _ hp1),(s1.trans s2).seqT hw,by rw[List.length_map,List.length_map,List.length_range];exact Nat.le_refl _⟩
  ·obtain⟨s2,rfl,o1,o2,rfl⟩:=(hPv _ _ _ _).mp h2
   obtain⟨rm,hrm,rfl⟩:=Sx hu
   obtain⟨n,hn,rfl⟩:=Sx hv'
   have erm:rm=Fp ways (ws.take i):=by
    unfold S5 at hrm
    rw[List.getElem?_map,List.getElem?_range (by omega)]at hrm
    exact (Option.some.inj hrm).symm
   subst erm
   have hx:=Cg.mp hv n (List.mem_of_getElem? hn)
   have hwk:=wf.walk hv i
   obtain⟨srow,r1,r2⟩:=wf.at hwk.1 hwk.2 hx.1 hx.2
   have st:=s2.newT ht (o:=.tup [V.int (Fp ways (ws.take i)),V.int n])
   obtain⟨m',wv',k1,k2,k3⟩:=hh.mono (s1.trans st)
   obtain⟨xs,t',q1,q2,q3⟩:=k2.atZ hwk.1 r1
   walk_at "rd"
   refine⟨_,SqT.of Ae,rfl,_,_,rfl,_,_,rfl,rfl,_,k1,_,rfl,?_⟩
   walk_at "rd"
   refine⟨_,q1,_,q2,t',rfl,_,q3,_,S6 hx.1 r2,(hPv _ _ _ _).mpr ⟨st,?_,_,_,rfl⟩⟩
   rw[List.range_succ,List.map_append,List.map_append,List.map_singleton,List.map_singleton,show ws.getD i 0=n from by rw[List.getD_eq_getElem?_getD,hn];rfl]
  ·obtain⟨s2,rfl,_⟩:=(hPv _ _ _ _).mp h2
   exact k hv D _ ((s1.trans s2).newT hD) Ae
def LC (K:PySem.W.Frag)(BW:Addr):Sp:=fun vs H Q E=>∃(a:Addr) (ws:List Int),vs=[.ref a]/\SqT K H a (ws.map V.int)/\(ws ≠ []->Q .non H)/\(ws=[]->E (.ref BW) none H)
theorem ON   (F:Fun K "check_not_empty" "check_not_empty" BS f fd)(T:Txt mg)
  (W:Own K mg C_j7 C_j9 C_jj C_ja C_j1 C_j4)
  (Z:Exs K mg C_j8 C_j5 C_j6 C_j3 C_j2 C_j0)
  : FnOk P w K mg base (CXe P w) 1 f fd ["word"] (LC K C_j5):=by
 refine F.okE OI (fun vs H Q E h=>?_) (fun cdv A outer s H vs Q E hr h=>?_)
 ·obtain⟨a,ws,rfl,_⟩:=h;rfl
 ·obtain⟨a,ws,rfl,hw,k,kE⟩:=h
  have hl:=Ao
  refine⟨_,(Ac (Cu (ptT (Ay (opE NU) (C3 (lenD Dk) (by rfl) T.len PySem.boot_len (Aa (pvD 0) Af)) Ai (Bg _)))
   (Ac (M4 Z.m_j5 Z.x_j5 rfl rfl (Aa Bm Af)))
   AQ)),?_⟩
  walk_at "rd"
  refine⟨_,.inr hw,?_⟩
  rw[List.length_map]
  refine ite2 (fun e=>⟨by omega,kE (List.eq_nil_of_length_eq_zero (by simpa using e))⟩) (fun e=>k fun z=>e (by rw[z];rfl))
def IY (K:PySem.W.Frag)(BW:Addr):Sp:=fun vs H Q E=>∃(h a:Addr) (L:Int) (says ways:List (List Int)) (ws:List Int),vs=[.ref h,.ref a]/\Vc K H h L says ways/\WfS L says ways/\SqT K H a (ws.map V.int)/\ws.length<=600/\(isW L ws=true->ws ≠ []->∀H' x,Same H H'->(sayW says ways ws)[ws.length-1]?=some x->Q (.int x) H')/\(isW L ws=false\/ws=[]->∀H',Same H H'->E (.ref BW) none H')
theorem Y7   (F:Fun K "last_said" "last_said" Ef f fd)(T:Txt mg)
  (W:Own K mg C_j7 C_j9 C_jj C_ja C_j1 C_j4)
  (Z:Exs K mg C_j8 C_j5 C_j6 C_j3 C_j2 C_j0)
   (CN:FnOk P w K mg base (CXe P w) 1 Bz Dp ["word"] (LC K C_j5)) (BX:Fun K "check_not_empty" "check_not_empty" BS Bz Dp) (CP:Binds K Dp ["word"] []) (CQ:mg "check_not_empty"=some (.ref Bz))
   (Fk_:FnOk P w K mg base (CXe P w) 4 Wi Fl_ ["house","word"] (Fj_ K C_j5)) (Y8:Fun K "said" "said" Ta Wi Fl_) (Fm_:Binds K Fl_ ["house","word"] []) (Fn_:mg "said"=some (.ref Wi))
  : FnOk P w K mg base (CXe P w) 5 f fd ["house","word"] (IY K C_j5):=by
 refine F.okE Y2 (fun vs H Q E h=>?_) (fun cdv A outer s H vs Q E hr h=>?_)
 ·obtain⟨h,a,L,says,ways,ws,rfl,_⟩:=h;rfl
 ·obtain⟨h,a,L,says,ways,ws,rfl,hh,wf,hw,hz,k,kE⟩:=h
  refine⟨_,(Ad (A9 (Aj CN (hr.mono (by decide)) rfl CQ BX.kp CP .nil (JE fun _ _ _ h=>h) (Aa (pvD 1) Af)))
   (Ac (Ar (BF (ixLD Jk) (Aj Fk_ (hr.mono (by decide)) rfl Fn_ Y8.kp Fm_ .nil (JE fun _ _ _ h=>h) (Aa (pvD 0) (Aa (pvD 1) Af))) (AL_ SN Ai))))),?_⟩
  walk_at "rd"
  refine⟨a,ws,rfl,hw,fun hne=>?_,fun e=>kE (.inr e) _ (Same.refl _)⟩
  walk_at "rd"
  refine⟨h,a,L,says,ways,ws,rfl,hh,wf,hw,hz,fun hv p H1 s1 hp1=>?_,fun hv H1 s1=>kE (.inl hv) _ s1⟩
  walk_at "rd"
  have hlt:ws.length-1<(sayW says ways ws).length:=by
   rw[IC]
   have:=List.length_pos_iff.mpr hne
   omega
  have hx:(sayW says ways ws)[ws.length-1]?=some ((sayW says ways ws)[ws.length-1]):=by simp[hlt]
  refine⟨_,SqL.of hp1,_,AT_ (v:=V.int ((sayW says ways ws)[ws.length-1])) ?_,k hv hne _ _ s1 hx⟩
  rw[List.length_map,IC,List.getElem?_map,hx];rfl
def Rx (C:Addr):Sp:=fun vs H Q _=>∃(p dx:Addr) (L:Int),vs=[.ref p,.int L]/\H p=some (.ins C dx [])/\∀(d:Addr) (H':Hp),H d=none->BookAt C H' p d L []->(∀b o,H b=some o->b≠p->H' b=some o)->Q .non H'
theorem Y9   (F:Fun K "__init__" "Book.__init__" FQ f fd)(T:Txt mg)
  (W:Own K mg C_j7 C_j9 C_jj C_ja C_j1 C_j4)
  (Z:Exs K mg C_j8 C_j5 C_j6 C_j3 C_j2 C_j0)
  : FnOk P w K mg base CX0 1 f fd ["self","letters"] (Rx C_j7):=by
 refine F.ok Y3 (fun vs H Q E h=>?_) (fun cdv A outer s H vs Q E hr h=>?_)
 ·obtain⟨p,dx,L,rfl,_⟩:=h;rfl
 ·obtain⟨p,dx,L,rfl,hp,k⟩:=h
  refine⟨_,(Ad (F4 (pvD 0) (pvD 1) rfl)
   (Ac (F4 (pvD 0) M3 rfl))),?_⟩
  walk_at "rd"
  refine⟨_,_,_,hp,W.cl_j7,W.n_Book_letters,by decide,fun d hd=>?_⟩
  have hdp:d≠p:=fun z=>by rw[z,Ae]at hd;cases hd
  rw[Ah hdp]at hd
  refine⟨_,_,_,by rw[Ah (Ne.symm hdp)];exact Ae,W.cl_j7,W.n_Book_marks,by simp[putF],?_⟩
  refine k d _ hd ⟨⟨_,Ae⟩,by rw[Ah hdp];exact Ae,by simp⟩ fun b o hb hbp=>?_
  rw[Ah hbp,Ah (B8 hb hd),Ah hbp]
  exact hb
def Jn (C BW BM:Addr):Sp:=fun vs H Q E=>∃(p d t:Addr) (L m:Int) (w:List Int) (es:List (List Int×Int)),vs=[.ref p,.ref t,.int m]/\BookAt C H p d L es/\H t=some (.tup (w.map V.int))/\w.length<=900 /\
 (isW L w=false->∀H',Same H H'->E (.ref BW) none H') /\
 (isW L w=true->¬ (0<=m/\m<=1000000000)->∀H',Same H H'->E (.ref BM) none H') /\
 (isW L w=true->0<=m->m<=1000000000->∀H',Same H H'->Q .non H')
theorem W0   (F:Fun K "check" "Book.check" D1 f fd)(T:Txt mg)
  (W:Own K mg C_j7 C_j9 C_jj C_ja C_j1 C_j4)
  (Z:Exs K mg C_j8 C_j5 C_j6 C_j3 C_j2 C_j0)
   (F9:FnOk P w K mg base (CXe P w) 2 Dn Gv ["letters","word"] (WX K C_j5)) (D4:Fun K "check_word" "check_word" D0 Dn Gv) (Ga:Binds K Gv ["letters","word"] []) (Gb:mg "check_word"=some (.ref Dn))
   (LD:FnOk P w K mg base (CXe P w) 2 Gd OO ["mark"] (NC C_j6)) (Hr:Fun K "check_mark" "check_mark" EI Gd OO) (LF:Binds K OO ["mark"] []) (LG:mg "check_mark"=some (.ref Gd))
  : FnOk P w K mg base (CXe P w) 3 f fd ["self","word","mark"] (Jn C_j7 C_j5 C_j6):=by
 refine F.okE WN (fun vs H Q E h=>?_) (fun cdv A outer s H vs Q E hr h=>?_)
 ·obtain⟨p,d,t,L,m,wd,es,rfl,_⟩:=h;rfl
 ·obtain⟨p,d,t,L,m,wd,es,rfl,B,ht,hwl,kW,kM,k⟩:=h
  have hln:=Ao
  refine⟨_,(Ad (A9 (Aj F9 (hr.mono (by decide)) rfl Gb D4.kp Ga .nil (JE fun _ _ _ h=>h) (Aa (AO (pvD 0) rfl) (Aa (pvD 1) Af))))
   (Ac (A9 (Aj LD (hr.mono (by decide)) rfl LG Hr.kp LF .nil (JE fun _ _ _ h=>h) (Aa (pvD 2) Af))))),?_⟩
  obtain⟨⟨dx,hp⟩,hd,nd⟩:=id B
  walk_at "rd"
  refine⟨_,_,_,hp,W.cl_j7,W.n_Book_letters,_,WI _ _,?_⟩
  refine⟨L,t,wd,rfl,SqT.of ht,by omega,fun hw H1 s1=>?_,fun hw H1 s1=>kW hw H1 s1⟩
  walk_at "rd"
  exact⟨m,rfl,fun h0 h1=>k hw h0 h1 _ s1,fun hm=>kM hw hm H1 s1⟩
def putE (es:List (List Int×Int))(v:List Int)(m:Int):List (List Int×Int):=if v∈es.map (·.1) then es else es++[(v,m)]
theorem Dn_    (nd:(es.map (·.1)).Nodup)(h:(v,m)∈es):putK (ents es) (wkey v) (.int m)=ents es:=by
 unfold putK
 rw[J3,IX nd h,if_pos (by simp)]
 unfold ents
 rw[List.map_map]
 refine List.map_congr_left fun e he=>?_
 show (if wkey e.1=wkey v then (wkey e.1,V.int m) else (wkey e.1,V.int e.2))=(wkey e.1,V.int e.2)
 split
 ·rename_i z
  have e1:e.1=v:=SD z
  have h1:=IX nd (show (e.1,e.2)∈es from he)
  rw[e1,IX nd h]at h1
  rw[Option.some.inj h1]
 ·rfl
def LH (C BW BM CO:Addr):Sp:=fun vs H Q E=>∃(p d t:Addr) (L m:Int) (w:List Int) (es:List (List Int×Int)),vs=[.ref p,.ref t,.int m]/\BookAt C H p d L es/\H t=some (.tup (w.map V.int))/\w.length<=900/\es.length<=100000 /\
 (isW L w=false->∀H',Same H H'->E (.ref BW) none H') /\
 (isW L w=true->¬ (0<=m/\m<=1000000000)->∀H',Same H H'->E (.ref BM) none H') /\
 (isW L w=true->0<=m->m<=1000000000->∀n,(w,n)∈es->n≠m->∀H',Same H H'->E (.ref CO) none H') /\
 (isW L w=true->0<=m->m<=1000000000->(∀n,(w,n)∈es->n=m)->∀H',BookAt C H' p d L (putE es w m)->(∀b o,H b=some o->b≠d->H' b=some o)->Q .non H')
theorem Be_   (F:Fun K "put" "Book.put" F7 f fd)(T:Txt mg)
  (W:Own K mg C_j7 C_j9 C_jj C_ja C_j1 C_j4)
  (Z:Exs K mg C_j8 C_j5 C_j6 C_j3 C_j2 C_j0)
   (Ge:FnOk P w K mg base (CXe P w) 3 Cp Gw ["self","word","mark"] (Jn C_j7 C_j5 C_j6)) (Gf:Fun K "check" "Book.check" D1 Cp Gw) (Gg:Binds K Gw ["self","word","mark"] []) (Gh:Meth K C_j7 "check" Cp)
  : FnOk P w K mg base (CXe P w) 4 f fd ["self","word","mark"] (LH C_j7 C_j5 C_j6 C_j0):=by
 refine F.okE Bb_ (fun vs H Q E h=>?_) (fun cdv A outer s H vs Q E hr h=>?_)
 ·obtain⟨p,d,t,L,m,w,es,rfl,_⟩:=h;rfl
 ·obtain⟨p,d,t,L,m,wd,es,rfl,B,ht,hwl,hl,kW,kM,kC,k⟩:=h
  have hln:=Ao
  refine⟨_,(Ad (A9 (DE (pvD 0) W.cl_j7 Gh Ge (hr.mono (by decide)) Gg .nil (JE fun _ _ _ h=>h) (Aa (pvD 1) (Aa (pvD 2) Af))))
   (Ad (Cu (ptT (Ay (opN IW) (Ga_ (NV hr) (AO (pvD 0) rfl) (pvD 1) (pvD 2) ⟨by rfl,by rfl,by rfl,by rfl⟩) (pvD 2) (Bg _)))
   (Ac (M4 Z.m_j0 Z.x_j0 rfl rfl (Aa Bm Af)))
   AQ)
   (Ac (NW (NV hr) (AO (pvD 0) rfl) (pvD 1) (pvD 2) rfl)))),?_⟩
  obtain⟨⟨dx,hp⟩,hd,nd⟩:=id B
  walk_at "rd"
  refine⟨_,_,hp,Hf _ _ (by decide +kernel) (by decide +kernel),p,d,t,L,m,wd,es,rfl,B,ht,hwl,fun hw H1 s1=>kW hw H1 s1,fun hw hm H1 s1=>kM hw hm H1 s1,fun hw h0 h1 H1 s1=>?_⟩
  have hp1:=s1 _ _ hp
  have hd1:=s1 _ _ hd
  have ht1:H1 t=some (.tup ((wkey wd).map kV)):=by rw[EF];exact s1 _ _ ht
  have hel:(ents es).length=es.length:=by unfold ents;rw[List.length_map]
  have hpd:p≠d:=fun z=>by rw[z,hd1]at hp1;cases hp1
  have hg:=DGet.t hd1 ht1
  walk_at "rd"
  by_cases hn:wd∈es.map (·.1)
  ·obtain⟨e,he,rfl⟩:=List.mem_map.mp hn
   have hv:=IX nd (show (e.1,e.2)∈es from he)
   rw[hv]at hg
   refine⟨_,_,_,hp1,W.cl_j7,W.n_Book_marks,_,GU _ _,d,rfl,.inr ⟨_,.inl hd1⟩,_,hg,rfl,?_⟩
   by_cases hm:e.2=m
   ·rw[if_neg (by simp[hm])]
    refine⟨_,_,_,hp1,W.cl_j7,W.n_Book_marks,_,GU _ _,d,rfl,_,DPut.t hd1 ht1 (by omega),?_⟩
    rw[Dn_ nd (show (e.1,m)∈es from hm ▸ he)]
    refine k hw h0 h1 (fun n hn'=>?_) _ ⟨⟨dx,by rw[Ah hpd];exact hp1⟩,by unfold putE;rw[if_pos hn];exact Ae,by unfold putE;rw[if_pos hn];exact nd⟩ fun b o hb hbd=>by rw[Ah hbd];exact s1 _ _ hb
    have h2:=IX nd hn'
    rw[hv]at h2
    have h3:=Option.some.inj h2
    simp at h3
    omega
   ·rw[if_pos (by simp[hm])]
    exact⟨by omega,kC hw h0 h1 e.2 he hm H1 s1⟩
  ·rw[S9 hn]at hg
   refine⟨_,_,_,hp1,W.cl_j7,W.n_Book_marks,_,GU _ _,d,rfl,.inr ⟨_,.inl hd1⟩,_,hg,rfl,?_⟩
   rw[if_neg (by simp)]
   refine⟨_,_,_,hp1,W.cl_j7,W.n_Book_marks,_,GU _ _,d,rfl,_,DPut.t hd1 ht1 (by omega),?_⟩
   rw[Cw_ hn]
   refine k hw h0 h1 (fun n hn'=>absurd (List.mem_map.mpr ⟨_,hn',rfl⟩) hn) _ ⟨⟨dx,by rw[Ah hpd];exact hp1⟩,by unfold putE;rw[if_neg hn];exact Ae,?_⟩ fun b o hb hbd=>by rw[Ah hbd];exact s1 _ _ hb
   unfold putE
   rw[if_neg hn,List.map_append,List.nodup_append]
   refine⟨nd,by simp,fun a ha b hb z=>?_⟩
   rw[List.map_singleton,List.mem_singleton]at hb
   exact hn (by have e:a=wd:=z.trans hb;rw[<-e];exact ha)
def IZ (C:Addr):Sp:=fun vs H Q _=>∃(p d t:Addr) (L:Int) (w:List Int) (es:List (List Int×Int)),vs=[.ref p,.ref t]/\BookAt C H p d L es/\H t=some (.tup (w.map V.int))/\(w∉es.map (·.1)->Q .non H)/\∀m,(w,m)∈es->Q (.int m) H
theorem Za   (F:Fun K "told" "Book.told" Ee f fd)(T:Txt mg)
  (W:Own K mg C_j7 C_j9 C_jj C_ja C_j1 C_j4)
  (Z:Exs K mg C_j8 C_j5 C_j6 C_j3 C_j2 C_j0)
  : FnOk P w K mg base CX0 1 f fd ["self","word"] (IZ C_j7):=by
 refine F.ok Y1 (fun vs H Q E h=>?_) (fun cdv A outer s H vs Q E hr h=>?_)
 ·obtain⟨p,d,t,L,wd,es,rfl,_⟩:=h;rfl
 ·obtain⟨p,d,t,L,wd,es,rfl,B,ht,kn,ks⟩:=h
  refine⟨_,(Ac (Ar (Cn_ (NV hr) (AO (pvD 0) rfl) (pvD 1) ⟨by rfl,by rfl,by rfl,by rfl⟩))),?_⟩
  obtain⟨⟨dx,hp⟩,hd,nd⟩:=id B
  have ht1:H t=some (.tup ((wkey wd).map kV)):=by rw[EF];exact ht
  walk_at "rd"
  refine⟨_,_,_,hp,W.cl_j7,W.n_Book_marks,_,GU _ _,d,rfl,.inr ⟨_,.inl hd⟩,_,DGet.t hd ht1,?_⟩
  by_cases hm:wd∈es.map (·.1)
  ·obtain⟨e,he,rfl⟩:=List.mem_map.mp hm
   rw[IX nd (show (e.1,e.2)∈es from he)]
   exact ks e.2 he
  ·rw[S9 hm]
   exact kn hm
def G1 (H:Hp)(rs:List V)(es:List (List Int×Int)):Prop:=rs.length=es.length/\∀(i:Nat) (tr:List Int×Int),es[i]?=some tr->∃t b,rs[i]?=some (V.ref t)/\H t=some (.tup [.ref b,.int tr.2])/\H b=some (.tup (tr.1.map V.int))
theorem G1.mono    (h:G1 H rs es)(k:∀b xs,H b=some (.tup xs)->H' b=some (.tup xs)):G1 H' rs es:=⟨h.1,fun i tr hi=>by
 obtain⟨t,b,e1,e2,e3⟩:=h.2 i tr hi
 exact⟨t,b,e1,k _ _ e2,k _ _ e3⟩⟩
def J9 (K:PySem.W.Frag)(C:Addr):Sp:=fun vs H Q _=>∃(p d:Addr) (L:Int) (es:List (List Int×Int)),vs=[.ref p]/\BookAt C H p d L es/\∀l rs H',Same H H'->H l=none->H' l=some (.lst rs)->G1 H' rs es->Q (.ref l) H'
theorem W2   (F:Fun K "heard" "Book.heard" D2 f fd)(T:Txt mg)
  (W:Own K mg C_j7 C_j9 C_jj C_ja C_j1 C_j4)
  (Z:Exs K mg C_j8 C_j5 C_j6 C_j3 C_j2 C_j0)
  : FnOk P w K mg base CX0 1 f fd ["self"] (J9 K C_j7):=by
 refine F.ok WO (fun vs H Q E h=>?_) (fun cdv A outer s H vs Q E hr h=>?_)
 ·obtain⟨p,d,L,es,rfl,_⟩:=h;rfl
 ·obtain⟨p,d,L,es,rfl,B,k⟩:=h
  refine⟨_,(Ac (Ar (EE (S8 rfl) rfl T.list PyProof.Rows.boot_list (Aa (Gl_ (AO (pvD 0) rfl)) Af)))),?_⟩
  obtain⟨⟨dx,hp⟩,hd,nd⟩:=id B
  walk_at "rd"
  refine⟨_,_,_,hp,W.cl_j7,W.n_Book_marks,_,GU _ _,d,rfl,_,.inl hd,fun v hv=>?_⟩
  have sv:=Same.new (o:=AW_ v d) hv
  refine⟨d,Ae,_,.inl (sv _ _ hd),fun l rs H2 s2 hl2 hlen hr=>?_⟩
  have s3:=sv.trans (s2.newT (o:=.lst rs) hl2)
  refine k l rs _ s3 (Same.none (sv.trans s2) hl2) Ae ⟨by rw[hlen];unfold ents;rw[List.length_map],fun i tr hi=>?_⟩
  obtain⟨t,e1,b,e2,e3⟩:=hr i (wkey tr.1) (.int tr.2) (by unfold ents;rw[List.getElem?_map,hi];rfl)
  rw[EF]at e3
  exact⟨t,b,e1,(Same.new hl2) _ _ e2,(s2.newT hl2) _ _ e3⟩
def Tt (K:PySem.W.Frag):Sp:=fun vs H Q _=>∃(L:Nat) (a:Addr) (xs:List V) (acc:List (List Int)),vs=[.int L,.ref a]/\L<=6/\SqL K H a xs/\As K H xs acc/\acc.length<=100/\(∀w∈acc,w.length<=100)/\∀l rs H',Same H H'->H l=none->H' l=some (.lst rs)->As K H' rs (CM L acc)->Q (.ref l) H'
theorem Do_   (F:Fun K "rows_of" "rows_of" Ho f fd)(T:Txt mg)
  (W:Own K mg C_j7 C_j9 C_jj C_ja C_j1 C_j4)
  (Z:Exs K mg C_j8 C_j5 C_j6 C_j3 C_j2 C_j0)
  : FnOk P w K mg base CX0 1 f fd ["letters","access"] (Tt K):=by
 refine F.ok JG (fun vs H Q E h=>?_) (fun cdv A outer s H vs Q E hr h=>?_)
 ·obtain⟨L,a,xs,acc,rfl,_⟩:=h;rfl
 ·obtain⟨L,a,xs,acc,rfl,hL,ha,hw,hal,hwl,k⟩:=h
  have hl:=Ao
  refine⟨_,(Ad (Rp (i:=2) JG.nd rfl (Or.inl rfl) M3)
   (Ad (Hm PassesOwn.never rfl (Gq (pvD 1)) (B3 (i:=3) JG.nd rfl (Or.inl rfl))
   (Ac (NW (NV hr) (pvD 2) (pvD 3) Jj rfl)))
   (Ad (Hm PassesOwn.never rfl (Gq (pvD 1)) (B3 (i:=3) JG.nd rfl (Or.inl rfl))
   (Ac (Hm PassesOwn.never rfl (Lj rfl T.range (Aa (pvD 0) Af)) (B3 (i:=4) JG.nd rfl (Or.inl rfl))
   (Ac (NW (NV hr) (pvD 2) (Bt J4 (pvD 3) (GJ (Aa (pvD 4) Af))) Jj rfl)))))
   (Ac (Ar (EE (Iu rfl) rfl T.list PyProof.Rows.boot_list (Aa (pvD 2) Af))))))),?_⟩
  walk_at "rd"
  intro p hp
  have sp:=Same.new (o:=.dT []) hp
  refine⟨⟨_,sp.seq ha⟩,?_⟩
  obtain⟨Pv,hPv⟩:∃Pv:Nat->St->Hp->Prop,∀i σ' H',Pv i σ' H'↔(∃(kvs:List (List Key×V)) (o:Option V),Same H H'/\H' p=some (.dT kvs)/\HK ((acc.take i).foldl ins []) kvs/\σ'=[some (.int L),some (.ref a),some (.ref p),o,none]):=⟨_,fun _ _ _=>Iff.rfl⟩
  refine forL (xs:=xs) Pv ((hPv _ _ _).mpr ⟨[],none,sp,Ae,by rw[List.take_zero];exact HK.nil,rfl⟩) (fun i σ' H' _ h'=>by obtain⟨_,_,s',_⟩:=(hPv _ _ _).mp h';exact s'.seq ha) (fun i x σ' H' hx h'=>?_) (fun σ' H' h'=>?_)
  ·obtain⟨kvs,o,s',hd,hk,rfl⟩:=(hPv _ _ _).mp h'
   obtain⟨t,w,hwi,rfl,ht⟩:=hw.at hx
   have hlen:kvs.length<=100:=by
    have:=C5 (acc.take i) []
    rw[hk.len];simp at this ⊢;omega
   walk_at "rd"
   refine⟨_,DPut.t (k:=wkey w) hd (by rw[EF];exact s' _ _ ht) (by omega),(hPv _ _ _).mpr ⟨_,_,s'.over hp,Ae,?_,rfl⟩⟩
   rw[List.take_add_one,hwi,Option.toList_some,List.foldl_append]
   exact hk.put w _
  ·obtain⟨kvs,o,s',hd,hk,rfl⟩:=(hPv _ _ _).mp h'
   rw[hw.1,List.take_length]at hk
   walk_at "rd"
   refine⟨⟨_,s'.seq ha⟩,?_⟩
   obtain⟨Pw,hPw⟩:∃Pv:Nat->St->Hp->Prop,∀i σ' H',Pv i σ' H'↔(∃(kvs:List (List Key×V)) (o o':Option V),Same H H'/\H' p=some (.dT kvs)/\HK (((acc.take i).flatMap (extW L)).foldl ins (acc.foldl ins [])) kvs/\σ'=[some (.int L),some (.ref a),some (.ref p),o,o']):=⟨_,fun _ _ _=>Iff.rfl⟩
   refine forL (xs:=xs) Pw ((hPw _ _ _).mpr ⟨kvs,_,_,s',hd,by rw[List.take_zero];exact hk,rfl⟩) (fun i σ' H' _ h'=>by obtain⟨_,_,_,s',_⟩:=(hPw _ _ _).mp h';exact s'.seq ha) (fun i x σ2 H2 hx h2=>?_) (fun σ2 H2 h2=>?_)
   ·obtain⟨kvs,o,o',s2,hd,hk,rfl⟩:=(hPw _ _ _).mp h2
    obtain⟨t,w,hwi,rfl,ht⟩:=hw.at hx
    have hwlen:=hwl w (List.mem_of_getElem? hwi)
    have ht2:=s2 _ _ ht
    walk_at "rd"
    refine⟨by omega,by omega,?_⟩
    rw[Int.toNat_natCast]
    obtain⟨Py,hPy⟩:∃Pv:Nat->St->Hp->Prop,∀j σ' H',Pv j σ' H'↔(∃(kvs:List (List Key×V)) (o':Option V),Same H H'/\H' p=some (.dT kvs)/\HK (((List.range j).map fun x:Nat=>w++[(x:Int)]).foldl ins (((acc.take i).flatMap (extW L)).foldl ins (acc.foldl ins []))) kvs/\σ'=[some (.int L),some (.ref a),some (.ref p),some (.ref t),o']):=⟨_,fun _ _ _=>Iff.rfl⟩
    refine forR Py ((hPy _ _ _).mpr ⟨kvs,_,s2,hd,hk,rfl⟩) (fun j σ3 H3 hj h3=>?_) (fun σ3 H3 h3=>?_)
    ·obtain⟨kvs,o',s3,hd,hk,rfl⟩:=(hPy _ _ _).mp h3
     have ej:(0:Int)+(j:Nat)=(j:Int):=by omega
     rw[ej]
     have ht3:=s3 _ _ ht
     have hlen:kvs.length<=10000:=by
      have h1:=C5 ((List.range j).map fun x:Nat=>w++[(x:Int)]) (((acc.take i).flatMap (extW L)).foldl ins (acc.foldl ins []))
      have h2:=C5 ((acc.take i).flatMap (extW L)) (acc.foldl ins [])
      have h3:=C5 acc []
      have h4:((acc.take i).flatMap (extW L)).length<=600:=by
       rw[List.length_flatMap]
       have:(acc.take i).map (fun a=>(extW L a).length)=(acc.take i).map (fun _=>L):=List.map_congr_left fun a _=>by simp[extW]
       rw[this,List.map_const',List.sum_replicate_nat]
       have:(acc.take i).length<=100:=by rw[List.length_take];omega
       exact Nat.le_trans (Nat.mul_le_mul this hL) (by omega)
      rw[hk.len]
      simp at h1 h3
      omega
     walk_at "rd"
     refine⟨by omega,fun p1 hp1=>?_⟩
     refine Kq.ofS (Same.new hp1 _ _ ht3) Ae (by simp;omega) fun q H4 s4 hq=>?_
     have s34:=(Same.new (o:=.tup [V.int (j:Int)]) hp1).trans s4
     have hq':H4 q=some (.tup ((wkey (w++[(j:Int)])).map kV)):=by rw[EF,hq];simp
     refine⟨_,DPut.t (k:=wkey (w++[(j:Int)])) (s34 _ _ hd) hq' (by omega),(hPy _ _ _).mpr ⟨_,_,(s3.trans s34).over hp,Ae,?_,rfl⟩⟩
     rw[List.range_succ,List.map_append,List.foldl_append]
     exact hk.put _ _
    ·obtain⟨kvs,o',s3,hd,hk,rfl⟩:=(hPy _ _ _).mp h3
     refine (hPw _ _ _).mpr ⟨kvs,_,_,s3,hd,?_,rfl⟩
     rw[List.take_add_one,hwi,Option.toList_some,List.flatMap_append,List.foldl_append]
     simpa [extW] using hk
   ·obtain⟨kvs,o,o',s2,hd,hk,rfl⟩:=(hPw _ _ _).mp h2
    rw[hw.1,List.take_length]at hk
    walk_at "rd"
    refine⟨kvs,.inl hd,fun l rs hln hrl hrs=>?_⟩
    exact k l rs _ (s2.newT hln) (Same.none s2 hln) Ae ((hk.words (K:=K) hrl hrs).mono (TK.new hln))
def Cz_ (K:PySem.W.Frag):Sp:=fun vs H Q _=>∃(L:Nat) (a e:Addr) (xs ys:List V) (acc ends:List (List Int)),vs=[.int L,.ref a,.ref e]/\L<=6/\SqL K H a xs/\As K H xs acc/\acc.length<=100/\(∀w∈acc,w.length<=100)/\SqL K H e ys/\As K H ys ends/\ends.length<=100/\(∀w∈ends,w.length<=500)/\∀l rs H',Same H H'->H l=none->H' l=some (.lst rs)->As K H' rs (Kt (CM L acc) ends)->Q (.ref l) H'
theorem Bf_   (hL:L<=6)(hal:acc.length<=100)(hwl:∀w∈acc,w.length<=100):(CM L acc).length<=700/\∀w∈CM L acc,w.length<=101:=by
 have mem:∀(l s:List (List Int)) (w:List Int),w∈l.foldl ins s->w∈s\/w∈l:=by
  intro l
  induction l with
  |nil=>intro s w h;exact .inl h
  |cons v l ih=>
   intro s w h
   rw[List.foldl_cons]at h
   rcases ih _ _ h with h|h
   ·unfold ins at h
    split at h
    ·exact .inl h
    ·rcases List.mem_append.mp h with h|h
     ·exact .inl h
     ·rw[List.mem_singleton.mp h];exact .inr List.mem_cons_self
   ·exact .inr (List.mem_cons_of_mem _ h)
 refine⟨?_,fun w hw=>?_⟩
 ·have h2:=C5 (acc.flatMap (extW L)) (acc.foldl ins [])
  have h3:=C5 acc []
  have h4:(acc.flatMap (extW L)).length<=600:=by
   rw[List.length_flatMap]
   have:acc.map (fun a=>(extW L a).length)=acc.map (fun _=>L):=List.map_congr_left fun a _=>by simp[extW]
   rw[this,List.map_const',List.sum_replicate_nat]
   exact Nat.le_trans (Nat.mul_le_mul hal hL) (by omega)
  unfold CM
  simp at h3
  omega
 ·unfold CM at hw
  rcases mem _ _ _ hw with h|h
  ·rcases mem _ _ _ h with h|h
   ·simp at h
   ·have:=hwl w h;omega
  ·obtain⟨v,hv,h⟩:=List.mem_flatMap.mp h
   obtain⟨x,_,rfl⟩:=List.mem_map.mp h
   have:=hwl v hv
   simp;omega
theorem Gv_   (F:Fun K "cells" "cells" NY f fd)(T:Txt mg)
  (W:Own K mg C_j7 C_j9 C_jj C_ja C_j1 C_j4)
  (Z:Exs K mg C_j8 C_j5 C_j6 C_j3 C_j2 C_j0)
   (JL:FnOk P w K mg base CX0 1 Gx JN ["letters","access"] (Tt K)) (Hs:Fun K "rows_of" "rows_of" Ho Gx JN) (JO:Binds K JN ["letters","access"] []) (JQ:mg "rows_of"=some (.ref Gx))
  : FnOk P w K mg base CX0 2 f fd ["letters","access","ends"] (Cz_ K):=by
 refine F.ok SF (fun vs H Q E h=>?_) (fun cdv A outer s H vs Q E hr h=>?_)
 ·obtain⟨L,a,e,xs,ys,acc,ends,rfl,_⟩:=h;rfl
 ·obtain⟨L,a,e,xs,ys,acc,ends,rfl,hL,ha,hw,hal,hwl,he,hwe,hel,hewl,k⟩:=h
  have hl:=Ao
  obtain⟨hrl,hrw⟩:=Bf_ hL hal hwl
  refine⟨_,(Ad (Rp (i:=3) SF.nd rfl (Or.inl rfl) M3)
   (Ad (Hm PassesOwn.never rfl (Gq (Aj JL (hr.mono (by decide)) rfl JQ Hs.kp JO .nil Ax (Aa (pvD 0) (Aa (pvD 1) Af)))) (B3 (i:=4) SF.nd rfl (Or.inl rfl))
   (Ac (Hm PassesOwn.never rfl (Gq (pvD 2)) (B3 (i:=5) SF.nd rfl (Or.inl rfl))
   (Ac (NW (NV hr) (pvD 3) (Bt J4 (pvD 4) (pvD 5)) Jj rfl)))))
   (Ac (Ar (EE (Iu rfl) rfl T.list PyProof.Rows.boot_list (Aa (pvD 3) Af)))))),?_⟩
  walk_at "rd"
  intro p hp
  have sp:=Same.new (o:=.dT []) hp
  refine⟨L,a,xs,acc,rfl,hL,sp.seq ha,hw.mono (TK.of sp),hal,hwl,fun r rs H1 s1 hrn hr hrs=>?_⟩
  generalize CM L acc=rows at hrl hrw hrs k
  have s01:=sp.trans s1
  have hrH:H r=none:=Same.none sp hrn
  have hp1:=s1 _ _ (Ae (H:=H) (a:=p) (o:=.dT []))
  walk_at "rd"
  refine⟨⟨_,SqL.of hr⟩,?_⟩
  have hpr:r≠p:=(AS_ hrn).2
  obtain⟨Pw,hPw⟩:∃Pv:Nat->St->Hp->Prop,∀i σ' H',Pv i σ' H'↔(∃(kvs:List (List Key×V)) (o o':Option V),Same H H'/\H' r=some (.lst rs)/\As K H' rs rows/\H' p=some (.dT kvs)/\HK (((rows.take i).flatMap fun r=>ends.map (r ++ ·)).foldl ins []) kvs/\σ'=[some (.int L),some (.ref a),some (.ref e),some (.ref p),o,o']):=⟨_,fun _ _ _=>Iff.rfl⟩
  refine forL (xs:=rs) Pw ((hPw _ _ _).mpr ⟨[],_,_,s01,hr,hrs,hp1,by rw[List.take_zero];exact HK.nil,rfl⟩) (fun i σ' H' _ h'=>by obtain⟨_,_,_,_,q,_⟩:=(hPw _ _ _).mp h';exact SqL.of q) (fun i x σ2 H2 hx h2=>?_) (fun σ2 H2 h2=>?_)
  ·obtain⟨kvs,o,o',s2,hr2,hrs2,hd,hk,rfl⟩:=(hPw _ _ _).mp h2
   obtain⟨t,w,hwi,rfl,ht⟩:=hrs2.at hx
   have hwlen:=hrw w (List.mem_of_getElem? hwi)
   walk_at "rd"
   refine⟨⟨_,s2.seq he⟩,?_⟩
   obtain⟨Py,hPy⟩:∃Pv:Nat->St->Hp->Prop,∀j σ' H',Pv j σ' H'↔(∃(kvs:List (List Key×V)) (o':Option V),Same H H'/\H' r=some (.lst rs)/\As K H' rs rows/\H' t=some (.tup (w.map V.int))/\H' p=some (.dT kvs)/\HK (((ends.take j).map (w ++ ·)).foldl ins (((rows.take i).flatMap fun r=>ends.map (r ++ ·)).foldl ins [])) kvs/\σ'=[some (.int L),some (.ref a),some (.ref e),some (.ref p),some (.ref t),o']):=⟨_,fun _ _ _=>Iff.rfl⟩
   refine forL (xs:=ys) Py ((hPy _ _ _).mpr ⟨kvs,_,s2,hr2,hrs2,ht,hd,by rw[List.take_zero];exact hk,rfl⟩) (fun j σ' H' _ h'=>by obtain⟨_,_,s',_⟩:=(hPy _ _ _).mp h';exact s'.seq he) (fun j y σ3 H3 hy h3=>?_) (fun σ3 H3 h3=>?_)
   ·obtain⟨kvs,o',s3,hr3,hrs3,ht3,hd,hk,rfl⟩:=(hPy _ _ _).mp h3
    obtain⟨u,v,hvi,rfl,hu⟩:=hwe.at hy
    have hvlen:=hewl v (List.mem_of_getElem? hvi)
    have hlen:kvs.length<=100000:=by
     have h1:=C5 ((ends.take j).map (w ++ ·)) (((rows.take i).flatMap fun r=>ends.map (r ++ ·)).foldl ins [])
     have h2:=C5 ((rows.take i).flatMap fun r=>ends.map (r ++ ·)) []
     have h4:((rows.take i).flatMap fun r=>ends.map (r ++ ·)).length<=70000:=by
      rw[List.length_flatMap]
      have:(rows.take i).map (fun a=>(ends.map (a ++ ·)).length)=(rows.take i).map (fun _=>ends.length):=List.map_congr_left fun a _=>by simp
      rw[this,List.map_const',List.sum_replicate_nat]
      have:(rows.take i).length<=700:=by rw[List.length_take];omega
      exact Nat.le_trans (Nat.mul_le_mul this hel) (by omega)
     rw[hk.len]
     rw[List.length_map,List.length_take]at h1
     rw[List.length_nil,Nat.zero_add]at h2
     omega
    walk_at "rd"
    refine Kq.ofS ht3 (s3 _ _ hu) (by simp;omega) fun q H4 s4 hq=>?_
    have hq':H4 q=some (.tup ((wkey (w++v)).map kV)):=by rw[EF,hq];simp
    have hd4:=s4 _ _ hd
    have kD:TK H4 (upd H4 p (.dT (putK kvs (wkey (w++v)) (V.bl true)))):=TK.dT hd4
    refine⟨_,DPut.t (k:=wkey (w++v)) hd4 hq' (by omega),(hPy _ _ _).mpr ⟨_,_,(s3.trans s4).over hp,by rw[Ah hpr];exact s4 _ _ hr3,(hrs3.mono (TK.of s4)).mono kD,kD _ _ (s4 _ _ ht3),Ae,?_,rfl⟩⟩
    rw[List.take_add_one,hvi,Option.toList_some,List.map_append,List.foldl_append]
    exact hk.put _ _
   ·obtain⟨kvs,o',s3,hr3,hrs3,ht3,hd,hk,rfl⟩:=(hPy _ _ _).mp h3
    rw[hwe.1,List.take_length]at hk
    refine (hPw _ _ _).mpr ⟨kvs,_,_,s3,hr3,hrs3,hd,?_,rfl⟩
    rw[List.take_add_one,hwi,Option.toList_some,List.flatMap_append,List.foldl_append]
    simpa using hk
  ·obtain⟨kvs,o,o',s2,hr2,hrs2,hd,hk,rfl⟩:=(hPw _ _ _).mp h2
   rw[hrs.1,List.take_length]at hk
   walk_at "rd"
   refine⟨kvs,.inl hd,fun l rs' hln hrl' hrs'=>?_⟩
   exact k l rs' _ (s2.newT hln) (Same.none s2 hln) Ae ((hk.words (K:=K) hrl' hrs').mono (TK.new hln))
def mkO (es:List (List Int×Int))(w:List Int):Option Int:=(es.find? fun e=>decide (e.1=w)).map (·.2)
def oV:Option Int->V
 |some m=>.int m
 |none=>.non
theorem M6:∀{es:List (List Int×Int)} {w:List Int} {m:Int},(es.map (·.1)).Nodup->(w,m)∈es->mkO es w=some m
 |[],_,_,_,h=>by cases h
 |e::es,w,m,nd,h=>by
  rw[List.map_cons,List.nodup_cons]at nd
  unfold mkO
  rw[List.find?_cons]
  rcases List.mem_cons.mp h with h|h
  ·subst h
   simp
  ·have hne:e.1≠w:=fun z=>nd.1 (by rw[z];exact List.mem_map_of_mem (f:=(·.1)) h)
   rw[decide_eq_false hne]
   exact M6 nd.2 h
theorem SH {es:List (List Int×Int)}{w:List Int}(h:w∉es.map (·.1)):mkO es w=none:=by
 unfold mkO
 rw[List.find?_eq_none.mpr fun e he z=>h (by have:=of_decide_eq_true z;rw[<-this];exact List.mem_map_of_mem (f:=(·.1)) he)]
 rfl
def Wj (K:PySem.W.Frag)(C:Addr):Sp:=fun vs H Q _=>∃(p d t a:Addr) (L:Int) (w:List Int) (es:List (List Int×Int)) (xs:List V) (ends:List (List Int)),vs=[.ref p,.ref t,.ref a]/\BookAt C H p d L es/\H t=some (.tup (w.map V.int))/\w.length<=100/\SqL K H a xs/\As K H xs ends/\ends.length<=100/\(∀e∈ends,e.length<=500)/\∀l H',Same H H'->H' l=some (.lst (ends.map fun e=>oV (mkO es (w++e))))->Q (.ref l) H'
theorem Bg_   (F:Fun K "marks_of" "marks_of" GY f fd)(T:Txt mg)
  (W:Own K mg C_j7 C_j9 C_jj C_ja C_j1 C_j4)
  (Z:Exs K mg C_j8 C_j5 C_j6 C_j3 C_j2 C_j0)
   (Ej:FnOk P w K mg base CX0 1 B7 D5 ["self","word"] (IZ C_j7)) (EV:Fun K "told" "Book.told" Ee B7 D5) (Ek:Binds K D5 ["self","word"] []) (El:Meth K C_j7 "told" B7)
  : FnOk P w K mg base CX0 2 f fd ["book","word","ends"] (Wj K C_j7):=by
 refine F.ok Bc_ (fun vs H Q E h=>?_) (fun cdv A outer s H vs Q E hr h=>?_)
 ·obtain⟨p,d,t,a,L,wd,es,xs,ends,rfl,_⟩:=h;rfl
 ·obtain⟨p,d,t,a,L,wd,es,xs,ends,rfl,B,ht,hwl,ha,hE,hel,hew,k⟩:=h
  have hl:=Ao
  refine⟨_,(Ac (Ar (Lo rfl (OG rfl) (cp:=Rv) ⟨⟨rfl,rfl⟩,⟨⟨rfl,rfl⟩,True.intro⟩⟩ (Gq (pvD 2)) (fun _ _ _ _=>(B3 (i:=0) Th rfl (Or.inl rfl))) (fun _ _ _ _=>OF) (fun _ _ _ _=>(DE (pvD 1) W.cl_j7 El Ej (hr.mono (by decide)) Ek .nil Ax (Aa (Bt (YZ (K:=K) rfl) (pvD 2) (pvD 0)) Af)))))),?_⟩
  walk_at "rd"
  obtain⟨⟨dx,hp⟩,hd,nd⟩:=id B
  refine⟨⟨_,ha⟩,Gd_ (xs:=xs) (fun i ys σ' H'=>Same H H'/\ys=(ends.take i).map (fun e=>oV (mkO es (wd++e)))/\∃o,σ'=[o,some (.ref p),some (.ref t)]) ⟨Same.refl _,rfl,none,rfl⟩ (by rw[hE.1];omega) (fun i ys σ' H' hi h'=>⟨h'.1.seq ha,by rw[h'.2.1,List.length_map,List.length_take];omega⟩) (fun i x ys σ' H' hx h'=>?_) (fun ys σ' H' h' D hD=>?_)⟩
  ·obtain⟨s1,rfl,o,rfl⟩:=h'
   obtain⟨te,e,hei,rfl,hte⟩:=hE.at hx
   have hel':=hew e (List.mem_of_getElem? hei)
   have et:ends.take (i+1)=ends.take i++[e]:=by rw[List.take_add_one,hei];rfl
   walk_at "rd"
   refine⟨_,_,s1 _ _ hp,Hf _ _ (by decide +kernel) (by decide +kernel),Kq.ofS (s1 _ _ ht) (s1 _ _ hte) (by simp;omega) fun q H2 s2 hq=>?_⟩
   have s12:=s1.trans s2
   refine⟨p,d,q,L,wd++e,es,rfl,B.mono s12,by rw[List.map_append];exact hq,fun hm=>⟨s12,?_,_,rfl⟩,fun m hm=>⟨s12,?_,_,rfl⟩⟩
   ·rw[et,List.map_append,List.map_singleton,SH hm];rfl
   ·rw[et,List.map_append,List.map_singleton,M6 nd hm];rfl
  ·obtain⟨s1,rfl,o,rfl⟩:=h'
   rw[hE.1,List.take_length]
   exact k D _ (s1.newT hD) Ae
def HP (H:Hp)(f:List Int->List V)(ks:List (List Int))(kvs:List (List Key×V)):Prop:=kvs.length=ks.length/\∀(i:Nat) (w:List Int),ks[i]?=some w->∃t,kvs[i]?=some (wkey w,.ref t)/\H t=some (.tup (f w))
theorem HP.nil   : HP H f [] []:=⟨rfl,fun i w h=>by simp at h⟩
theorem HP.mono     (h:HP H f ks kvs)(s:∀t ys,H t=some (.tup ys)->H' t=some (.tup ys)):HP H' f ks kvs:=⟨h.1,fun i w hi=>by
 obtain⟨t,a,b⟩:=h.2 i w hi
 exact⟨t,a,s _ _ b⟩⟩
theorem HP.snoc {H:Hp}{f:List Int->List V}{ks:List (List Int)}{kvs:List (List Key×V)}{w:List Int}{t:Addr}(h:HP H f ks kvs)(ht:H t=some (.tup (f w))):HP H f (ks++[w]) (kvs++[(wkey w,.ref t)]):=by
 refine⟨by simp[h.1],fun i r hi=>?_⟩
 by_cases hl:i<ks.length
 ·rw[List.getElem?_append_left hl]at hi
  rw[List.getElem?_append_left (by rw[h.1];exact hl)]
  exact h.2 i r hi
 ·have:=(List.getElem?_eq_some_iff.mp hi).1
  rw[List.length_append,List.length_singleton]at this
  have e:i=ks.length:=by omega
  subst e
  rw[List.getElem?_append_right (Nat.le_refl _),Nat.sub_self]at hi
  simp at hi
  subst hi
  exact⟨t,by rw[<-h.1];simp,ht⟩
theorem HP.keys     (h:HP H f ks kvs):HK ks kvs:=by
 refine List.ext_getElem? fun i=>?_
 rw[List.getElem?_map,List.getElem?_map]
 cases e:ks[i]? with
 |none=>
  have:kvs[i]?=none:=List.getElem?_eq_none (by rw[h.1];exact List.getElem?_eq_none_iff.mp e)
  rw[this];rfl
 |some w=>
  obtain⟨t,a,_⟩:=h.2 i w e
  rw[a];rfl
theorem Fo_ {s:List (List Int)}{w:List Int}(h:s.Nodup):(ins s w).Nodup:=by
 unfold ins
 split
 ·exact h
 ·rename_i hw
  rw[List.nodup_append]
  refine⟨h,by simp,fun a ha b hb z=>?_⟩
  rw[List.mem_singleton.mp hb]at z
  exact hw (z ▸ ha)
theorem I0:∀{l s:List (List Int)},s.Nodup->(l.foldl ins s).Nodup
 |[],_,h=>h
 |w::l,s,h=>by rw[List.foldl_cons];exact I0 (Fo_ h)
theorem Bh_ (n:Nat)(acc:List (List Int)):(CM n acc).Nodup:=I0 (I0 List.nodup_nil)
theorem Fp_ (n:Nat):∀(acc:List (List Int)),(acc.flatMap (extW n)).length<=acc.length*n
 |[]=>by simp
 |w::acc=>by
  rw[List.flatMap_cons,List.length_append,List.length_cons,Nat.succ_mul]
  have h1:=Fp_ n acc
  have h2:(extW n w).length=n:=by unfold extW;simp
  omega
theorem Zb (n:Nat)(acc:List (List Int)):(CM n acc).length<=acc.length+acc.length*n:=by
 unfold CM
 have h1:=C5 (acc.flatMap (extW n)) (acc.foldl ins [])
 have h2:=C5 acc []
 have h3:=Fp_ n acc
 simp at h2
 omega
theorem Gw_ {s:List (List Int)}{w:List Int}{m:Nat}(h:∀v∈s,v.length<=m)(hw:w.length<=m):∀v∈ins s w,v.length<=m:=fun v hv=>by
 unfold ins at hv
 split at hv
 ·exact h v hv
 ·rcases List.mem_append.mp hv with hv|hv
  ·exact h v hv
  ·rw[List.mem_singleton.mp hv];exact hw
theorem N1 {m:Nat}:∀{l s:List (List Int)},(∀v∈s,v.length<=m)->(∀v∈l,v.length<=m)->∀v∈l.foldl ins s,v.length<=m
 |[],_,h,_=>h
 |w::l,s,h,hl=>by rw[List.foldl_cons];exact N1 (Gw_ h (hl w (by simp))) (fun v hv=>hl v (by simp[hv]))
theorem Dp_   (h:∀w∈acc,w.length<=m):∀w∈CM n acc,w.length<=m+1:=by
 unfold CM
 refine N1 (N1 (by simp) fun v hv=>by have:=h v hv;omega) fun v hv=>?_
 obtain⟨u,hu,hv⟩:=List.mem_flatMap.mp hv
 unfold extW at hv
 obtain⟨x,_,rfl⟩:=List.mem_map.mp hv
 have:=h u hu
 rw[List.length_append,List.length_singleton]
 omega
def Fq_ (K:PySem.W.Frag)(C:Addr):Sp:=fun vs H Q _=>∃(p d a b:Addr) (L:Int) (N:Nat) (es:List (List Int×Int)) (xs ys:List V) (acc ends:List (List Int)),vs=[.ref p,.int N,.ref a,.ref b]/\BookAt C H p d L es/\N<=6/\SqL K H a xs/\As K H xs acc/\acc.length<=64/\(∀w∈acc,w.length<=64)/\SqL K H b ys/\As K H ys ends/\ends.length<=50/\(∀e∈ends,e.length<=500)/\∀l kvs H',Same H H'->H l=none->H' l=some (.dT kvs)->HP H' (fun w=>ends.map fun e=>oV (mkO es (w++e))) (CM N acc) kvs->Q (.ref l) H'
theorem Tu   (F:Fun K "marks_by_row" "marks_by_row" CF f fd)(T:Txt mg)
  (W:Own K mg C_j7 C_j9 C_jj C_ja C_j1 C_j4)
  (Z:Exs K mg C_j8 C_j5 C_j6 C_j3 C_j2 C_j0)
   (JL:FnOk P w K mg base CX0 1 Gx JN ["letters","access"] (Tt K)) (Hs:Fun K "rows_of" "rows_of" Ho Gx JN) (JO:Binds K JN ["letters","access"] []) (JQ:mg "rows_of"=some (.ref Gx))
   (Qf:FnOk P w K mg base CX0 2 Ih Tv ["book","word","ends"] (Wj K C_j7)) (JR:Fun K "marks_of" "marks_of" GY Ih Tv) (Qg:Binds K Tv ["book","word","ends"] []) (Qh:mg "marks_of"=some (.ref Ih))
  : FnOk P w K mg base CX0 3 f fd ["book","letters","access","ends"] (Fq_ K C_j7):=by
 refine F.ok Iz (fun vs H Q E h=>?_) (fun cdv A outer s H vs Q E hr h=>?_)
 ·obtain⟨p,d,a,b,L,N,es,xs,ys,acc,ends,rfl,_⟩:=h;rfl
 ·obtain⟨p,d,a,b,L,N,es,xs,ys,acc,ends,rfl,B,hN,ha,hA,hal,haw,hb,hE,hel,hew,k⟩:=h
  have hl:=Ao
  refine⟨_,(Ad (Rp (i:=4) Iz.nd rfl (Or.inl rfl) M3)
   (Ad (Hm PassesOwn.never rfl (Gq (Aj JL (hr.mono (by decide)) rfl JQ Hs.kp JO .nil Ax (Aa (pvD 1) (Aa (pvD 2) Af)))) (B3 (i:=5) Iz.nd rfl (Or.inl rfl))
   (Ac (NW (NV hr) (pvD 4) (pvD 5) (EE Hn rfl T.tuple PyProof.Rows.boot_tuple (Aa (Aj Qf (hr.mono (by decide)) rfl Qh JR.kp Qg .nil Ax (Aa (pvD 0) (Aa (pvD 5) (Aa (pvD 3) Af)))) Af)) rfl)))
   (Ac (Ar (pvD 4))))),?_⟩
  walk_at "rd"
  intro m hm
  have s0:=Same.new hm (o:=.dT [])
  refine⟨N,a,xs,acc,rfl,hN,s0.seq ha,hA.mono (fun _ _ z=>s0 _ _ z),by omega,fun w hw=>by have:=haw w hw;omega,fun r rs H1 s1 hr0 hr1 hW=>⟨r,rfl,⟨_,SqL.of hr1⟩,?_⟩⟩
  have hm1:=s1 _ _ (show upd H m (.dT []) m=some (.dT []) from Ae)
  have s01:=s0.trans s1
  have hrlen:=Zb N acc
  have hrw:=Dp_ (n:=N) haw
  have hnd:=Bh_ N acc
  have hrl:(CM N acc).length<=500:=by
   have:acc.length*N<=64*6:=Nat.mul_le_mul hal hN
   omega
  have kk:=k
  generalize CM N acc=rw' at hW hrl hrw hnd kk
  clear k hrlen
  obtain⟨Pv,hPv⟩:∃Pv:Nat->St->Hp->Prop,∀i σ' H',Pv i σ' H'↔(∃(kvs:List (List Key×V)) (o:Option V),Same H H'/\H' r=some (.lst rs)/\TK H1 H'/\H' m=some (.dT kvs)/\HP H' (fun w=>ends.map fun e=>oV (mkO es (w++e))) (rw'.take i) kvs/\σ'=[some (.ref p),some (.int N),some (.ref a),some (.ref b),some (.ref m),o]):=⟨_,fun _ _ _=>Iff.rfl⟩
  refine forL (xs:=rs) Pv ((hPv _ _ _).mpr ⟨[],none,s01,hr1,TK.refl _,hm1,by rw[List.take_zero];exact HP.nil,rfl⟩) (fun i σ' H' _ h'=>by obtain⟨_,_,_,h2,_⟩:=(hPv _ _ _).mp h';exact SqL.of h2) (fun i x σ' H' hx h'=>?_) (fun σ' H' h'=>?_)
  ·obtain⟨kvs,o,s',hr',tk,hm',hM,rfl⟩:=(hPv _ _ _).mp h'
   obtain⟨t,w,hwi,rfl,ht⟩:=hW.at hx
   have hi:=(List.getElem?_eq_some_iff.mp hwi).1
   have hwl:=hrw w (List.mem_of_getElem? hwi)
   have et:rw'.take (i+1)=rw'.take i++[w]:=by rw[List.take_add_one,hwi];rfl
   have hno:w∉rw'.take i:=fun z=>by
    obtain⟨j,hj,ej⟩:=List.getElem_of_mem z
    rw[List.length_take]at hj
    rw[List.getElem_take]at ej
    have:=(List.getElem_inj (h₀:=(show j<rw'.length by omega)) (h₁:=hi) hnd).mp (by rw[ej];exact ((List.getElem?_eq_some_iff.mp hwi).2).symm)
    omega
   have hv:valV kvs (wkey w)=none:=by
    have:=hM.keys.some_iff w
    rw[decide_eq_false hno]at this
    cases e:valV kvs (wkey w) with
    |none=>rfl
    |some v=>rw[e]at this;cases this
   have hkl:kvs.length<=500:=by rw[hM.1,List.length_take];omega
   walk_at "rd"
   refine⟨p,d,t,b,L,w,es,ys,ends,rfl,B.mono s',tk _ _ ht,by omega,s'.seq hb,hE.mono (fun _ _ z=>s' _ _ z),by omega,fun e he=>by have:=hew e he;omega,fun l H2 s2 hl2=>⟨l,rfl,_,.inl ⟨SqL.of hl2,fun t2 ht2=>?_⟩⟩⟩
   have s3:=s2.newT ht2 (o:=.tup (ends.map fun e=>oV (mkO es (w++e))))
   refine⟨_,DPut.t (k:=wkey w) (s3 _ _ hm') (by rw[EF];exact s3 _ _ (tk _ _ ht)) (by omega),(hPv _ _ _).mpr ⟨_,_,(s'.trans s3).over hm,?_,fun c zs z=>?_,Ae,?_,rfl⟩⟩
   ·rw[Ah (fun z=>by rw[z,hm']at hr';cases hr')];exact s3 _ _ hr'
   ·rw[Ah (fun e=>by have:=tk _ _ z;rw[e,hm']at this;cases this)];exact s3 _ _ (tk _ _ z)
   ·rw[FX_ _ hv,et]
    exact ((hM.mono fun c zs z=>s3 _ _ z).snoc (t:=t2) Ae).mono fun c zs z=>by
     rw[Ah (fun e=>by rw[e,s3 _ _ hm']at z;cases z)];exact z
  ·obtain⟨kvs,o,s',hr',tk,hm',hM,rfl⟩:=(hPv _ _ _).mp h'
   rw[hW.1,List.take_length]at hM
   walk_at "rd"
   exact kk m kvs _ s' hm hm' hM
theorem HP.get {H:Hp}{f:List Int->List V}{ks:List (List Int)}{kvs:List (List Key×V)}(h:HP H f ks kvs){w:List Int}(hw:w∈ks):∃t,valV kvs (wkey w)=some (.ref t)/\H t=some (.tup (f w)):=by
 have hs:=h.keys.some_iff w
 rw[decide_eq_true hw]at hs
 unfold valV at hs ⊢
 cases e:kvs.find? (fun kv=>decide (kv.1=wkey w)) with
 |none=>rw[e]at hs;cases hs
 |some kv=>
  have h1:kv.1=wkey w:=by have:=List.find?_some e;simpa using this
  obtain⟨i,hi,ei⟩:=List.getElem_of_mem (List.mem_of_find?_eq_some e)
  have hi':i<ks.length:=by rw[<-h.1];exact hi
  obtain⟨t,a,b⟩:=h.2 i ks[i] (by simp[hi'])
  rw[List.getElem?_eq_getElem hi,ei]at a
  have ea:=Option.some.inj a
  rw[ea]at h1
  have:ks[i]=w:=SD h1
  rw[this]at b
  exact⟨t,by rw[ea];rfl,b⟩
theorem Gx_ {s:List (List Int)}{w v:List Int}:v∈ins s w↔v∈s\/v=w:=by
 unfold ins
 split
 ·rename_i h
  exact⟨.inl,fun z=>z.elim id fun e=>e ▸ h⟩
 ·simp
theorem Ka:∀{l s:List (List Int)} {v:List Int},v∈l.foldl ins s↔v∈s\/v∈l
 |[],s,v=>by simp
 |w::l,s,v=>by
  rw[List.foldl_cons,Ka,Gx_,List.mem_cons,or_assoc]
theorem Kb {n:Nat}{acc:List (List Int)}{w:List Int}(h:w∈acc):w∈CM n acc:=by
 unfold CM
 exact Ka.mpr (.inl (Ka.mpr (.inr h)))
def Wk (K:PySem.W.Frag)(C:Addr):Sp:=fun vs H Q _=>∃(p d a b:Addr) (L:Int) (N:Nat) (es:List (List Int×Int)) (xs ys:List V) (acc ends:List (List Int)) (g:List Int->List Int),vs=[.ref p,.int N,.ref a,.ref b]/\BookAt C H p d L es/\N<=6/\SqL K H a xs/\As K H xs acc/\acc.length<=64/\(∀w∈acc,w.length<=64)/\SqL K H b ys/\As K H ys ends/\ends.length<=50/\(∀e∈ends,e.length<=500)/\(∀w∈CM N acc,(ends.map fun e=>oV (mkO es (w++e)))=(g w).map V.int)/\(∀w t H',(CM N acc).find? (fun w=>decide (g w∉acc.map g))=some w->Same H H'->H' t=some (.tup (w.map V.int))->Q (.ref t) H')/\∀H',(CM N acc).find? (fun w=>decide (g w∉acc.map g))=none->Same H H'->Q .non H'
theorem Bi_   (F:Fun K "stranger" "stranger" GZ f fd)(T:Txt mg)
  (W:Own K mg C_j7 C_j9 C_jj C_ja C_j1 C_j4)
  (Z:Exs K mg C_j8 C_j5 C_j6 C_j3 C_j2 C_j0)
   (Et:FnOk P w K mg base CX0 3 Cm EW ["book","letters","access","ends"] (Fq_ K C_j7)) (CH:Fun K "marks_by_row" "marks_by_row" CF Cm EW) (Eu:Binds K EW ["book","letters","access","ends"] []) (Ew:mg "marks_by_row"=some (.ref Cm))
  : FnOk P w K mg base CX0 4 f fd ["book","letters","access","ends"] (Wk K C_j7):=by
 refine F.ok J7 (fun vs H Q E h=>?_) (fun cdv A outer s H vs Q E hr h=>?_)
 ·obtain⟨p,d,a,b,L,N,es,xs,ys,acc,ends,g,rfl,_⟩:=h;rfl
 ·obtain⟨p,d,a,b,L,N,es,xs,ys,acc,ends,g,rfl,B,hN,ha,hA,hal,haw,hb,hE,hel,hew,hg,k,kn⟩:=h
  have hl:=Ao
  refine⟨_,(Ad (Rp (i:=4) J7.nd rfl (Or.inr rfl) (Aj Et (hr.mono (by decide)) rfl Ew CH.kp Eu .nil Ax (Aa (pvD 0) (Aa (pvD 1) (Aa (pvD 2) (Aa (pvD 3) Af))))))
   (Ad (It_ (i:=5) J7.nd rfl rfl rfl (OG rfl) (cp:=Rw) ⟨⟨rfl,rfl⟩,True.intro⟩ (Gq (pvD 2)) (fun _ _ _ _=>(B3 (i:=0) Ti rfl (Or.inl rfl))) (fun _ _ _ _=>OF) (fun _ _ _ _=>(SY (NV hr) (pvD 1) (pvD 0) (fun _ _=>rfl))))
   (Ad (Hm PassesOwn.never rfl (Gk_ (pvD 4)) (B3 (i:=6) J7.nd rfl (Or.inl rfl))
   (Ac (Cu (ptT (Ay (EO_ (hu9 hr)) (SY (NV hr) (pvD 4) (pvD 6) (fun _ _=>rfl)) (pvD 5) rfl))
   (Ac (Ar (pvD 6)))
   AQ)))
   (Ac (Ar F3))))),?_⟩
  walk_at "rd"
  refine⟨p,d,a,b,L,N,es,xs,ys,acc,ends,rfl,B,hN,ha,hA,hal,haw,hb,hE,hel,hew,fun m kvs H1 s1 hm0 hm hM=>?_⟩
  walk_at "rd"
  have kk:=k
  have kkn:=kn
  have hin:∀w∈acc,w∈CM N acc:=fun w h=>Kb h
  generalize CM N acc=rw' at hM hg kk kkn hin
  clear k kn
  have ha1:=s1.seq ha
  have hA1:As K H1 xs acc:=hA.mono (TK.of s1)
  refine⟨⟨_,ha1⟩,Gd_ (xs:=xs) (fun i ys σ' H'=>H'=H1/\As K H1 ys ((acc.take i).map g)/\∃o,σ'=[o,some (.ref m)]) ⟨rfl,As.nil,none,rfl⟩ (by rw[hA.1];omega) (fun i ys σ' H' hi h'=>⟨by rw[h'.1];exact ha1,by rw[h'.2.1.1,List.length_map,List.length_take];omega⟩) (fun i x ys σ' H' hx h'=>?_) (fun ys σ' H' h' D hD=>?_)⟩
  ·obtain⟨rfl,hY,o,rfl⟩:=h'
   obtain⟨t,w,hwi,rfl,ht⟩:=hA1.at hx
   have hwm:=List.mem_of_getElem? hwi
   obtain⟨u,hu1,hu2⟩:=hM.get (hin w hwm)
   have et:acc.take (i+1)=acc.take i++[w]:=by rw[List.take_add_one,hwi];rfl
   rw[hg w (hin w hwm)]at hu2
   walk_at "rd"
   have hdg:DGet H' m (.ref t) (some (.ref u)):=by rw[<-hu1];exact DGet.t (k:=wkey w) hm (by rw[EF];exact ht)
   refine⟨_,hdg,?_,_,rfl⟩
   rw[et,List.map_append]
   exact hY.snoc hu2
  ·obtain⟨rfl,hY,o,rfl⟩:=h'
   rw[hA.1,List.take_length]at hY
   have sD:=Same.new hD (o:=.lst ys)
   have hm2:=sD _ _ hm
   refine⟨kvs,hm2,fun oo=>?_⟩
   have hDm:D≠m:=fun z=>by rw[z,hm]at hD;cases hD
   obtain⟨HF,hHF⟩:∃HF:Hp,HF=upd (upd H' D (.lst ys)) m (.frz oo (.dT kvs)):=⟨_,rfl⟩
   rw[<-hHF]
   have hmF:HF m=some (.frz oo (.dT kvs)):=by rw[hHF];exact Ae
   have tkF:TK H' HF:=fun c zs z=>by rw[hHF,Ah (fun e=>by rw[e,hm]at z;cases z)];exact sD _ _ z
   have hDF:HF D=some (.lst ys):=by rw[hHF,Ah hDm];exact Ae
   have sF:Same H HF:=by rw[hHF];exact (s1.trans sD).over hm0
   obtain⟨Pv,hPv⟩:∃Pv:Nat->St->Hp->Prop,∀i σ' H',Pv i σ' H'↔(H'=HF/\(∀w∈rw'.take i,g w∈acc.map g)/\∃o,σ'=[some (.ref p),some (.int N),some (.ref a),some (.ref b),some (.ref m),some (.ref D),o]):=⟨_,fun _ _ _=>Iff.rfl⟩
   refine forD Pv ((hPv _ _ _).mpr ⟨rfl,(fun w hw=>by rw[List.take_zero]at hw;cases hw),none,rfl⟩) (fun i σ2 H2 _ h2=>by rw[((hPv _ _ _).mp h2).1];exact hmF) (fun i k0 v0 bb σ2 H2 hkv h2 hbb=>?_) (fun σ2 H2 h2=>?_)
   ·obtain⟨rfl,hall,o2,rfl⟩:=(hPv _ _ _).mp h2
    have hi:i<rw'.length:=by rw[<-hM.1];exact (List.getElem?_eq_some_iff.mp hkv).1
    have hwi:rw'[i]?=some rw'[i]:=by simp[hi]
    obtain⟨t,e1,e2⟩:=hM.2 i _ hwi
    have hwm:=List.mem_of_getElem? hwi
    rw[hkv]at e1
    cases e1
    replace e2:H' t=some (.tup ((g rw'[i]).map V.int)):=by rw[<-hg _ hwm];exact e2
    rw[EF]at hbb
    have et:rw'.take (i+1)=rw'.take i++[rw'[i]]:=by rw[List.take_add_one,hwi];rfl
    walk_at "rd"
    obtain⟨t',hv1,hv2⟩:=hM.get hwm
    replace hv2:H' t'=some (.tup ((g rw'[i]).map V.int)):=by rw[<-hg _ hwm];exact hv2
    refine⟨V.ref t',.inr ⟨kvs,wkey rw'[i],bb,.inr ⟨oo,hmF⟩,rfl,by rw[EF];exact hbb,hv1.symm⟩,t',rfl,_,SqL.of hDF,g rw'[i],acc.map g,hY.mono tkF,SqT.of (tkF _ _ hv2),?_⟩
    by_cases hmem:g rw'[i]∈acc.map g
    ·rw[if_neg (by rw[decide_eq_true hmem];decide)]
     refine (hPv _ _ _).mpr ⟨rfl,fun w hw=>?_,_,rfl⟩
     rw[et]at hw
     rcases List.mem_append.mp hw with hw|hw
     ·exact hall w hw
     ·rw[List.mem_singleton.mp hw];exact hmem
    ·rw[if_pos (by rw[decide_eq_false hmem];rfl)]
     refine kk rw'[i] bb _ (List.find?_eq_some_iff_getElem.mpr ⟨decide_eq_true hmem,i,hi,rfl,fun j hj=>?_⟩) sF hbb
     have:=hall rw'[j] (List.mem_iff_getElem?.mpr ⟨j,by rw[List.getElem?_take,if_pos hj];simp[show j<rw'.length by omega]⟩)
     rw[decide_eq_false (not_not_intro this)]
     rfl
   ·obtain⟨rfl,hall,o2,rfl⟩:=(hPv _ _ _).mp h2
    rw[hM.1,List.take_length]at hall
    walk_at "rd"
    refine kkn _ (List.find?_eq_none.mpr fun w hw=>?_) sF
    simp[hall w hw]
def eI (g:List Int->List Int)(acc:List (List Int))(i:Nat):List (List Int×Int):=(List.range i).map fun j=>(g (acc.getD j []),(j:Int))
theorem IP_ (g:List Int->List Int)(acc:List (List Int))(i:Nat):eI g acc (i+1)=eI g acc i++[(g (acc.getD i []),(i:Int))]:=by unfold eI;rw[List.range_succ,List.map_append];rfl
theorem Fr_ (g:List Int->List Int)(acc:List (List Int))  (hi:i<=acc.length):(eI g acc i).map (·.1)=(acc.map g).take i:=by
 refine List.ext_getElem? fun j=>?_
 unfold eI
 rw[List.map_map,List.getElem?_map,List.getElem?_take,List.getElem?_map]
 by_cases hj:j<i
 ·rw[if_pos hj,List.getElem?_range hj]
  have hj':j<acc.length:=by omega
  simp[List.getD_eq_getElem?_getD,hj']
 ·rw[if_neg hj,List.getElem?_eq_none (by simp;omega)];rfl
theorem Kr_    (hx:x∈acc.map g):(x,(((acc.map g).idxOf x:Nat):Int))∈eI g acc acc.length:=by
 unfold eI
 have hlt:(acc.map g).idxOf x<(acc.map g).length:=List.idxOf_lt_length_of_mem hx
 rw[List.length_map]at hlt
 refine List.mem_map.mpr ⟨(acc.map g).idxOf x,List.mem_range.mpr hlt,?_⟩
 have h1:(acc.map g)[(acc.map g).idxOf x]'(by rw[List.length_map];exact hlt)=x:=List.getElem_idxOf _
 rw[List.getElem_map]at h1
 rw[List.getD_eq_getElem?_getD,List.getElem?_eq_getElem hlt]
 show (g _,_)=_
 rw[Option.getD_some,h1]
theorem Bj_ {n:Nat}{acc:List (List Int)}{w:List Int}{x:Nat}(h:w∈acc)(hx:x<n):w++[(x:Int)]∈CM n acc:=by
 unfold CM
 refine Ka.mpr (.inr (List.mem_flatMap.mpr ⟨w,h,?_⟩))
 unfold extW
 exact List.mem_map.mpr ⟨x,List.mem_range.mpr hx,rfl⟩
theorem Zc {l:List (List Int)}{i:Nat}(hi:i<l.length)(nd:l.Nodup):l[i]∉l.take i:=fun z=>by
 obtain⟨j,hj,ej⟩:=List.getElem_of_mem z
 rw[List.length_take]at hj
 rw[List.getElem_take]at ej
 have:=(List.getElem_inj (h₀:=(show j<l.length by omega)) (h₁:=hi) nd).mp ej
 omega
def CA_ (K:PySem.W.Frag):Sp:=fun vs H Q _=>∃(N:Nat) (a m:Addr) (xs:List V) (acc:List (List Int)) (kvs:List (List Key×V)) (g:List Int->List Int),vs=[.int N,.ref a,.ref m]/\N<=6/\SqL K H a xs/\As K H xs acc/\acc.length<=64/\(∀w∈acc,w.length<=64)/\H m=some (.dT kvs)/\HP H (fun w=>(g w).map V.int) (CM N acc) kvs/\(acc.map g).Nodup/\(∀w∈acc,∀x:Nat,x<N->g (w++[(x:Int)])∈acc.map g)/\∀t ys H',Same H H'->H' t=some (.tup ys)->As K H' ys (acc.map fun w=>(List.range N).map fun x:Nat=>(((acc.map g).idxOf (g (w++[(x:Int)])):Nat):Int))->Q (.ref t) H'
theorem RP   (F:Fun K "ways_by_marks" "ways_by_marks" CZ f fd)(T:Txt mg)
  (W:Own K mg C_j7 C_j9 C_jj C_ja C_j1 C_j4)
  (Z:Exs K mg C_j8 C_j5 C_j6 C_j3 C_j2 C_j0)
  : FnOk P w K mg base CX0 1 f fd ["letters","access","marks"] (CA_ K):=by
 refine F.ok C6 (fun vs H Q E h=>?_) (fun cdv A outer s H vs Q E hr h=>?_)
 ·obtain⟨N,a,m,xs,acc,kvs,g,rfl,_⟩:=h;rfl
 ·obtain⟨N,a,m,xs,acc,kvs,g,rfl,hN,ha,hA,hal,haw,hm,hM,hnd,hin,k⟩:=h
  have hl:=Ao
  refine⟨_,(Ad (Rp (i:=3) C6.nd rfl (Or.inr rfl) M3)
   (Ad (Hm PassesOwn.never rfl (Gi_ rfl T.enumerate (pvD 1)) (DT_ rfl (MY (B3 (i:=4) C6.nd rfl (Or.inl rfl)) (MY (B3 (i:=5) C6.nd rfl (Or.inr rfl)) AK_)))
   (Ac (NW (NV hr) (pvD 3) (SY (NV hr) (pvD 2) (pvD 5) (fun _ _=>rfl)) (pvD 4) rfl)))
   (Ad (AB (i:=6) C6.nd (Rq Af))
   (Ad (Hm PassesOwn.never rfl (Gq (pvD 1)) (B3 (i:=5) C6.nd rfl (Or.inr rfl))
   (Ac (A9 (Da_ PySem.F.plainAttrs_list PySem.F.slot_list_append PySem.F.type_list_append Ll (pvD 6) (Aa (EE Hn rfl T.tuple PyProof.Rows.boot_tuple (Aa (Lo rfl (OG rfl) (cp:=JH) ⟨⟨rfl,rfl⟩,⟨⟨rfl,rfl⟩,⟨⟨rfl,rfl⟩,True.intro⟩⟩⟩ (Lj rfl T.range (Aa (pvD 0) Af)) (fun _ _ _ _=>(B3 (i:=0) Nb rfl (Or.inl rfl))) (fun _ _ _ _=>OF) (fun _ _ _ _=>(Cn_ (NV hr) (pvD 1) (SY (NV hr) (pvD 2) (Bt (YZ (K:=K) rfl) (pvD 3) (GJ (Aa (pvD 0) Af))) (fun _ _=>rfl)) ⟨by rfl,by rfl,by rfl,by rfl⟩))) Af)) Af)))))
   (Ac (Ar (EE Hn rfl T.tuple PyProof.Rows.boot_tuple (Aa (pvD 6) Af)))))))),?_⟩
  walk_at "rd"
  intro p hp
  have s0:=Same.new hp (o:=.dT [])
  have hkn:∀i,i<=acc.length->((eI g acc i).map (·.1)).Nodup:=fun i hi=>by rw[Fr_ g acc hi];exact hnd.sublist (List.take_sublist _ _)
  refine⟨_,s0.seq ha,?_⟩
  obtain⟨Pv,hPv⟩:∃Pv:Nat->St->Hp->Prop,∀i σ' H',Pv i σ' H'↔(∃o1 o2:Option V,Same H H'/\H' p=some (.dT (ents (eI g acc i)))/\σ'=[some (.int N),some (.ref a),some (.ref m),some (.ref p),o1,o2,none]):=⟨_,fun _ _ _=>Iff.rfl⟩
  have hpm:p≠m:=fun z=>by rw[z,hm]at hp;cases hp
  refine forM Pv ((hPv _ _ _).mpr ⟨none,none,s0,Ae,rfl⟩) (fun i σ' H' _ h'=>by obtain⟨_,_,s',_⟩:=(hPv _ _ _).mp h';exact s'.seq ha) (fun i v σ' H' t hv h' ht=>?_) (fun σ' H' h'=>?_)
  ·obtain⟨o1,o2,s',hp',rfl⟩:=(hPv _ _ _).mp h'
   obtain⟨tw,w,hwi,rfl,htw⟩:=hA.at hv
   have hwm:=List.mem_of_getElem? hwi
   have hi:=(List.getElem?_eq_some_iff.mp hwi).1
   have sT:=s'.newT ht (o:=.tup [.int i,.ref tw])
   obtain⟨u,hu1,hu2⟩:=hM.get (Kb (n:=N) hwm)
   have hgd:acc.getD i []=w:=by rw[List.getD_eq_getElem?_getD,hwi];rfl
   have hno:g w∉(eI g acc i).map (·.1):=by
    rw[Fr_ g acc (by omega)]
    have:=Zc (l:=acc.map g) (i:=i) (by rw[List.length_map];exact hi) hnd
    rw[List.getElem_map,(List.getElem?_eq_some_iff.mp hwi).2]at this
    exact this
   walk_at "rd"
   have hdg:DGet (upd H' t (.tup [V.int i,V.ref tw])) m (.ref tw) (some (.ref u)):=by rw[<-hu1];exact DGet.t (k:=wkey w) (sT _ _ hm) (by rw[EF];exact sT _ _ htw)
   have hle:(ents (eI g acc i)).length=i:=by unfold ents eI;rw[List.length_map,List.length_map,List.length_range]
   refine⟨_,SqT.of Ae,rfl,V.int i,_,rfl,V.ref tw,_,rfl,rfl,V.ref u,hdg,_,DPut.t (k:=wkey (g w)) (Same.new ht _ _ hp') (by rw[EF];exact sT _ _ hu2) (by omega),(hPv _ _ _).mpr ⟨_,_,sT.over hp,by rw[Ae,Cw_ hno,IP_,hgd],rfl⟩⟩
  ·obtain⟨o1,o2,s',hp',rfl⟩:=(hPv _ _ _).mp h'
   rw[hA.1]at hp'
   walk_at "rd"
   refine⟨by omega,fun q hq=>⟨⟨_,(s'.newT hq).seq ha⟩,?_⟩⟩
   have sq:=s'.newT hq (o:=.lst [])
   have hqH:H q=none:=s'.none hq
   have hpq:p≠q:=fun z=>by rw[z,hq]at hp';cases hp'
   obtain⟨Pw,hPw⟩:∃Pv:Nat->St->Hp->Prop,∀i σ2 H2,Pv i σ2 H2↔(∃(ys:List V) (o:Option V),Same H H2/\H2 p=some (.dT (ents (eI g acc acc.length)))/\H2 q=some (.lst ys)/\As K H2 ys ((acc.take i).map fun w=>(List.range N).map fun x:Nat=>(((acc.map g).idxOf (g (w++[(x:Int)])):Nat):Int))/\σ2=[some (.int N),some (.ref a),some (.ref m),some (.ref p),o1,o,some (.ref q)]):=⟨_,fun _ _ _=>Iff.rfl⟩
   refine forL (xs:=xs) Pw ((hPw _ _ _).mpr ⟨[],_,sq,Same.new hq _ _ hp',Ae,As.nil,rfl⟩) (fun i σ2 H2 _ h2=>by obtain⟨_,_,s2,_⟩:=(hPw _ _ _).mp h2;exact s2.seq ha) (fun i x σ2 H2 hx h2=>?_) (fun σ2 H2 h2=>?_)
   ·obtain⟨ys,o,s2,hp2,hq2,hY,rfl⟩:=(hPw _ _ _).mp h2
    obtain⟨tw,w,hwi,rfl,htw⟩:=hA.at hx
    have hwm:=List.mem_of_getElem? hwi
    have hwl:=haw w hwm
    have et:acc.take (i+1)=acc.take i++[w]:=by rw[List.take_add_one,hwi];rfl
    have hyl:ys.length<=64:=by rw[hY.1,List.length_map,List.length_take];omega
    walk_at "rd"
    refine⟨.inl ⟨rfl,_,SqL.of hq2⟩,by omega,by omega,?_⟩
    rw[Int.toNat_natCast]
    obtain⟨Pc,hPc⟩:∃Pc:Nat->List V->St->Hp->Prop,∀j us σ4 H4,Pc j us σ4 H4↔(Same H2 H4/\us=((List.range j).map fun x:Nat=>(((acc.map g).idxOf (g (w++[(x:Int)])):Nat):Int)).map V.int/\∃o,σ4=[o,some (.ref p),some (.ref m),some (.ref tw)]):=⟨_,fun _ _ _ _=>Iff.rfl⟩
    refine Iu_ Pc ((hPc _ _ _ _).mpr ⟨Same.refl _,rfl,none,rfl⟩) (by omega) (fun j us σ4 H4 _ h4=>?_) (fun j us σ4 H4 hj h4=>?_) (fun us σ4 H4 h4 D hD=>?_)
    ·obtain⟨_,rfl,_⟩:=(hPc _ _ _ _).mp h4
     rw[List.length_map,List.length_map,List.length_range];omega
    ·obtain⟨s4,rfl,o4,rfl⟩:=(hPc _ _ _ _).mp h4
     rw[Int.zero_add]
     have s24:=s2.trans s4
     obtain⟨u,hu1,hu2⟩:=hM.get (Bj_ (n:=N) hwm hj)
     have hmem:=Kr_ (hin w hwm j hj)
     walk_at "rd"
     refine⟨.inr ⟨_,.inl (s4 _ _ hp2)⟩,by omega,fun p1 hp1=>Kq.ofS (Same.new hp1 _ _ (s24 _ _ htw)) Ae (by simp;omega) fun q3 H5 s5 hq5=>?_⟩
     have s45:=(Same.new hp1 (o:=.tup [V.int j])).trans s5
     have s25:=s24.trans s45
     have hdg:DGet H5 m (.ref q3) (some (.ref u)):=by rw[<-hu1];exact DGet.t (k:=wkey (w++[(j:Int)])) (s25 _ _ hm) (by rw[EF,List.map_append];exact hq5)
     refine⟨_,hdg,_,DGet.t (k:=wkey (g (w++[(j:Int)]))) ((s4.trans s45) _ _ hp2) (by rw[EF];exact s25 _ _ hu2),(hPc _ _ _ _).mpr ⟨s4.trans s45,?_,_,rfl⟩⟩
     rw[IX (hkn _ (Nat.le_refl _)) hmem,List.range_succ,List.map_append,List.map_append]
     rfl
    ·obtain⟨s4,rfl,o4,rfl⟩:=(hPc _ _ _ _).mp h4
     refine⟨D,rfl,_,.inl ⟨SqL.of Ae,fun t ht=>?_⟩⟩
     have sDt:=(s4.newT hD).newT ht (o:=.tup (((List.range N).map fun x:Nat=>(((acc.map g).idxOf (g (w++[(x:Int)])):Nat):Int)).map V.int))
     have hq5:=sDt _ _ hq2
     refine⟨_,hq5,by omega,(hPw _ _ _).mpr ⟨ys++[.ref t],_,(s2.trans sDt).over hqH,by rw[Ah hpq];exact sDt _ _ hp2,Ae,?_,rfl⟩⟩
     rw[et,List.map_append]
     exact ((hY.mono (TK.of sDt)).snoc Ae).mono (TK.lst hq5)
   ·obtain⟨ys,o,s2,hp2,hq2,hY,rfl⟩:=(hPw _ _ _).mp h2
    rw[hA.1,List.take_length]at hY
    walk_at "rd"
    exact⟨_,.inl ⟨SqL.of hq2,fun t ht=>k t ys _ (s2.newT ht) Ae (hY.mono (TK.of (Same.new ht)))⟩⟩
theorem W3 (l:List (List Int)):∀(s:List (List Int)) (v:List Int),v∈l.foldl ins s↔v∈s\/v∈l:=by
 induction l with
 |nil=>intro s v;simp
 |cons a l ih=>
  intro s v
  rw[List.foldl_cons,ih]
  unfold ins
  split
  ·rename_i h
   constructor
   ·rintro (h1|h1)
    ·exact .inl h1
    ·exact .inr (List.mem_cons_of_mem _ h1)
   ·rintro (h1|h1)
    ·exact .inl h1
    ·rcases List.mem_cons.mp h1 with rfl|h1
     ·exact .inl h
     ·exact .inr h1
  ·constructor
   ·rintro (h1|h1)
    ·rcases List.mem_append.mp h1 with h1|h1
     ·exact .inl h1
     ·rw[List.mem_singleton.mp h1];exact .inr (List.mem_cons_self ..)
    ·exact .inr (List.mem_cons_of_mem _ h1)
   ·rintro (h1|h1)
    ·exact .inl (List.mem_append_left _ h1)
    ·rcases List.mem_cons.mp h1 with rfl|h1
     ·exact .inl (by simp)
     ·exact .inr h1
theorem C7    : v∈CM L W↔v∈W \/ ∃a∈W,∃x:Nat,x<L/\v=a++[(x:Int)]:=by
 unfold CM
 rw[W3,W3]
 simp only[List.not_mem_nil,false_or,List.mem_flatMap,extW,List.mem_map,List.mem_range]
 constructor
 ·rintro (h|⟨a,ha,x,hx,rfl⟩)
  ·exact .inl h
  ·exact .inr ⟨a,ha,x,hx,rfl⟩
 ·rintro (h|⟨a,ha,x,hx,rfl⟩)
  ·exact .inl h
  ·exact .inr ⟨a,ha,x,hx,rfl⟩
theorem FV   : c∈Kt R E ↔ ∃r∈R,∃e∈E,c=r++e:=by
 unfold Kt
 rw[W3]
 simp only[List.not_mem_nil,false_or,List.mem_flatMap,List.mem_map]
 constructor
 ·rintro⟨r,hr,e,he,rfl⟩;exact⟨r,hr,e,he,rfl⟩
 ·rintro⟨r,hr,e,he,rfl⟩;exact⟨r,hr,e,he,rfl⟩
abbrev Bk:=List (List Int×Int)
def Grow (es es':Bk):Prop:=∀v m,mkO es v=some m->mkO es' v=some m
theorem Grow.refl (es:Bk):Grow es es:=fun _ _ h=>h
theorem Grow.snoc (es:Bk)(v:List Int)(m:Int):Grow es (es++[(v,m)]):=fun u n h=>by
 unfold mkO at h ⊢
 rw[List.find?_append]
 cases hf:es.find? (fun e=>decide (e.1=u)) with
 |none=>rw[hf]at h;cases h
 |some e=>rw[hf]at h;exact h
theorem Bk_    (h:mkO es v=some m):(v,m)∈es:=by
 unfold mkO at h
 cases hf:es.find? (fun e=>decide (e.1=v)) with
 |none=>rw[hf]at h;cases h
 |some e=>
  rw[hf]at h
  have h1:=List.mem_of_find?_eq_some hf
  have h2:=List.find?_some hf
  simp at h h2
  subst h h2
  exact h1
theorem Bl_   : v∈es.map (·.1) ↔ ∃m,mkO es v=some m:=by
 constructor
 ·intro h
  cases hm:mkO es v with
  |some m=>exact⟨m,rfl⟩
  |none=>
   obtain⟨e,he,rfl⟩:=List.mem_map.mp h
   unfold mkO at hm
   rw[Option.map_eq_none_iff,List.find?_eq_none]at hm
   exact absurd (decide_eq_true rfl) (hm e he)
 ·rintro⟨m,hm⟩
  exact List.mem_map.mpr ⟨_,Bk_ hm,rfl⟩
def RQ (E:List (List Int))(es:Bk)(v u:List Int):Prop:=∃e∈E,∃m n,mkO es (v++e)=some m/\mkO es (u++e)=some n/\m≠n
theorem RQ.symm    (h:RQ E es v u):RQ E es u v:=by
 obtain⟨e,he,m,n,a,b,c⟩:=h
 exact⟨e,he,n,m,b,a,Ne.symm c⟩
theorem RQ.mono    (h:RQ E es v u)(hE:∀e∈E,e∈E')(g:Grow es es'):RQ E' es' v u:=by
 obtain⟨e,he,m,n,a,b,c⟩:=h
 exact⟨e,hE e he,m,n,g _ _ a,g _ _ b,c⟩
def Pend (L:Nat)(W E:List (List Int))(es:Bk):Prop:=∃a∈W,∃x:Nat,x<L/\∀u∈W,RQ E es (a++[(x:Int)]) u
theorem Pend.mono    (h:Pend L W E es)(g:Grow es es'):Pend L W E es':=by
 obtain⟨a,ha,x,hx,k⟩:=h
 exact⟨a,ha,x,hx,fun u hu=>(k u hu).mono (fun _ z=>z) g⟩
structure Tb (L most:Nat)(W E:List (List Int))(es:Bk):Prop where
 l1:1<=L
 l6:L<=6
 m12:most<=12
 w0:W[0]?=some []
 wW:∀v∈W,isW L v=true/\v.length<W.length
 wn:W.length<=most
 e0:E.take L=(List.range L).map fun x:Nat=>[(x:Int)]
 eW:∀e∈E,isW L e=true/\e ≠ []
 nd:(es.map (·.1)).Nodup
 bW:∀p∈es,isW L p.1=true/\0<=p.2/\p.2<=1000000000
 dist:∀(i j:Nat) (v u:List Int),W[i]?=some v->W[j]?=some u->i≠j->RQ E es v u
 jj:E.length+1<=W.length+L\/(E.length=W.length+L/\Pend L W E es)
theorem Tb.en    (t:Tb L most W E es):E.length<=most+L:=by
 have:=t.wn
 rcases t.jj with h|h
 ·omega
 ·omega
theorem Tb.put {L most:Nat}{W E:List (List Int)}{es:Bk}(t:Tb L most W E es){v:List Int}{m:Int}(hn:v∉es.map (·.1))(hv:isW L v=true)(h0:0<=m)(h9:m<=1000000000):Tb L most W E (es++[(v,m)]) where
 l1:=t.l1
 l6:=t.l6
 m12:=t.m12
 w0:=t.w0
 wW:=t.wW
 wn:=t.wn
 e0:=t.e0
 eW:=t.eW
 nd:=by
  rw[List.map_append,List.nodup_append]
  exact⟨t.nd,by simp,fun a ha b hb=>by rw[List.mem_singleton.mp hb];intro z;subst z;exact hn ha⟩
 bW:=fun p hp=>by
  rcases List.mem_append.mp hp with hp|hp
  ·exact t.bW p hp
  ·rw[List.mem_singleton.mp hp];exact⟨hv,h0,h9⟩
 dist:=fun i j v' u h1 h2 h3=>(t.dist i j v' u h1 h2 h3).mono (fun _ z=>z) (Grow.snoc es v m)
 jj:=by
  rcases t.jj with h|h
  ·exact .inl h
  ·exact .inr ⟨h.1,h.2.mono (Grow.snoc es v m)⟩
def Full (L:Nat)(W E:List (List Int))(es:Bk):Prop:=∀c∈Kt (CM L W) E,∃m,mkO es c=some m
def gOf (E:List (List Int))(es:Bk)(v:List Int):List Int:=E.map fun e=>(mkO es (v++e)).getD 0
theorem Fs_    (f:Full L W E es)  (hv:v∈CM L W):(E.map fun e=>oV (mkO es (v++e)))=(gOf E es v).map V.int:=by
 unfold gOf
 rw[List.map_map]
 refine List.map_congr_left fun e he=>?_
 obtain⟨m,hm⟩:=f (v++e) (FV.mpr ⟨v,hv,e,he,rfl⟩)
 show oV (mkO es (v++e))=V.int ((mkO es (v++e)).getD 0)
 rw[hm];rfl
theorem OP    (f:Full L W E es)  (hv:v∈CM L W)(hu:u∈CM L W):gOf E es v≠gOf E es u↔RQ E es v u:=by
 constructor
 ·intro h
  refine Classical.byContradiction fun hno=>h ?_
  unfold gOf
  refine List.map_congr_left fun e he=>?_
  obtain⟨m,hm⟩:=f (v++e) (FV.mpr ⟨v,hv,e,he,rfl⟩)
  obtain⟨n,hn⟩:=f (u++e) (FV.mpr ⟨u,hu,e,he,rfl⟩)
  rw[hm,hn]
  exact Classical.byContradiction fun hne=>hno ⟨e,he,m,n,hm,hn,hne⟩
 ·rintro⟨e,he,m,n,hm,hn,hne⟩ heq
  unfold gOf at heq
  have:=List.map_inj_left.mp heq e he
  rw[hm,hn]at this
  exact hne this
theorem Tb.nodup    (t:Tb L most W E es)(f:Full L W E es):(W.map (gOf E es)).Nodup:=by
 rw[List.nodup_iff_pairwise_ne,List.pairwise_map,List.pairwise_iff_getElem]
 intro i j hi hj hij
 exact (OP f (C7.mpr (.inl (List.getElem_mem hi))) (C7.mpr (.inl (List.getElem_mem hj)))).mpr (t.dist i j _ _ (List.getElem?_eq_getElem hi) (List.getElem?_eq_getElem hj) (by omega))
theorem Tb.more    (t:Tb L most W E es)(f:Full L W E es)  (h:(CM L W).find? (fun v=>decide (gOf E es v∉W.map (gOf E es)))=some v):(v∈CM L W/\v∉W/\isW L v=true/\v.length<=W.length)/\(W.length<most->Tb L most (W++[v]) E es):=by
 have h1:=List.mem_of_find?_eq_some h
 have h2:=List.find?_some h
 have h2:gOf E es v∉W.map (gOf E es):=of_decide_eq_true h2
 have hnW:v∉W:=fun z=>h2 (List.mem_map_of_mem z)
 have hap:∀u∈W,RQ E es v u:=fun u hu=>(OP f h1 (C7.mpr (.inl hu))).mp fun z=>h2 (by rw[z];exact List.mem_map_of_mem hu)
 have hv:isW L v=true/\v.length<=W.length:=by
  rcases C7.mp h1 with h|⟨a,ha,x,hx,rfl⟩
  ·exact absurd h hnW
  ·have:=t.wW a ha
   exact⟨Cg.mpr fun y hy=>by
    rcases List.mem_append.mp hy with hy|hy
    ·exact Cg.mp this.1 y hy
    ·rw[List.mem_singleton.mp hy];omega,by rw[List.length_append,List.length_singleton];omega⟩
 refine⟨⟨h1,hnW,hv.1,hv.2⟩,fun hm=>⟨t.l1,t.l6,t.m12,?_,fun u hu=>?_,by simp;omega,t.e0,t.eW,t.nd,t.bW,fun i j a b hi hj hij=>?_,?_⟩⟩
 ·have:=(List.getElem?_eq_some_iff.mp t.w0).1
  rw[List.getElem?_append_left this];exact t.w0
 ·rw[List.length_append,List.length_singleton]
  rcases List.mem_append.mp hu with hu|hu
  ·have:=t.wW u hu;exact⟨this.1,by omega⟩
  ·rw[List.mem_singleton.mp hu];exact⟨hv.1,by omega⟩
 ·have hi':=(List.getElem?_eq_some_iff.mp hi).1
  have hj':=(List.getElem?_eq_some_iff.mp hj).1
  rw[List.length_append,List.length_singleton]at hi' hj'
  by_cases hil:i<W.length
  ·rw[List.getElem?_append_left hil]at hi
   by_cases hjl:j<W.length
   ·rw[List.getElem?_append_left hjl]at hj
    exact t.dist i j a b hi hj hij
   ·rw[List.getElem?_append_right (by omega),show j-W.length=0 by omega]at hj
    cases hj
    exact (hap a (List.mem_of_getElem? hi)).symm
  ·rw[List.getElem?_append_right (by omega),show i-W.length=0 by omega]at hi
   cases hi
   rw[List.getElem?_append_left (by omega)]at hj
   exact hap b (List.mem_of_getElem? hj)
 ·rw[List.length_append,List.length_singleton]
  rcases t.jj with h|h
  ·exact .inl (by omega)
  ·exact .inl (by omega)
theorem Tb.none    (t:Tb L most W E es)(f:Full L W E es)(h:(CM L W).find? (fun v=>decide (gOf E es v∉W.map (gOf E es)))=none):¬ Pend L W E es/\(∀a∈W,∀x:Nat,x<L->gOf E es (a++[(x:Int)])∈W.map (gOf E es)):=by
 have hall:∀v∈CM L W,gOf E es v∈W.map (gOf E es):=fun v hv=>by
  have:=List.find?_eq_none.mp h v hv
  simpa using this
 refine⟨fun ⟨a,ha,x,hx,k⟩=>?_,fun a ha x hx=>hall _ (C7.mpr (.inr ⟨a,ha,x,hx,rfl⟩))⟩
 have hr:=C7.mpr (.inr ⟨a,ha,x,hx,rfl⟩)
 obtain⟨u,hu,e⟩:=List.mem_map.mp (hall _ hr)
 exact (OP f hr (C7.mpr (.inl hu))).mpr (k u hu) e.symm
theorem Tb.end    (t:Tb L most W E es)  (hx:x<L):E[x]?=some [(x:Int)]:=by
 have h:=congrArg (fun l=>l[x]?) t.e0
 rw[List.getElem?_take,if_pos hx,List.getElem?_map,List.getElem?_range hx]at h
 exact h
theorem Tb.endl    (t:Tb L most W E es):L<=E.length:=by
 have h:=congrArg List.length t.e0
 rw[List.length_take,List.length_map,List.length_range]at h
 omega
structure GuessOk (L:Nat)(W E:List (List Int))(es:Bk)(marks ways:List (List Int)):Prop where
 ml:marks.length=W.length
 sl:∀row∈marks,row.length=L
 m:∀(i:Nat) (v:List Int) (x:Nat),W[i]?=some v->x<L->∃row y,marks[i]?=some row/\row[x]?=some y/\mkO es (v++[(x:Int)])=some y
 wl:ways.length=W.length
 rl:∀row∈ways,row.length=L
 go:∀(i:Nat) (v:List Int) (x:Nat),W[i]?=some v->x<L->∃(row:List Int) (k:Nat) (u:List Int),ways[i]?=some row/\row[x]?=some (k:Int)/\W[k]?=some u/\∀e∈E,∃y,mkO es (v++[(x:Int)]++e)=some y/\mkO es (u++e)=some y
theorem GuessOk.mono      (g:GuessOk L W E es marks ways)(h:Grow es es'):GuessOk L W E es' marks ways:=by
 refine⟨g.ml,g.sl,fun i v x hv hx=>?_,g.wl,g.rl,fun i v x hv hx=>?_⟩
 ·obtain⟨row,y,a,b,c⟩:=g.m i v x hv hx
  exact⟨row,y,a,b,h _ _ c⟩
 ·obtain⟨row,k,u,a,b,c,d⟩:=g.go i v x hv hx
  refine⟨row,k,u,a,b,c,fun e he=>?_⟩
  obtain⟨y,y1,y2⟩:=d e he
  exact⟨y,h _ _ y1,h _ _ y2⟩
theorem Ks_ {α:Type}[BEq α][LawfulBEq α]{l:List α}{a:α}(h:a∈l):l[l.idxOf a]?=some a/\l.idxOf a<l.length:=by
 have h1:=List.idxOf_lt_length_iff.mpr h
 exact⟨by rw[List.getElem?_eq_getElem h1,List.getElem_idxOf],h1⟩
theorem Tb.guess    (t:Tb L most W E es)(f:Full L W E es)(h:∀a∈W,∀x:Nat,x<L->gOf E es (a++[(x:Int)])∈W.map (gOf E es)):GuessOk L W E es (W.map fun v=>(gOf E es v).take L) (W.map fun v=>(List.range L).map fun x:Nat=>(((W.map (gOf E es)).idxOf (gOf E es (v++[(x:Int)])):Nat):Int)):=by
 refine⟨by rw[List.length_map],fun row hr=>?_,fun i v x hv hx=>?_,by rw[List.length_map],fun row hr=>?_,fun i v x hv hx=>?_⟩
 ·obtain⟨v,_,rfl⟩:=List.mem_map.mp hr
  have:=t.endl
  unfold gOf
  rw[List.length_take,List.length_map];omega
 ·have he:=t.end hx
  obtain⟨m,hm⟩:=f (v++[(x:Int)]) (FV.mpr ⟨v,C7.mpr (.inl (List.mem_of_getElem? hv)),[(x:Int)],List.mem_of_getElem? he,rfl⟩)
  refine⟨_,m,by rw[List.getElem?_map,hv];rfl,?_,hm⟩
  rw[List.getElem?_take,if_pos hx]
  unfold gOf
  rw[List.getElem?_map,he]
  show some ((mkO es (v++[(x:Int)])).getD 0)=_
  rw[hm];rfl
 ·obtain⟨v,_,rfl⟩:=List.mem_map.mp hr
  rw[List.length_map,List.length_range]
 ·have hvW:=List.mem_of_getElem? hv
  have hg:=h v hvW x hx
  obtain⟨q1,q2⟩:=Ks_ hg
  obtain⟨k,hk⟩:∃k,k=(W.map (gOf E es)).idxOf (gOf E es (v++[(x:Int)])):=⟨_,rfl⟩
  rw[<-hk]at q1 q2
  rw[List.length_map]at q2
  rw[List.getElem?_map,List.getElem?_eq_getElem q2]at q1
  have q3:gOf E es W[k]=gOf E es (v++[(x:Int)]):=Option.some.inj q1
  refine⟨_,k,W[k],by rw[List.getElem?_map,hv];rfl,by rw[List.getElem?_map,List.getElem?_range hx,hk];rfl,List.getElem?_eq_getElem q2,fun e he=>?_⟩
  obtain⟨y,hy⟩:=f (v++[(x:Int)]++e) (FV.mpr ⟨_,C7.mpr (.inr ⟨v,hvW,x,hx,rfl⟩),e,he,rfl⟩)
  obtain⟨z,hz⟩:=f (W[k]++e) (FV.mpr ⟨_,C7.mpr (.inl (List.getElem_mem q2)),e,he,rfl⟩)
  have:=List.map_inj_left.mp q3 e he
  rw[hy,hz]at this
  have e2:z=y:=this
  exact⟨y,hy,by rw[hz,e2]⟩
theorem Tb.wf    (t:Tb L most W E es)   (g:GuessOk L W E es marks ways):WfS L marks ways:=by
 have h0:=(List.getElem?_eq_some_iff.mp t.w0).1
 have:=t.wn
 have:=t.m12
 have:=t.l1
 have:=t.l6
 have hml:=g.ml
 refine⟨⟨by omega,by omega,by rw[List.length_replicate];omega,by rw[List.length_replicate];omega,by rw[List.length_replicate,g.wl,g.ml],fun row hr=>?_,fun m hm=>by rw[(List.mem_replicate.mp hm).2];omega⟩,fun row hr=>by rw[g.sl row hr]⟩
 refine⟨by rw[g.rl row hr],fun y hy=>?_⟩
 obtain⟨i,hi⟩:=List.mem_iff_getElem?.mp hr
 have hil:=(List.getElem?_eq_some_iff.mp hi).1
 rw[g.wl]at hil
 obtain⟨x,hx⟩:=List.mem_iff_getElem?.mp hy
 have hxl:=(List.getElem?_eq_some_iff.mp hx).1
 rw[g.rl row hr]at hxl
 obtain⟨row',k,u,a,b,c,_⟩:=g.go i _ x (List.getElem?_eq_getElem hil) hxl
 rw[hi]at a
 cases a
 rw[hx]at b
 cases b
 have:=(List.getElem?_eq_some_iff.mp c).1
 rw[List.length_replicate];omega
theorem GuessOk.room    (t:Tb L most W E es)   (g:GuessOk L W E es marks ways)  (hv:isW L v=true):∀i:Nat,∃(k:Nat) (u:List Int),Fp ways (v.take i)=(k:Int)/\W[k]?=some u:=fun i=>by
 have wf:=t.wf g
 obtain⟨h0,h1⟩:=wf.walk hv i
 rw[g.ml]at h1
 obtain⟨k,hk⟩:=Int.eq_ofNat_of_zero_le h0
 rw[hk]at h1
 exact⟨k,W[k]'(by omega),hk,List.getElem?_eq_getElem (by omega)⟩
theorem GuessOk.step {L most:Nat}{W E:List (List Int)}{es:Bk}(t:Tb L most W E es){marks:List (List Int)}{ways:List (List Int)}(g:GuessOk L W E es marks ways){v:List Int}(hv:isW L v=true){i k:Nat}{a:List Int}{y:Int}(hy:v[i]?=some y)(hk:Fp ways (v.take i)=(k:Int))(ha:W[k]?=some a):∃(x k':Nat) (u:List Int),y=(x:Int)/\x<L/\Fp ways (v.take (i+1))=(k':Int)/\W[k']?=some u/\∀e∈E,∃m,mkO es (a++[(x:Int)]++e)=some m/\mkO es (u++e)=some m:=by
 have hb:=Cg.mp hv y (List.mem_of_getElem? hy)
 obtain⟨x,rfl⟩:=Int.eq_ofNat_of_zero_le hb.1
 obtain⟨row,k',u,q1,q2,q3,q4⟩:=g.go k a x ha (by omega)
 refine⟨x,k',u,rfl,by omega,?_,q3,q4⟩
 rw[M5 hy,hk]
 exact SA (by rw[show ((k:Int)).toNat=k by omega];exact q1) (by rw[show ((x:Int)).toNat=x by omega];exact q2)
theorem Tb.halved {L most:Nat}{W E:List (List Int)}{es:Bk}(t:Tb L most W E es)(hE:E.length+1<=W.length+L){marks:List (List Int)}{ways:List (List Int)}(g:GuessOk L W E es marks ways){v:List Int}(hv:isW L v=true){i k k':Nat}(hi':i+1<v.length){a u:List Int}{mk b:Int}(hk:Fp ways (v.take i)=(k:Int))(ha:W[k]?=some a)(h1:mkO es (a++v.drop i)=some b)(hne:b≠mk)(hk':Fp ways (v.take (i+1))=(k':Int))(hu:W[k']?=some u)(h2:mkO es (u++v.drop (i+1))=some mk):Tb L most W (E++[v.drop (i+1)]) es/\Pend L W (E++[v.drop (i+1)]) es:=by
 have hi:i<v.length:=by omega
 obtain⟨y,hy⟩:∃y,v[i]?=some y:=⟨v[i],by simp⟩
 obtain⟨x,k2,u2,rfl,hx,q1,q2,q3⟩:=g.step t hv hy hk ha
 have ek:k2=k':=by rw[hk']at q1;exact (Int.ofNat.inj q1).symm
 subst ek
 rw[hu]at q2
 cases q2
 have hdr:v.drop i=(x:Int)::v.drop (i+1):=by
  have:=(List.getElem?_eq_some_iff.mp hy)
  rw[List.drop_eq_getElem_cons hi,this.2]
 have hpend:Pend L W (E++[v.drop (i+1)]) es:=by
  refine⟨a,List.mem_of_getElem? ha,x,hx,fun w' hw'=>?_⟩
  obtain⟨j,hj⟩:=List.mem_iff_getElem?.mp hw'
  by_cases hjk:j=k2
  ·subst hjk
   rw[hu]at hj
   cases hj
   refine⟨v.drop (i+1),by simp,b,mk,?_,h2,hne⟩
   rw[hdr]at h1
   rw[List.append_assoc];exact h1
  ·obtain⟨e,he,m,n,z1,z2,z3⟩:=t.dist j k2 _ _ hj hu hjk
   obtain⟨y2,y3,y4⟩:=q3 e he
   rw[z2]at y4
   cases y4
   exact⟨e,List.mem_append_left _ he,n,m,y3,z1,Ne.symm z3⟩
 refine⟨⟨t.l1,t.l6,t.m12,t.w0,t.wW,t.wn,?_,fun e he=>?_,t.nd,t.bW,fun i j v u h1 h2 h3=>(t.dist i j v u h1 h2 h3).mono (fun e he=>List.mem_append_left _ he) (Grow.refl _),?_⟩,hpend⟩
 ·rw[List.take_append_of_le_length t.endl];exact t.e0
 ·rcases List.mem_append.mp he with he|he
  ·exact t.eW e he
  ·rw[List.mem_singleton.mp he]
   exact⟨Cg.mpr fun y hy=>Cg.mp hv y (List.mem_of_mem_drop hy),fun z=>by have:=congrArg List.length z;rw[List.length_drop]at this;simp at this;omega⟩
 ·rw[List.length_append,List.length_singleton]
  by_cases hlt:E.length+1<W.length+L
  ·exact .inl (by omega)
  ·exact .inr ⟨by omega,hpend⟩
structure AS where
 L:Nat
 most:Nat
 W:List (List Int)
 E:List (List Int)
 G:List (List Int)
 gs:Option (List (List Int)×List (List Int))
 wr:Option (List Int)
 es:Bk
inductive Wish where
 | ask (c:List Int)
 | shown (m ws:List (List Int))
 | done (m ws:List (List Int))
 | spent (c:List Int)
inductive HR where
 | ask (c:List Int)
 | fin (hi:Nat)
def OQ (L:Nat)(W E:List (List Int))(es:Bk):List (List Int):=(Kt (CM L W) E).filter fun c=>(mkO es c).isNone
def HQ (L:Nat)(W E:List (List Int))(es:Bk):List (List Int):=W.map fun v=>(gOf E es v).take L
def lsay (m ws:List (List Int))(v:List Int):Int:=(sayW m ws v).getD (v.length-1) 0
def Nf (L:Nat)(W E:List (List Int))(es:Bk):List (List Int):=W.map fun v=>(List.range L).map fun x:Nat=>(((W.map (gOf E es)).idxOf (gOf E es (v++[(x:Int)])):Nat):Int)
def Gi (es:Bk)(m ws:List (List Int)):Option (List Int):=(es.find? fun e=>decide (lsay m ws e.1≠e.2)).map (·.1)
def N2 (W ws:List (List Int))(v:List Int)(i:Nat):List Int:=W.getD (Fp ws (v.take i)).toNat []
def Ng (es:Bk)(W ws:List (List Int))(v:List Int)(mk:Int):Nat->Nat->Nat->HR
 |0,_,hi=>.fin hi
 |f+1,lo,hi=>if hi-lo > 1 then (match mkO es (N2 W ws v ((lo+hi) / 2)++v.drop ((lo+hi) / 2)) with
   |none=>.ask (N2 W ws v ((lo+hi) / 2)++v.drop ((lo+hi) / 2))
   |some t=>if t=mk then Ng es W ws v mk f lo ((lo+hi) / 2) else Ng es W ws v mk f ((lo+hi) / 2) hi) else .fin hi
def M7 (L:Nat)(W E:List (List Int))(es:Bk):Option (List Int):=(CM L W).find? fun v=>decide (gOf E es v∉W.map (gOf E es))
def KL (s:AS):AS×Option Wish:=match M7 s.L s.W s.E s.es with
 |some r=>if s.W.length=s.most then (s,some (.spent r)) else ({s with W:=s.W++[r],G:=OQ s.L (s.W++[r]) s.E s.es},none)
 |none=>match Gi s.es (HQ s.L s.W s.E s.es) (Nf s.L s.W s.E s.es) with
  |none=>({s with gs:=some (HQ s.L s.W s.E s.es,Nf s.L s.W s.E s.es),wr:=none},some (.shown (HQ s.L s.W s.E s.es) (Nf s.L s.W s.E s.es)))
  |some v=>({s with gs:=some (HQ s.L s.W s.E s.es,Nf s.L s.W s.E s.es),wr:=some v},none)
def Tw (s:AS)(v:List Int)(m ws:List (List Int)):AS×Option Wish:=match Ng s.es s.W ws v (lsay m ws v) v.length 0 (v.length-1) with
 |.ask c=>(s,some (.ask c))
 |.fin hi=>({s with wr:=none,E:=s.E++[v.drop hi],G:=OQ s.L s.W (s.E++[v.drop hi]) s.es},none)
def Gp (s:AS):AS×Option Wish:=match s.G with
 |c::r=>({s with G:=r},some (.ask c))
 |[]=>match s.wr with
  |some v=>match s.gs with
   |some (m,ws)=>Tw s v m ws
   |none=>(s,none)
  |none=>KL s
structure OkX (x:Option (List Int))(B:Nat)(s:AS):Prop where
 tb:Tb s.L s.most s.W s.E s.es
 cov:∀c∈Kt (CM s.L s.W) s.E,(∃m,mkO s.es c=some m)\/c∈s.G\/x=some c
 gn:s.G.Nodup
 gW:∀c∈s.G,(isW s.L c=true/\c ≠ [])/\mkO s.es c=none/\c.length<=B+(s.most+1)*s.E.length
 le:∀e∈s.E,e.length+(s.most+1)<=B+(s.most+1)*s.E.length
 lb:∀p∈s.es,p.1.length<=B+(s.most+1)*s.E.length+(if s.wr.isSome then s.most else 0)
 ne:∀p∈s.es,p.1 ≠ []
 wr:∀v,s.wr=some v->s.G=[]/\s.E.length+1<=s.W.length+s.L/\isW s.L v=true/\v.length<=B+(s.most+1)*s.E.length/\∃m ws t,s.gs=some (m,ws)/\GuessOk s.L s.W s.E s.es m ws/\mkO s.es v=some t/\t≠lsay m ws v
theorem OkX.full {B:Nat}  (o:OkX none B s)(h:s.G=[]):Full s.L s.W s.E s.es:=fun c hc=>by
 rcases o.cov c hc with z|z|z
 ·exact z
 ·rw[h]at z;cases z
 ·cases z
theorem OkX.lens  {B:Nat}  (o:OkX x B s):(s.most+1)*s.E.length<=(s.most+1)*(s.most+s.L):=Nat.mul_le_mul_left _ o.tb.en
theorem OkX.cell {x:Option (List Int)}{B:Nat}{s:AS}{W:List (List Int)}{E:List (List Int)}(hW:∀v∈W,isW s.L v=true/\v.length<W.length)(hn:W.length<=s.most)(hE:∀e∈E,(isW s.L e=true/\e ≠ [])/\e.length+(s.most+1)<=B+(s.most+1)*E.length){c:List Int}(hc:c∈Kt (CM s.L W) E):(isW s.L c=true/\c ≠ [])/\c.length<=B+(s.most+1)*E.length:=by
 obtain⟨r,hr,e,he,rfl⟩:=FV.mp hc
 have h2:=hE e he
 have h1:isW s.L r=true/\r.length<=W.length:=by
  rcases C7.mp hr with h|⟨a,ha,y,hy,rfl⟩
  ·have:=hW r h;exact⟨this.1,by omega⟩
  ·have:=hW a ha
   exact⟨Cg.mpr fun z hz=>by
    rcases List.mem_append.mp hz with hz|hz
    ·exact Cg.mp this.1 z hz
    ·rw[List.mem_singleton.mp hz];omega,by rw[List.length_append,List.length_singleton];omega⟩
 refine⟨⟨Cg.mpr fun z hz=>?_,fun z=>h2.1.2 (List.append_eq_nil_iff.mp z).2⟩,by rw[List.length_append];omega⟩
 rcases List.mem_append.mp hz with hz|hz
 ·exact Cg.mp h1.1 z hz
 ·exact Cg.mp h2.1.1 z hz
theorem Tx (R E:List (List Int)):(Kt R E).Nodup:=I0 List.nodup_nil
theorem Bm_ {B:Nat}{s:AS}{W E:List (List Int)}(hW:∀v∈W,isW s.L v=true/\v.length<W.length)(hn:W.length<=s.most)(hE:∀e∈E,(isW s.L e=true/\e ≠ [])/\e.length+(s.most+1)<=B+(s.most+1)*E.length):(∀c∈Kt (CM s.L W) E,(∃m,mkO s.es c=some m)\/c∈OQ s.L W E s.es\/(none:Option (List Int))=some c)/\(OQ s.L W E s.es).Nodup/\∀c∈OQ s.L W E s.es,(isW s.L c=true/\c ≠ [])/\mkO s.es c=none/\c.length<=B+(s.most+1)*E.length:=by
 refine⟨fun c hc=>?_,(Tx _ _).filter _,fun c hc=>?_⟩
 ·cases hm:mkO s.es c with
  |some m=>exact .inl ⟨m,rfl⟩
  |none=>exact .inr (.inl (List.mem_filter.mpr ⟨hc,by rw[hm];rfl⟩))
 ·obtain⟨h1,h2⟩:=List.mem_filter.mp hc
  have:=OkX.cell (x:=none) (s:=s) hW hn hE h1
  exact⟨this.1,by simpa using h2,this.2⟩
theorem Bn_ {L most:Nat}{W E:List (List Int)}{es:Bk}(t:Tb L most W E es){m ws:List (List Int)}(g:GuessOk L W E es m ws){v:List Int}(hv:isW L v=true){mk:Int}:∀(f lo hi:Nat),hi-lo<=f+1->lo<hi->hi<=v.length-1->(∃b,mkO es (N2 W ws v lo++v.drop lo)=some b/\b≠mk)->mkO es (N2 W ws v hi++v.drop hi)=some mk->match Ng es W ws v mk f lo hi with
   |.ask c=>mkO es c=none/\∃i,i<v.length-1/\c=N2 W ws v i++v.drop i
   |.fin h=>0<h/\h<=v.length-1/\(∃b,mkO es (N2 W ws v (h-1)++v.drop (h-1))=some b/\b≠mk)/\mkO es (N2 W ws v h++v.drop h)=some mk
 |0,lo,hi,h1,h2,h3,h4,h5=>by
  have:lo=hi-1:=by omega
  subst this
  exact⟨by omega,h3,h4,h5⟩
 |f+1,lo,hi,h1,h2,h3,h4,h5=>by
  unfold Ng
  by_cases hg:hi-lo > 1
  ·rw[if_pos hg]
   cases hm:mkO es (N2 W ws v ((lo+hi) / 2)++v.drop ((lo+hi) / 2)) with
   |none=>exact⟨hm,(lo+hi) / 2,by omega,rfl⟩
   |some b=>
    dsimp only
    by_cases hb:b=mk
    ·rw[if_pos hb]
     subst hb
     exact Bn_ t g hv f lo ((lo+hi) / 2) (by omega) (by omega) (by omega) h4 hm
    ·rw[if_neg hb]
     exact Bn_ t g hv f ((lo+hi) / 2) hi (by omega) (by omega) h3 ⟨b,hm,hb⟩ h5
  ·rw[if_neg hg]
   have:lo=hi-1:=by omega
   subst this
   exact⟨by omega,h3,h4,h5⟩
theorem Tz    (t:Tb L most W E es)  (g:GuessOk L W E es m ws)  (hv:isW L v=true)(i:Nat):∃k:Nat,Fp ws (v.take i)=(k:Int)/\W[k]?=some (N2 W ws v i):=by
 obtain⟨k,u,h1,h2⟩:=g.room t hv i
 refine⟨k,h1,?_⟩
 unfold N2
 rw[h1,show ((k:Int)).toNat=k by omega,List.getD_eq_getElem?_getD,h2];rfl
open Classical in
noncomputable def mu (s:AS):Nat:=4*(s.most-s.W.length)+(if s.wr.isSome then 2 else if Pend s.L s.W s.E s.es then 1 else 3)
def WOk (B:Nat)(s:AS):Wish->Prop
 |.ask c=>OkX (some c) B s/\mkO s.es c=none/\(isW s.L c=true/\c ≠ [])/\c.length<=B+(s.most+1)*s.E.length+(if s.wr.isSome then s.most else 0)/\c∉s.G
 |.shown m ws=>OkX none B s/\s.G=[]/\s.wr=none/\s.gs=some (m,ws)/\GuessOk s.L s.W s.E s.es m ws/\∀p∈s.es,lsay m ws p.1=p.2
 |.done m ws=>OkX none B s/\s.G=[]/\s.wr=none/\s.gs=some (m,ws)/\GuessOk s.L s.W s.E s.es m ws/\∀p∈s.es,lsay m ws p.1=p.2
 |.spent r=>OkX none B s/\s.G=[]/\s.wr=none/\s.W.length=s.most/\r∈CM s.L s.W/\r∉s.W/\isW s.L r=true/\r.length<=s.W.length/\∀u∈s.W,RQ s.E s.es r u
structure Kept (s s':AS):Prop where
 l:s'.L=s.L
 m:s'.most=s.most
 e:s'.es=s.es
theorem Zd {B:Nat}  (o:OkX none B s)    (g:GuessOk s.L s.W s.E s.es m ws)(hvW:isW s.L v=true)(ht:mkO s.es v=some t)(hne:t≠lsay m ws v):v ≠ []/\N2 s.W ws v 0=[]/\mkO s.es (N2 s.W ws v (v.length-1)++v.drop (v.length-1))=some (lsay m ws v)/\0<v.length-1:=by
 have tb:=o.tb
 have hw0:=tb.w0
 have hvn:v ≠ []:=o.ne (v,t) (Bk_ ht)
 have hv0:0<v.length:=List.length_pos_iff.mpr hvn
 have a0:N2 s.W ws v 0=[]:=by
  obtain⟨k,k1,k2⟩:=Tz tb g hvW 0
  have:(k:Int)=0:=by rw[<-k1];rfl
  have:k=0:=by omega
  subst this
  rw[hw0]at k2
  exact (Option.some.inj k2).symm
 have aL:mkO s.es (N2 s.W ws v (v.length-1)++v.drop (v.length-1))=some (lsay m ws v):=by
  obtain⟨k,k1,k2⟩:=Tz tb g hvW (v.length-1)
  have hlt:v.length-1<v.length:=by omega
  have hx:=Cg.mp hvW _ (List.getElem_mem hlt)
  obtain⟨x,hxe⟩:∃x:Nat,v[v.length-1]=(x:Int):=⟨(v[v.length-1]).toNat,by omega⟩
  obtain⟨row,y,y1,y2,y3⟩:=g.m k _ x k2 (by omega)
  have hd:v.drop (v.length-1)=[(x:Int)]:=by
   rw[List.drop_eq_getElem_cons hlt,hxe,show v.length-1+1=v.length by omega,List.drop_length]
  rw[hd,y3]
  have e:lsay m ws v=KD m (Fp ws (v.take (v.length-1))) (v.getD (v.length-1) 0):=by
   unfold lsay sayW
   rw[List.getD_eq_getElem?_getD,List.getElem?_map,List.getElem?_range hlt];rfl
  rw[e,k1,List.getD_eq_getElem?_getD,List.getElem?_eq_getElem hlt]
  show some y=some (KD m (k:Int) v[v.length-1])
  rw[hxe,SA (by rw[show ((k:Int)).toNat=k by omega];exact y1) (by rw[show ((x:Int)).toNat=x by omega];exact y2)]
 have hv1:0<v.length-1:=by
  refine Nat.pos_of_ne_zero fun z=>?_
  rw[z,a0]at aL
  rw[List.drop_zero,List.nil_append,ht]at aL
  exact hne (Option.some.inj aL)
 exact⟨hvn,a0,aL,hv1⟩
theorem Gy_ {B:Nat}  (o:OkX none B s)   (hv:s.wr=some v)(hg:s.gs=some (m,ws)):(∀s',Tw s v m ws=(s',none)->OkX none B s'/\Kept s s'/\mu s'<mu s)/\∀s' x,Tw s v m ws=(s',some x)->WOk B s' x/\Kept s s':=by
 obtain⟨hG,hE,hvW,hvl,m',ws',t,e1,g,ht,hne⟩:=o.wr v hv
 rw[hg]at e1
 cases e1
 have tb:=o.tb
 have hw0:=tb.w0
 obtain⟨hvn,a0,aL,hv1⟩:=Zd o g hvW ht hne
 have hv0:0<v.length:=by omega
 have key:=Bn_ tb g hvW (mk:=lsay m ws v) v.length 0 (v.length-1) (by omega) hv1 (by omega) ⟨t,by rw[a0];exact ht,hne⟩ aL
 unfold Tw
 cases hh:Ng s.es s.W ws v (lsay m ws v) v.length 0 (v.length-1) with
 |ask c=>
  rw[hh]at key
  obtain⟨k1,i,hi,rfl⟩:=key
  refine⟨fun s' z=>(by cases z),fun s' x z=>?_⟩
  cases z
  obtain⟨k,q1,q2⟩:=Tz tb g hvW i
  have q3:=tb.wW _ (List.mem_of_getElem? q2)
  have q4:=tb.wn
  refine⟨⟨⟨tb,fun c hc=>?_,o.gn,o.gW,o.le,o.lb,o.ne,o.wr⟩,k1,⟨Cg.mpr fun y hy=>?_,fun z=>?_⟩,?_,by rw[hG];simp⟩,⟨rfl,rfl,rfl⟩⟩
  ·rcases o.cov c hc with z|z|z
   ·exact .inl z
   ·exact .inr (.inl z)
   ·cases z
  ·rcases List.mem_append.mp hy with hy|hy
   ·exact Cg.mp q3.1 y hy
   ·exact Cg.mp hvW y (List.mem_of_mem_drop hy)
  ·have:=congrArg List.length (List.append_eq_nil_iff.mp z).2
   rw[List.length_drop]at this
   simp at this
   omega
  ·rw[hv,List.length_append,List.length_drop]
   simp only[Option.isSome_some,if_true]
   omega
 |fin hi=>
  rw[hh]at key
  obtain⟨h0,h1,⟨b,b1,b2⟩,h3⟩:=key
  refine⟨fun s' z=>?_,fun s' x z=>(by cases z)⟩
  cases z
  obtain⟨k,q1,q2⟩:=Tz tb g hvW (hi-1)
  obtain⟨k',q1',q2'⟩:=Tz tb g hvW hi
  have e1:hi-1+1=hi:=by omega
  obtain⟨tb',pend⟩:=tb.halved hE g hvW (i:=hi-1) (by omega) q1 q2 b1 b2 (by rw[e1];exact q1') q2' (by rw[e1];exact h3)
  rw[e1]at tb' pend
  have hle:∀e∈s.E++[v.drop hi],(isW s.L e=true/\e ≠ [])/\e.length+(s.most+1)<=B+(s.most+1)*(s.E++[v.drop hi]).length:=fun e he=>by
   rw[List.length_append,List.length_singleton,Nat.mul_succ]
   rcases List.mem_append.mp he with he|he
   ·have:=o.le e he;exact⟨tb.eW e he,by omega⟩
   ·rw[List.mem_singleton.mp he,List.length_drop]
    exact⟨⟨Cg.mpr fun y hy=>Cg.mp hvW y (List.mem_of_mem_drop hy),fun z=>by have:=congrArg List.length z;rw[List.length_drop]at this;simp at this;omega⟩,by omega⟩
  obtain⟨c1,c2,c3⟩:=Bm_ (B:=B) (s:=s) (W:=s.W) (E:=s.E++[v.drop hi]) tb.wW tb.wn hle
  refine⟨⟨tb',c1,c2,c3,fun e he=>(hle e he).2,fun p hp=>?_,o.ne,fun v' z=>(by cases z)⟩,⟨rfl,rfl,rfl⟩,?_⟩
  ·have:=o.lb p hp
   rw[hv]at this
   simp only[Option.isSome_some,if_true]at this
   show p.1.length<=B+(s.most+1)*(s.E++[v.drop hi]).length+0
   rw[List.length_append,List.length_singleton,Nat.mul_succ]
   omega
  ·unfold mu
   rw[hv]
   simp only[Option.isSome_some,if_true,Option.isSome_none,Bool.false_eq_true,if_false]
   rw[if_pos pend]
   omega
theorem Ft_ {B:Nat}  (o:OkX none B s)(hG:s.G=[])(hw:s.wr=none):(∀s',KL s=(s',none)->OkX none B s'/\Kept s s'/\mu s'<mu s)/\∀s' x,KL s=(s',some x)->WOk B s' x/\Kept s s':=by
 have tb:=o.tb
 have full:=o.full hG
 have hlb:∀p∈s.es,p.1.length<=B+(s.most+1)*s.E.length:=fun p hp=>by
  have:=o.lb p hp
  rw[hw]at this
  exact this
 unfold KL
 cases hst:M7 s.L s.W s.E s.es with
 |some r=>
  obtain⟨⟨r1,r2,r3,r4⟩,more⟩:=tb.more full hst
  have rap:∀u∈s.W,RQ s.E s.es r u:=fun u hu=>by
   have h2:=List.find?_some hst
   have h2:gOf s.E s.es r∉s.W.map (gOf s.E s.es):=of_decide_eq_true h2
   exact (OP full r1 (C7.mpr (.inl hu))).mp fun z=>h2 (by rw[z];exact List.mem_map_of_mem hu)
  dsimp only
  by_cases hm:s.W.length=s.most
  ·rw[if_pos hm]
   refine⟨fun s' z=>(by cases z),fun s' x z=>?_⟩
   cases z
   exact⟨⟨o,hG,hw,hm,r1,r2,r3,r4,rap⟩,⟨rfl,rfl,rfl⟩⟩
  ·rw[if_neg hm]
   refine⟨fun s' z=>?_,fun s' x z=>(by cases z)⟩
   cases z
   have hlt:s.W.length<s.most:=by have:=tb.wn;omega
   have tb':=more hlt
   obtain⟨c1,c2,c3⟩:=Bm_ (B:=B) (s:=s) (W:=s.W++[r]) (E:=s.E) tb'.wW tb'.wn (fun e he=>⟨tb.eW e he,o.le e he⟩)
   refine⟨⟨tb',c1,c2,c3,o.le,o.lb,o.ne,fun v z=>?_⟩,⟨rfl,rfl,rfl⟩,?_⟩
   ·rw[show s.wr=some v from z]at hw;cases hw
   ·unfold mu
    show 4*(s.most-(s.W++[r]).length)+(if s.wr.isSome then 2 else _)<_
    rw[List.length_append,List.length_singleton,hw]
    simp only[Option.isSome_none,Bool.false_eq_true,if_false]
    split<;>split<;>omega
 |none=>
  obtain⟨np,cl⟩:=tb.none full hst
  have g:GuessOk s.L s.W s.E s.es (HQ s.L s.W s.E s.es) (Nf s.L s.W s.E s.es):=tb.guess full cl
  have hEW:s.E.length+1<=s.W.length+s.L:=by
   rcases tb.jj with h|h
   ·exact h
   ·exact absurd h.2 np
  dsimp only
  cases hf:Gi s.es (HQ s.L s.W s.E s.es) (Nf s.L s.W s.E s.es) with
  |none=>
   refine⟨fun s' z=>(by cases z),fun s' x z=>?_⟩
   cases z
   refine⟨⟨⟨tb,o.cov,o.gn,o.gW,o.le,fun p hp=>by have:=hlb p hp;exact this,o.ne,fun v z=>(by cases z)⟩,hG,rfl,rfl,g,fun p hp=>?_⟩,⟨rfl,rfl,rfl⟩⟩
   unfold Gi at hf
   rw[Option.map_eq_none_iff,List.find?_eq_none]at hf
   have:=hf p hp
   simpa using this
  |some v=>
   refine⟨fun s' z=>?_,fun s' x z=>(by cases z)⟩
   cases z
   unfold Gi at hf
   cases hfd:s.es.find? (fun e=>decide (lsay (HQ s.L s.W s.E s.es) (Nf s.L s.W s.E s.es) e.1≠e.2)) with
   |none=>rw[hfd]at hf;cases hf
   |some e=>
    rw[hfd]at hf
    cases hf
    have h1:=List.mem_of_find?_eq_some hfd
    have h2:=List.find?_some hfd
    have h2:lsay (HQ s.L s.W s.E s.es) (Nf s.L s.W s.E s.es) e.1≠e.2:=of_decide_eq_true h2
    refine⟨⟨tb,o.cov,o.gn,o.gW,o.le,fun p hp=>by have:=hlb p hp;show p.1.length<=B+(s.most+1)*s.E.length+s.most;omega,o.ne,fun v z=>?_⟩,⟨rfl,rfl,rfl⟩,?_⟩
    ·cases z
     exact⟨hG,hEW,(tb.bW e h1).1,hlb e h1,_,_,e.2,rfl,g,M6 tb.nd h1,Ne.symm h2⟩
    ·unfold mu
     rw[hw]
     simp only[Option.isSome_some,if_true,Option.isSome_none,Bool.false_eq_true,if_false]
     rw[if_neg np]
     omega
theorem W4 {B:Nat}  (o:OkX none B s):(∀s',Gp s=(s',none)->OkX none B s'/\Kept s s'/\mu s'<mu s)/\∀s' x,Gp s=(s',some x)->WOk B s' x/\Kept s s':=by
 unfold Gp
 cases hG:s.G with
 |cons c r=>
  refine⟨fun s' z=>(by cases z),fun s' x z=>?_⟩
  cases z
  have hwr:s.wr=none:=by
   cases h:s.wr with
   |none=>rfl
   |some v=>have:=(o.wr v h).1;rw[hG]at this;cases this
  have gn:=o.gn
  rw[hG,List.nodup_cons]at gn
  have hc:=o.gW c (by rw[hG];exact List.mem_cons_self ..)
  refine⟨⟨⟨o.tb,fun b hb=>?_,gn.2,fun b hb=>o.gW b (by rw[hG];exact List.mem_cons_of_mem _ hb),o.le,o.lb,o.ne,fun v z=>?_⟩,hc.2.1,hc.1,by have:=hc.2.2;show c.length<=B+(s.most+1)*s.E.length+(if s.wr.isSome=true then s.most else 0);omega,gn.1⟩,⟨rfl,rfl,rfl⟩⟩
  ·rcases o.cov b hb with z|z|z
   ·exact .inl z
   ·rw[hG]at z
    rcases List.mem_cons.mp z with rfl|z
    ·exact .inr (.inr rfl)
    ·exact .inr (.inl z)
   ·cases z
  ·rw[show s.wr=some v from z]at hwr;cases hwr
 |nil=>
  cases hw:s.wr with
  |none=>exact Ft_ o hG hw
  |some v=>
   obtain⟨_,_,_,_,m,ws,t,e1,_⟩:=o.wr v hw
   rw[e1]
   exact Gy_ o hw e1
def afl (wv:V)(L most:Int)(b pw pe pg:Addr)(gv rv:V):List (Str×V):=[("wish",wv),("letters",.int L),("most",.int most),("book",.ref b),("ways",.ref pw),("ends",.ref pe),("gaps",.ref pg),("guess",gv),("wrong",rv)]
section
variable (wv:V) (L most:Int) (b pw pe pg:Addr) (gv rv y:V)
theorem N3:(afl wv L most b pw pe pg gv rv).lookup ("wish" : Str)=some wv:=by kernel_rfl
theorem Ii:(afl wv L most b pw pe pg gv rv).lookup ("letters" : Str)=some (.int L):=by kernel_rfl
theorem IQ_:(afl wv L most b pw pe pg gv rv).lookup ("most" : Str)=some (.int most):=by kernel_rfl
theorem Kc:(afl wv L most b pw pe pg gv rv).lookup ("book" : Str)=some (.ref b):=by kernel_rfl
theorem Kd:(afl wv L most b pw pe pg gv rv).lookup ("ways" : Str)=some (.ref pw):=by kernel_rfl
theorem Qi:(afl wv L most b pw pe pg gv rv).lookup ("ends" : Str)=some (.ref pe):=by kernel_rfl
theorem Fu_:(afl wv L most b pw pe pg gv rv).lookup ("gaps" : Str)=some (.ref pg):=by kernel_rfl
theorem SI:(afl wv L most b pw pe pg gv rv).lookup ("guess" : Str)=some gv:=by kernel_rfl
theorem M8:(afl wv L most b pw pe pg gv rv).lookup ("wrong" : Str)=some rv:=by kernel_rfl
theorem CB_:putF "wish" y (afl wv L most b pw pe pg gv rv)=afl y L most b pw pe pg gv rv:=by kernel_rfl
theorem Gz_ (q:Addr):putF "gaps" (.ref q) (afl wv L most b pw pe pg gv rv)=afl wv L most b pw pe q gv rv:=by kernel_rfl
theorem Fv_:putF "guess" y (afl wv L most b pw pe pg gv rv)=afl wv L most b pw pe pg y rv:=by kernel_rfl
theorem TB:putF "wrong" y (afl wv L most b pw pe pg gv rv)=afl wv L most b pw pe pg gv y:=by kernel_rfl
theorem GA_:putF "wrong" .non (putF "guess" .non (putF "gaps" (.ref pg) (putF "ends" (.ref pe) (putF "ways" (.ref pw) (putF "book" (.ref b) (putF "most" (.int most) (putF "letters" (.int L) (putF "wish" .non []))))))))=afl .non L most b pw pe pg .non .non:=by kernel_rfl
end
structure AD where
 dx:Addr
 b:Addr
 d:Addr
 pw:Addr
 pe:Addr
 pg:Addr
def HouT (K:PySem.W.Frag)(H:Hp)(h:Addr)(L:Int)(m:List (List Int))(ws:List (List Int)):Prop:=∃tm tw us zs,H h=some (.tup [.int L,.ref tm,.ref tw])/\H tm=some (.tup us)/\As K H us m/\H tw=some (.tup zs)/\As K H zs ws
theorem HouT.mono {K:PySem.W.Frag}      (x:HouT K H h L m ws)(k:TK H H'):HouT K H' h L m ws:=by
 obtain⟨tm,tw,us,zs,a,b,c,d,e⟩:=x
 exact⟨tm,tw,us,zs,k _ _ a,k _ _ b,c.mono k,k _ _ d,e.mono k⟩
theorem As.rows39 {K:PySem.W.Frag}     (h:As K H zs ws)(hw:SqT K H t zs):Rows K H t ws:=by
 refine⟨zs.map (fun v=>match v with | .ref t=>t|_=>0),?_,by rw[List.length_map];exact h.1,fun i t r hi hr=>?_⟩
 ·have e:(zs.map (fun v=>match v with | .ref t=>t|_=>0)).map V.ref=zs:=by
   rw[List.map_map]
   refine List.ext_getElem? fun i=>?_
   rw[List.getElem?_map]
   by_cases hi:i<ws.length
   ·obtain⟨t,a,_⟩:=h.2 i ws[i] (by simp[hi])
    rw[a];rfl
   ·rw[List.getElem?_eq_none (by rw[h.1];omega)];rfl
  rw[e];exact hw
 ·obtain⟨t',a,b⟩:=h.2 i r hr
  rw[List.getElem?_map,a]at hi
  cases hi
  exact SqT.of b
theorem HouT.house {K:PySem.W.Frag}      (x:HouT K H h L m ws):Vc K H h L m ws:=by
 obtain⟨tm,tw,us,zs,a,b,c,d,e⟩:=x
 exact⟨tm,tw,SqT.of a,As.rows39 c (SqT.of b),As.rows39 e (SqT.of d)⟩
def GV (K:PySem.W.Frag)(H:Hp)(L:Int)(gv:V):Option (List (List Int)×List (List Int))->Prop
 |none=>gv=.non
 |some (m,ws)=>∃h,gv=.ref h/\HouT K H h L m ws
def RV (H:Hp)(rv:V):Option (List Int)->Prop
 |none=>rv=.non
 |some v=>∃t,rv=.ref t/\H t=some (.tup (v.map V.int))
theorem GV.mono {K:PySem.W.Frag}     (x:GV K H L gv o)(k:TK H H'):GV K H' L gv o:=by
 match o,x with
 |none,x=>exact x
 |some (m,ws),⟨h,a,b⟩=>exact⟨h,a,b.mono k⟩
theorem RV.mono    (x:RV H rv o)(k:TK H H'):RV H' rv o:=by
 match o,x with
 |none,x=>exact x
 |some v,⟨t,a,b⟩=>exact⟨t,a,k _ _ b⟩
def Wish.tag:Wish->Str
 |.ask _ => "ask"
 |.shown _ _ => "show"
 |.done _ _ => "done"
 |.spent _ => "spent"
def KN_ (K:PySem.W.Frag)(H:Hp)(L:Int)(u:Addr):Wish->Prop
 |.ask c=>H u=some (.tup (c.map V.int))
 |.shown m ws=>HouT K H u L m ws
 |.done m ws=>HouT K H u L m ws
 |.spent c=>H u=some (.tup (c.map V.int))
def Cf (K:PySem.W.Frag)(H:Hp)(L:Int)(wv:V)(x:Wish):Prop:=∃t u,wv=.ref t/\H t=some (.tup [.str x.tag,.ref u])/\KN_ K H L u x
theorem Cf.mono {K:PySem.W.Frag}   {wv:V}  (h:Cf K H L wv x)(k:TK H H'):Cf K H' L wv x:=by
 obtain⟨t,u,a,b,c⟩:=h
 refine⟨t,u,a,k _ _ b,?_⟩
 cases x with
 |ask c'=>exact k _ _ c
 |spent c'=>exact k _ _ c
 |shown m ws=>exact HouT.mono c k
 |done m ws=>exact HouT.mono c k
structure AskAt (K:PySem.W.Frag)(CA CB:Addr)(H:Hp)(a:Addr)(ad:AD)(s:AS)(wv gv rv:V)(zs ys us:List V):Prop where
 ob:H a=some (.ins CA ad.dx (afl wv s.L s.most ad.b ad.pw ad.pe ad.pg gv rv))
 bk:BookAt CB H ad.b ad.d s.L s.es
 w:H ad.pw=some (.lst zs)
 wW:As K H zs s.W
 e:H ad.pe=some (.lst ys)
 eW:As K H ys s.E
 g:H ad.pg=some (.lst us)
 gW:As K H us s.G
 we:ad.pw≠ad.pe
 wg:ad.pw≠ad.pg
 eg:ad.pe≠ad.pg
 gv:GV K H s.L gv s.gs
 rv:RV H rv s.wr
def Asks (K:PySem.W.Frag)(CA CB:Addr)(H:Hp)(a:Addr)(ad:AD)(s:AS)(wv:V):Prop:=∃gv rv zs ys us,AskAt K CA CB H a ad s wv gv rv zs ys us
theorem BookAt.tk      (h:BookAt C H p d L es)(hp:∀o,H p=some o->H' p=some o)(hd:∀o,H d=some o->H' d=some o):BookAt C H' p d L es:=by
 obtain⟨⟨dx,a⟩,b,c⟩:=h
 exact⟨⟨dx,hp _ a⟩,hd _ b,c⟩
def Frm (H H':Hp)(a:Addr)(ad:AD):Prop:=(∀x o,H x=some o->x≠a->x≠ad.d->x≠ad.pw->x≠ad.pe->x≠ad.pg->H' x=some o)/\∀x,H' x=none->H x=none
def AdOk (H:Hp)(ad ad':AD):Prop:=ad'.dx=ad.dx/\ad'.b=ad.b/\ad'.d=ad.d/\ad'.pw=ad.pw/\ad'.pe=ad.pe/\(ad'.pg=ad.pg\/H ad'.pg=none)
theorem AdOk.refl (H:Hp)(ad:AD):AdOk H ad ad:=⟨rfl,rfl,rfl,rfl,rfl,.inl rfl⟩
theorem Frm.of  (s:Same H H')(a:Addr)(ad:AD):Frm H H' a ad:=⟨fun x o h _ _ _ _ _=>s _ _ h,fun x h=>s.none h⟩
theorem Frm.trans {H H1 H2:Hp}  {ad ad1:AD}(f:Frm H H1 a ad)(k:AdOk H ad ad1)(g:Frm H1 H2 a ad1):Frm H H2 a ad:=by
 obtain⟨k1,k2,k3,k4,k5,k6⟩:=k
 refine⟨fun x o h n1 n2 n3 n4 n5=>g.1 x o (f.1 x o h n1 n2 n3 n4 n5) n1 (by rw[k3];exact n2) (by rw[k4];exact n3) (by rw[k5];exact n4) (fun z=>?_),fun x h=>f.2 x (g.2 x h)⟩
 rcases k6 with k6|k6
 ·exact n5 (z.trans k6)
 ·rw[z,k6]at h;cases h
theorem AdOk.trans {H H1:Hp}  {ad ad1 ad2:AD}(f:Frm H H1 a ad)(k:AdOk H ad ad1)(g:AdOk H1 ad1 ad2):AdOk H ad ad2:=by
 obtain⟨k1,k2,k3,k4,k5,k6⟩:=k
 obtain⟨g1,g2,g3,g4,g5,g6⟩:=g
 refine⟨g1.trans k1,g2.trans k2,g3.trans k3,g4.trans k4,g5.trans k5,?_⟩
 rcases g6 with g6|g6
 ·rw[g6];exact k6
 ·exact .inr (f.2 _ g6)
section
variable {K:PySem.W.Frag} {CA CB:Addr} {H H':Hp} {a:Addr} {ad:AD} {s:AS} {wv gv rv:V} {zs ys us:List V}
theorem AskAt.same (x:AskAt K CA CB H a ad s wv gv rv zs ys us)(k:Same H H'):AskAt K CA CB H' a ad s wv gv rv zs ys us:=
 ⟨k _ _ x.ob,x.bk.mono k,k _ _ x.w,x.wW.mono (TK.of k),k _ _ x.e,x.eW.mono (TK.of k),k _ _ x.g,x.gW.mono (TK.of k),x.we,x.wg,x.eg,x.gv.mono (TK.of k),x.rv.mono (TK.of k)⟩
theorem AskAt.tkob (x:AskAt K CA CB H a ad s wv gv rv zs ys us)(o:HO):TK H (upd H a o):=fun t ts h=>by rw[Ah (fun z=>by rw[z,x.ob]at h;cases h)];exact h
theorem AskAt.na (x:AskAt K CA CB H a ad s wv gv rv zs ys us):ad.pw≠a/\ad.pe≠a/\ad.pg≠a/\ad.d≠a/\ad.b≠ad.d/\ad.pw≠ad.d/\ad.pe≠ad.d/\ad.pg≠ad.d/\ad.b≠ad.pw/\ad.b≠ad.pe/\ad.b≠ad.pg:=by
 obtain⟨dx,hb⟩:=x.bk.ob
 refine⟨fun z=>?_,fun z=>?_,fun z=>?_,fun z=>?_,fun z=>?_,fun z=>?_,fun z=>?_,fun z=>?_,fun z=>?_,fun z=>?_,fun z=>?_⟩
 ·have:=x.w;rw[z,x.ob]at this;cases this
 ·have:=x.e;rw[z,x.ob]at this;cases this
 ·have:=x.g;rw[z,x.ob]at this;cases this
 ·have:=x.bk.dc;rw[z,x.ob]at this;cases this
 ·rw[z,x.bk.dc]at hb;cases hb
 ·have:=x.w;rw[z,x.bk.dc]at this;cases this
 ·have:=x.e;rw[z,x.bk.dc]at this;cases this
 ·have:=x.g;rw[z,x.bk.dc]at this;cases this
 ·rw[z,x.w]at hb;cases hb
 ·rw[z,x.e]at hb;cases hb
 ·rw[z,x.g]at hb;cases hb
theorem AskAt.nb (x:AskAt K CA CB H a ad s wv gv rv zs ys us):ad.b≠a:=fun z=>by
 obtain⟨dx,hb⟩:=x.bk.ob
 rw[z,x.ob]at hb
 injection hb with hb
 injection hb with _ _ hb
 have h1:=congrArg (fun l=>List.lookup ("wish" : Str) l) hb
 rw[N3,Hf _ _ (by decide +kernel) (by decide +kernel)]at h1
 cases h1
theorem AskAt.put (x:AskAt K CA CB H a ad s wv gv rv zs ys us)   (hL:s'.L=s.L)(hm:s'.most=s.most)(hW:s'.W=s.W)(hE:s'.E=s.E)(hG:s'.G=s.G)(hes:s'.es=s.es)(g':GV K H s'.L gv' s'.gs)(r':RV H rv' s'.wr):AskAt K CA CB (upd H a (.ins CA ad.dx (afl wv' s.L s.most ad.b ad.pw ad.pe ad.pg gv' rv'))) a ad s' wv' gv' rv' zs ys us:=by
 obtain⟨n1,n2,n3,n4,n5,n6,n7,n8,n9,n10,n11⟩:=x.na
 have tk:=x.tkob (.ins CA ad.dx (afl wv' s.L s.most ad.b ad.pw ad.pe ad.pg gv' rv'))
 exact⟨by rw[Ae,hL,hm],by rw[hL,hes];exact BookAt.tk x.bk (fun o h=>by rw[Ah x.nb];exact h) (fun o h=>by rw[Ah n4];exact h),by rw[Ah n1];exact x.w,by rw[hW];exact x.wW.mono tk,by rw[Ah n2];exact x.e,by rw[hE];exact x.eW.mono tk,by rw[Ah n3];exact x.g,by rw[hG];exact x.gW.mono tk,x.we,x.wg,x.eg,g'.mono tk,r'.mono tk⟩
theorem AskAt.putF (x:AskAt K CA CB H a ad s wv gv rv zs ys us)(o:HO):Frm H (upd H a o) a ad:=⟨fun y o' h n _ _ _ _=>by rw[Ah n];exact h,fun y h=>by
 by_cases z:y=a
 ·rw[z,Ae]at h;cases h
 ·rwa [Ah z]at h⟩
end
inductive Goes:AS->AS->Wish->Prop where
 | stop {s s':AS} {x:Wish}:Gp s=(s',some x)->Goes s s' x
 | more {s s1 s':AS} {x:Wish}:Gp s=(s1,none)->Goes s1 s' x->Goes s s' x
theorem Goes.ok {B:Nat}   (g:Goes s s' x)(o:OkX none B s):WOk B s' x/\Kept s s':=by
 induction g with
 |stop h=>exact (W4 o).2 _ _ h
 |more h _ ih=>
  obtain⟨o1,k1,_⟩:=(W4 o).1 _ h
  obtain⟨o2,k2⟩:=ih o1
  exact⟨o2,⟨k2.l.trans k1.l,k2.m.trans k1.m,k2.e.trans k1.e⟩⟩
structure Sz (s:AS):Prop where
 l6:s.L<=6
 w:s.W.length<=13/\∀v∈s.W,v.length<=50
 e:s.E.length<=20/\∀v∈s.E,v.length<=500
 b:∀p∈s.es,p.1.length<=600
theorem Wl (ys:List Int)(m:Nat):cutV (ys.map V.int) (some (m:Int)) none=(ys.drop m).map V.int:=by
 rw[Gf_]
 unfold cutI
 rw[HT.sIx_nat,HT.sIx_none]
 congr 1
 by_cases h:m<=ys.length
 ·rw[Nat.min_eq_left h,List.take_of_length_le (by rw[List.length_drop];omega)]
 ·rw[Nat.min_eq_right (by omega),List.drop_length,List.drop_of_length_le (by omega),List.take_nil]
theorem Fw_ (ws:List (List Int))(v:List Int)  (hi:i<=v.length):((S5 ws v).map V.int)[i]?=some (V.int (Fp ws (v.take i))):=by
 unfold S5
 rw[List.getElem?_map,List.getElem?_map,List.getElem?_range (by omega)];rfl
theorem Frm.seq {H H1 H2:Hp}  {ad:AD}(f:Frm H H1 a ad)(g:Frm H1 H2 a ad):Frm H H2 a ad:=f.trans (AdOk.refl H ad) g
def Bd (B:Nat)(s:AS):Prop:=B+(s.most+1)*(s.most+s.L)+s.most<=500
theorem OkX.sz  {B:Nat}  (o:OkX y B s)(h:Bd B s):Sz s:=by
 have tb:=o.tb
 have h1:=tb.wn
 have h2:=tb.m12
 have h3:=tb.en
 have h4:=o.lens
 have h5:=tb.l6
 unfold Bd at h
 refine⟨tb.l6,⟨by omega,fun v hv=>by have:=(tb.wW v hv).2;omega⟩,⟨by omega,fun v hv=>by have:=o.le v hv;omega⟩,fun p hp=>?_⟩
 have:=o.lb p hp
 split at this<;>omega
theorem Qj (wv:V)(L most:Int)(b pw pe pg:Addr)(gv rv:V):(afl wv L most b pw pe pg gv rv).length<1000:=by unfold afl;simp
section
variable {K:PySem.W.Frag} {CA CB:Addr} {H H':Hp} {a:Addr} {ad:AD} {s:AS} {wv gv rv:V} {zs ys us:List V}
theorem AskAt.putW (x:AskAt K CA CB H a ad s wv gv rv zs ys us)   (h:As K H zs' W'):AskAt K CA CB (upd H ad.pw (.lst zs')) a ad {s with W:=W' } wv gv rv zs' ys us:=by
 obtain⟨n1,n2,n3,n4,n5,n6,n7,n8,n9,n10,n11⟩:=x.na
 have tk:=TK.lst x.w (o:=.lst zs')
 exact⟨by rw[Ah (Ne.symm n1)];exact x.ob,BookAt.tk x.bk (fun o h=>by rw[Ah n9];exact h) (fun o h=>by rw[Ah (Ne.symm n6)];exact h),Ae,h.mono tk,by rw[Ah (Ne.symm x.we)];exact x.e,x.eW.mono tk,by rw[Ah (Ne.symm x.wg)];exact x.g,x.gW.mono tk,x.we,x.wg,x.eg,x.gv.mono tk,x.rv.mono tk⟩
theorem AskAt.putE (x:AskAt K CA CB H a ad s wv gv rv zs ys us)   (h:As K H ys' E'):AskAt K CA CB (upd H ad.pe (.lst ys')) a ad {s with E:=E' } wv gv rv zs ys' us:=by
 obtain⟨n1,n2,n3,n4,n5,n6,n7,n8,n9,n10,n11⟩:=x.na
 have tk:=TK.lst x.e (o:=.lst ys')
 exact⟨by rw[Ah (Ne.symm n2)];exact x.ob,BookAt.tk x.bk (fun o h=>by rw[Ah n10];exact h) (fun o h=>by rw[Ah (Ne.symm n7)];exact h),by rw[Ah x.we];exact x.w,x.wW.mono tk,Ae,h.mono tk,by rw[Ah (Ne.symm x.eg)];exact x.g,x.gW.mono tk,x.we,x.wg,x.eg,x.gv.mono tk,x.rv.mono tk⟩
theorem AskAt.putG (x:AskAt K CA CB H a ad s wv gv rv zs ys us)   (h:As K H us' G'):AskAt K CA CB (upd H ad.pg (.lst us')) a ad {s with G:=G' } wv gv rv zs ys us':=by
 obtain⟨n1,n2,n3,n4,n5,n6,n7,n8,n9,n10,n11⟩:=x.na
 have tk:=TK.lst x.g (o:=.lst us')
 exact⟨by rw[Ah (Ne.symm n3)];exact x.ob,BookAt.tk x.bk (fun o h=>by rw[Ah n11];exact h) (fun o h=>by rw[Ah (Ne.symm n8)];exact h),by rw[Ah x.wg];exact x.w,x.wW.mono tk,by rw[Ah x.eg];exact x.e,x.eW.mono tk,Ae,h.mono tk,x.we,x.wg,x.eg,x.gv.mono tk,x.rv.mono tk⟩
theorem Frm.put   (h:q=ad.pw\/q=ad.pe\/q=ad.pg\/q=ad.d)(hq:∃o,H q=some o):Frm H (upd H q o) a ad:=by
 refine⟨fun y o' hy n1 n2 n3 n4 n5=>?_,fun y hy=>?_⟩
 ·rw[Ah (fun z=>by rcases h with h|h|h|h<;>subst h<;>contradiction)];exact hy
 ·by_cases z:y=q
  ·rw[z,Ae]at hy;cases hy
  ·rwa [Ah z]at hy
end
theorem Kt_ {i n:Nat}(h:i<n):seqIndex? (i:Int) n=some i:=by
 unfold seqIndex?
 simp[show ¬ (i:Int)<0 by omega,h]
theorem As.tail39 {K:PySem.W.Frag}     (h:As K H us (c::r)):As K H (us.eraseIdx 0) r:=by
 cases us with
 |nil=>have:=h.1;cases this
 |cons u us=>
  refine⟨?_,fun i w hi=>?_⟩
  ·have:=h.1
   simpa using this
  ·exact h.2 (i+1) w (by simpa using hi)
theorem Dq_    (h:mkO es b=none)(hb:b≠c):mkO (es++[(c,m)]) b=none:=by
 refine SH fun z=>?_
 rw[List.map_append]at z
 rcases List.mem_append.mp z with z|z
 ·obtain⟨n,hn⟩:=Bl_.mp z
  rw[h]at hn;cases hn
 ·exact hb (List.mem_singleton.mp z)
theorem OkX.told  {B:Nat}  (o:OkX y B s)   (hy:∀b,y=some b->b=c)(hn:c∉s.es.map (·.1))(hc:isW s.L c=true/\c ≠ [])(h0:0<=m)(h9:m<=1000000000)(hl:c.length<=B+(s.most+1)*s.E.length+(if s.wr.isSome then s.most else 0))(hg:c∉s.G):OkX none B {s with es:=s.es++[(c,m)]}:=by
 have gr:=Grow.snoc s.es c m
 refine⟨o.tb.put hn hc.1 h0 h9,fun b hb=>?_,o.gn,fun b hb=>?_,o.le,fun p hp=>?_,fun p hp=>?_,fun v hv=>?_⟩
 ·rcases o.cov b hb with ⟨z,hz⟩|z|z
  ·exact .inl ⟨z,gr _ _ hz⟩
  ·exact .inr (.inl z)
  ·have:=hy b z
   subst this
   exact .inl ⟨m,M6 (o.tb.put hn hc.1 h0 h9).nd (by simp)⟩
 ·obtain⟨h1,h2,h3⟩:=o.gW b hb
  exact⟨h1,Dq_ h2 (fun z=>hg (z ▸ hb)),h3⟩
 ·rcases List.mem_append.mp hp with hp|hp
  ·exact o.lb p hp
  ·rw[List.mem_singleton.mp hp];exact hl
 ·rcases List.mem_append.mp hp with hp|hp
  ·exact o.ne p hp
  ·rw[List.mem_singleton.mp hp];exact hc.2
 ·obtain⟨h1,h2,h3,h4,mm,ws,t,h5,h6,h7,h8⟩:=o.wr v hv
  exact⟨h1,h2,h3,h4,mm,ws,t,h5,h6.mono gr,gr _ _ h7,h8⟩
section
variable {K:PySem.W.Frag} {CA CB:Addr} {H H':Hp} {a:Addr} {ad:AD} {s:AS} {wv gv rv:V} {zs ys us:List V}
theorem AskAt.putB (x:AskAt K CA CB H a ad s wv gv rv zs ys us)  (hb:BookAt CB H' ad.b ad.d s.L es')(hf:∀b o,H b=some o->b≠ad.d->H' b=some o):AskAt K CA CB H' a ad {s with es:=es' } wv gv rv zs ys us/\Frm H H' a ad/\TK H H':=by
 obtain⟨n1,n2,n3,n4,n5,n6,n7,n8,n9,n10,n11⟩:=x.na
 have tk:TK H H':=fun t ts h=>hf t _ h (fun z=>by rw[z,x.bk.dc]at h;cases h)
 refine⟨⟨hf _ _ x.ob (Ne.symm n4),hb,hf _ _ x.w n6,x.wW.mono tk,hf _ _ x.e n7,x.eW.mono tk,hf _ _ x.g n8,x.gW.mono tk,x.we,x.wg,x.eg,x.gv.mono tk,x.rv.mono tk⟩,⟨fun y o h _ n _ _ _=>hf _ _ h n,fun y h=>?_⟩,tk⟩
 cases hy:H y with
 |none=>rfl
 |some o=>
  by_cases z:y=ad.d
  ·rw[z,hb.dc]at h;cases h
  ·rw[hf _ _ hy z]at h;cases h
end
def fE57 (L:Nat):List (List Int):=(List.range L).map fun x:Nat=>[(x:Int)]
def s039 (L most:Nat):AS:={L:=L,most:=most,W:=[[]],E:=fE57 L,G:=OQ L [[]] (fE57 L) [],gs:=none,wr:=none,es:=[]}
theorem Fx_  (B:Nat)(b1:1<=B)(l1:1<=L)(l6:L<=6)(m1:1<=most)(m12:most<=12):OkX none B (s039 L most):=by
 have hw:∀v ∈ [([]:List Int)],isW (L:Int) v=true/\v.length < [([]:List Int)].length:=fun v hv=>by
  rw[List.mem_singleton.mp hv];exact⟨Cg.mpr fun x hx=>(by cases hx),by simp⟩
 have hEl:(fE57 L).length=L:=by unfold fE57;rw[List.length_map,List.length_range]
 have hE:∀e∈fE57 L,(isW (L:Int) e=true/\e ≠ [])/\e.length+(most+1)<=B+(most+1)*(fE57 L).length:=fun v hv=>by
  obtain⟨x,hx,rfl⟩:=List.mem_map.mp hv
  have hx:=List.mem_range.mp hx
  have hm:(most+1)*1<=(most+1)*(fE57 L).length:=Nat.mul_le_mul_left _ (by omega)
  refine⟨⟨Cg.mpr fun y hy=>?_,by simp⟩,?_⟩
  ·rw[List.mem_singleton.mp hy];omega
  ·rw[List.length_singleton];omega
 obtain⟨c1,c2,c3⟩:=Bm_ (B:=B) (s:=s039 L most) (W:=[[]]) (E:=fE57 L) hw (by show 1<=most;omega) hE
 refine⟨⟨l1,l6,m12,rfl,hw,by show 1<=most;omega,List.take_of_length_le (by show (fE57 L).length<=L;omega),fun e he=>(hE e he).1,List.nodup_nil,fun p hp=>(by cases hp),fun i j v u h1 h2 h3=>?_,.inl (by show (fE57 L).length+1<=1+L;omega)⟩,c1,c2,c3,fun e he=>(hE e he).2,fun p hp=>(by cases hp),fun p hp=>(by cases hp),fun v hv=>(by cases hv)⟩
 have h1:=(List.getElem?_eq_some_iff.mp h1).1
 have h2:=(List.getElem?_eq_some_iff.mp h2).1
 have h1:i<1:=h1
 have h2:j<1:=h2
 omega
def TC (marks ways:List (List Int))(tr:List Int×Int):Bool:=decide (lsay marks ways tr.1≠tr.2)
def LI (K:PySem.W.Frag)(fm:Addr):Sp:=fun vs H Q _=>∃(l h:Addr) (L:Int) (marks ways:List (List Int)) (rs:List V) (es:List (List Int×Int)),vs=[.ref l,.ref fm,.ref h]/\SqL K H l rs/\G1 H rs es/\Vc K H h L marks ways/\WfS L marks ways/\(∀e∈es,(isW L e.1=true/\e.1 ≠ [])/\e.1.length<=600) /\
 ∀H',Same H H'->((∀e∈es,TC marks ways e=false)->Q .non H')/\∀(i:Nat) (e:List Int×Int) (t:Addr),(∀j,j<i->∀e',es[j]?=some e'->TC marks ways e'=false)->es[i]?=some e->TC marks ways e=true->H' t=some (.tup (e.1.map V.int))->Q (.ref t) H'
theorem TF   (F:Fun K "first_unlike" "first_unlike" DG f fd)(T:Txt mg)
  (W:Own K mg C_j7 C_j9 C_jj C_ja C_j1 C_j4)
  (Z:Exs K mg C_j8 C_j5 C_j6 C_j3 C_j2 C_j0)
   (EX:FnOk P w K mg base (CXe P w) 5 BE D6 ["house","word"] (IY K C_j5)) (DK:Fun K "last_said" "last_said" Ef BE D6) (EY:Binds K D6 ["house","word"] []) (EZ:mg "last_said"=some (.ref BE))
  : FnOk P w K mg base CX0 6 f fd ["heard","answer","house"] (LI K BE):=by
 refine F.ok IA (fun vs H Q E h=>?_) (fun cdv A outer s H vs Q E hr h=>?_)
 ·obtain⟨l,h,L,marks,ways,rs,es,rfl,_⟩:=h;rfl
 ·obtain⟨l,h,L,marks,ways,rs,es,rfl,hl1,ht,hh,wf,hes,k⟩:=h
  refine⟨_,(Ad (Hm PassesOwn.never rfl (Gq (pvD 0)) (DT_ rfl (MY (B3 (i:=3) IA.nd rfl (Or.inl rfl)) (MY (B3 (i:=4) IA.nd rfl (Or.inl rfl)) AK_)))
   (Ac (Cu (ptT (Ay (opN IW) (Gm_ 1 EX (hr.mono (by decide)) DK.kp EY .nil (P5 (P:=P) (w:=w)) (Aa (pvD 2) (Aa (pvD 3) Af))) (pvD 4) (Bg _)))
   (Ac (Ar (pvD 3)))
   AQ)))
   (Ac (Ar F3))),?_⟩
  walk_at "rd"
  refine⟨⟨_,hl1⟩,?_⟩
  obtain⟨Pv,hPv⟩:∃Pv:Nat->St->Hp->Prop,∀i σ' H',Pv i σ' H'↔(Same H H'/\(∀j,j<i->∀e,es[j]?=some e->TC marks ways e=false)/\∃o o',σ'=[some (.ref l),some (.ref BE),some (.ref h),o,o']):=⟨_,fun _ _ _=>Iff.rfl⟩
  refine forL (xs:=rs) Pv ((hPv _ _ _).mpr ⟨Same.refl _,fun j hj=>absurd hj (Nat.not_lt_zero _),none,none,rfl⟩) (fun i σ2 H2 _ h2=>((hPv _ _ _).mp h2).1.seq hl1) (fun i x σ2 H2 hx h2=>?_) (fun σ2 H2 h2=>?_)
  ·obtain⟨s2,hall,o,o',rfl⟩:=(hPv _ _ _).mp h2
   have hi:i<es.length:=by rw[<-ht.1];exact (List.getElem?_eq_some_iff.mp hx).1
   have hei:es[i]?=some es[i]:=by simp[hi]
   obtain⟨t,wt,e1,e2,e3⟩:=ht.2 i _ hei
   rw[hx]at e1
   cases e1
   have hok:=hes _ (List.mem_of_getElem? hei)
   generalize es[i]=e at hei e2 e3 hok
   walk_at "rd"
   refine⟨_,SqT.of (s2 _ _ e2),rfl,_,_,rfl,_,_,rfl,rfl,h,wt,L,marks,ways,e.1,rfl,hh.mono s2,wf,SqT.of (s2 _ _ e3),hok.2,fun _ hne H3 x s3 hx3=>?_,fun z=>by rcases z with z|z;(rw[hok.1.1]at z;cases z);exact absurd z hok.1.2⟩
   have hlx:x=lsay marks ways e.1:=by
    unfold lsay
    rw[List.getD_eq_getElem?_getD,hx3];rfl
   subst hlx
   refine⟨rfl,?_⟩
   by_cases hw:lsay marks ways e.1=e.2
   ·rw[if_neg (by rw[hw];simp)]
    refine (hPv _ _ _).mpr ⟨s2.trans s3,fun j hj e' hj'=>?_,_,_,rfl⟩
    by_cases hji:j<i
    ·exact hall j hji e' hj'
    ·have ej:j=i:=by omega
     subst ej
     rw[hei]at hj'
     cases hj'
     exact decide_eq_false fun z=>z hw
   ·rw[if_pos (by simp[hw])]
    exact (k _ (s2.trans s3)).2 i e wt hall hei (decide_eq_true hw) ((s2.trans s3) _ _ e3)
  ·obtain⟨s2,hall,o,o',rfl⟩:=(hPv _ _ _).mp h2
   walk_at "rd"
   refine (k _ s2).1 fun e he=>?_
   obtain⟨j,hj,ej⟩:=List.getElem_of_mem he
   exact hall j (by rw[ht.1];exact hj) e (by rw[List.getElem?_eq_getElem hj,ej])
theorem CC_ (f:Str)(v:V):∀fs:List (Str×V),(putF f v fs).length<=fs.length+1
 |[]=>by simp[putF]
 | (g,x)::r=>by
  unfold putF
  split
  ·simp
  ·have:=CC_ f v r
   rw[List.length_cons,List.length_cons];omega
theorem Fy_   (hW:W.length<=100)(hL:L<=6)(hE:E.length<=100):(Kt (CM L W) E).length<=100000:=by
 unfold Kt
 have h1:=C5 ((CM L W).flatMap fun r=>E.map (r ++ ·)) []
 have h2:((CM L W).flatMap fun r=>E.map (r ++ ·)).length=(CM L W).length*E.length:=by
  rw[List.length_flatMap]
  generalize CM L W=l
  induction l with
  |nil=>simp
  |cons a l ih=>rw[List.map_cons,List.sum_cons,ih,List.length_map,List.length_cons,Nat.succ_mul];omega
 have h3:=Zb L W
 have h4:W.length*L<=100*6:=Nat.mul_le_mul hW hL
 have h5:(CM L W).length*E.length<=700*100:=Nat.mul_le_mul (by omega) hE
 rw[h2,List.length_nil]at h1
 omega
def CD_ (CA:Addr):Sp:=fun vs H Q _=>∃(a dx:Addr) (fs:List (Str×V)),vs=[.ref a]/\H a=some (.ins CA dx fs)/\fs.length<1000/\Q .non (upd H a (.ins CA dx (putF "wish" .non fs)))
theorem W5   (F:Fun K "__init__" "Turns.__init__" EM f fd)(T:Txt mg)
  (W:Own K mg C_j7 C_j9 C_jj C_ja C_j1 C_j4)
  (Z:Exs K mg C_j8 C_j5 C_j6 C_j3 C_j2 C_j0)
  : FnOk P w K mg base CX0 1 f fd ["self"] (CD_ C_j1):=by
 refine F.ok WT (fun vs H Q E h=>?_) (fun cdv A outer s H vs Q E hr h=>?_)
 ·obtain⟨a,dx,fs,rfl,_⟩:=h;rfl
 ·obtain⟨a,dx,fs,rfl,ha,hz,k⟩:=h
  refine⟨_,(Ac (F4 (pvD 0) F3 rfl)),?_⟩
  walk_at "rd"
  exact⟨_,_,_,ha,W.cl_j1,W.n_SayHunt_wish,hz,k⟩
def CE_ (CA:Addr):Sp:=fun vs H Q _=>∃(a dx b pw pe:Addr) (L most:Int),vs=[.ref a,.int L,.int most,.ref b,.ref pw,.ref pe]/\H a=some (.ins CA dx [])/\∀(pg:Addr) (H':Hp),H pg=none->H' a=some (.ins CA dx (afl .non L most b pw pe pg .non .non))->H' pg=some (.lst [])->(∀x o,H x=some o->x≠a->H' x=some o)->(∀x,H' x=none->H x=none)->Q .non H'
theorem Ze   (F:Fun K "__init__" "Hunt.__init__" FT f fd)(T:Txt mg)
  (W:Own K mg C_j7 C_j9 C_jj C_ja C_j1 C_j4)
  (Z:Exs K mg C_j8 C_j5 C_j6 C_j3 C_j2 C_j0)
   (LJ:FnOk P w K mg base CX0 1 E1 OR ["self"] (CD_ C_j1)) (Ja:Fun K "__init__" "Turns.__init__" EM E1 OR) (LK:Binds K OR ["self"] []) (LL:CMeth K C_j9 "__init__" E1)
  : FnOk P w K mg base CX0 3 f fd ["self","letters","most","book","ways","ends"] (CE_ C_j1):=by
 refine F.ok Y4 (fun vs H Q E h=>?_) (fun cdv A outer s H vs Q E hr h=>?_)
 ·obtain⟨a,dx,b,pw,pe,L,most,rfl,_⟩:=h;rfl
 ·obtain⟨a,dx,b,pw,pe,L,most,rfl,ha,k⟩:=h
  have hl:=Ao
  refine⟨_,(Ad (A9 (Kh_ rfl W.m_j9 LL LJ (hr.mono (by decide)) LK .nil Ax (Aa (pvD 0) Af)))
   (Ad (F4 (pvD 0) (pvD 1) rfl)
   (Ad (F4 (pvD 0) (pvD 2) rfl)
   (Ad (F4 (pvD 0) (pvD 3) rfl)
   (Ad (F4 (pvD 0) (pvD 4) rfl)
   (Ad (F4 (pvD 0) (pvD 5) rfl)
   (Ad (F4 (pvD 0) (Rq Af) rfl)
   (Ad (F4 (pvD 0) F3 rfl)
   (Ac (F4 (pvD 0) F3 rfl)))))))))),?_⟩
  walk_at "rd"
  have pl:∀(f:Str) (v:V) (fs:List (Str×V)) (n:Nat),fs.length<n->(putF f v fs).length<n+1:=fun f v fs n h=>by have:=CC_ f v fs;omega
  have z1:=pl "wish" .non [] 1 (by simp)
  have z2:=pl "letters" (.int L) _ _ z1
  have z3:=pl "most" (.int most) _ _ z2
  have z4:=pl "book" (.ref b) _ _ z3
  have z5:=pl "ways" (.ref pw) _ _ z4
  have z6:=pl "ends" (.ref pe) _ _ z5
  refine⟨a,dx,[],rfl,ha,by simp,_,_,_,Ae,W.cl_j1,W.n_SayHunt_letters,by omega,_,_,_,Ae,W.cl_j1,W.n_SayHunt_most,by omega,_,_,_,Ae,W.cl_j1,W.n_SayHunt_book,by omega,_,_,_,Ae,W.cl_j1,W.n_SayHunt_ways,by omega,_,_,_,Ae,W.cl_j1,W.n_SayHunt_ends,by omega,by omega,fun pg hpg=>?_⟩
  have hga:pg≠a:=fun z=>by rw[z,Ae]at hpg;cases hpg
  have z7:=pl "gaps" (.ref pg) _ _ z6
  have z8:=pl "guess" .non _ _ z7
  refine⟨_,_,_,by rw[Ah (Ne.symm hga)];exact Ae,W.cl_j1,W.n_SayHunt_gaps,by omega,_,_,_,Ae,W.cl_j1,W.n_SayHunt_guess,by omega,_,_,_,Ae,W.cl_j1,W.n_SayHunt_wrong,by omega,?_⟩
  have hpgH:H pg=none:=by
   simp only[Ah hga]at hpg
   exact hpg
  refine k pg _ hpgH (by rw[Ae,GA_]) (by simp only[Ah hga];exact Ae) (fun y o hy hya=>?_) (fun y hy=>?_)
  ·have hyg:y≠pg:=fun z=>by rw[z,hpgH]at hy;cases hy
   simp only[Ah hya,Ah hyg]
   exact hy
  ·by_cases hya:y=a
   ·rw[hya,Ae]at hy;cases hy
   ·by_cases hyg:y=pg
    ·rw[hyg];exact hpgH
    ·simp only[Ah hya,Ah hyg]at hy
     exact hy
def CF_ (K:PySem.W.Frag)(CA CB:Addr):Sp:=fun vs H Q _=>∃(a:Addr) (ad:AD) (s:AS) (wv:V),vs=[.ref a]/\Asks K CA CB H a ad s wv/\Q wv H
theorem Vd   (F:Fun K "wants" "Turns.wants" Ed f fd)(T:Txt mg)
  (W:Own K mg C_j7 C_j9 C_jj C_ja C_j1 C_j4)
  (Z:Exs K mg C_j8 C_j5 C_j6 C_j3 C_j2 C_j0)
  : FnOk P w K mg base CX0 1 f fd ["self"] (CF_ K C_j1 C_j7):=by
 refine F.ok U8 (fun vs H Q E h=>?_) (fun cdv A outer s H vs Q E hr h=>?_)
 ·obtain⟨a,ad,s,wv,rfl,_⟩:=h;rfl
 ·obtain⟨a,ad,s,wv,rfl,⟨gv,rv,zs,ys,us,x⟩,k⟩:=h
  refine⟨_,(Ac (Ar (AO (pvD 0) rfl))),?_⟩
  walk_at "rd"
  exact⟨_,_,_,x.ob,W.cl_j1,W.n_SayHunt_wish,_,N3 ..,k⟩
def LM (K:PySem.W.Frag)(CA CB OT:Addr):Sp:=fun vs H Q E=>∃(a:Addr) (ad:AD) (s:AS) (wv:V) (x:Wish) (d:Str),vs=[.ref a,.str d]/\Asks K CA CB H a ad s wv/\Cf K H s.L wv x/\(x.tag=d->Q .non H)/\(x.tag≠d->E (.ref OT) none H)
theorem Nh   (F:Fun K "check_wants" "Turns.check_wants" AX f fd)(T:Txt mg)
  (W:Own K mg C_j7 C_j9 C_jj C_ja C_j1 C_j4)
  (Z:Exs K mg C_j8 C_j5 C_j6 C_j3 C_j2 C_j0)
  : FnOk P w K mg base (CXe P w) 1 f fd ["self","deed"] (LM K C_j1 C_j7 C_j3):=by
 refine F.okE Na (fun vs H Q E h=>?_) (fun cdv A outer s H vs Q E hr h=>?_)
 ·obtain⟨a,ad,s,wv,x,d,rfl,_⟩:=h;rfl
 ·obtain⟨a,ad,s,wv,x,d,rfl,⟨gv,rv,zs,ys,us,A'⟩,hw,k,kE⟩:=h
  have hl:=Ao
  refine⟨_,(Ac (Cu (ptT (Ay (opN IW) (BF (ixTD CY) (AO (pvD 0) rfl) Ai) (pvD 1) (Bg _)))
   (Ac (M4 Z.m_j3 Z.x_j3 rfl rfl (Aa Bm Af)))
   AQ)),?_⟩
  walk_at "rd"
  obtain⟨t,u,rfl,ht,_⟩:=hw
  refine⟨_,_,_,A'.ob,W.cl_j1,W.n_SayHunt_wish,_,N3 ..,t,rfl,_,SqT.of ht,V.str x.tag,rfl,rfl,?_⟩
  by_cases hd:x.tag=d
  ·rw[if_neg (by simp[hd])];exact k hd
  ·rw[if_pos (by simp[hd])];exact⟨by omega,kE hd⟩
def OS (K:PySem.W.Frag)(CA CB:Addr)(f:AS->List (List Int)):Sp:=fun vs H Q _=>∃(a:Addr) (ad:AD) (s:AS) (wv:V),vs=[.ref a]/\Asks K CA CB H a ad s wv/\∀l ts H',Same H H'->H l=none->H' l=some (.lst ts)->As K H' ts (f s)->Q (.ref l) H'
theorem Ve   (F:Fun K "access" "Hunt.access" Ei f fd)(T:Txt mg)
  (W:Own K mg C_j7 C_j9 C_jj C_ja C_j1 C_j4)
  (Z:Exs K mg C_j8 C_j5 C_j6 C_j3 C_j2 C_j0)
  : FnOk P w K mg base CX0 1 f fd ["self"] (OS K C_j1 C_j7 AS.W):=by
 refine F.ok Va (fun vs H Q E h=>?_) (fun cdv A outer s H vs Q E hr h=>?_)
 ·obtain⟨a,ad,s,wv,rfl,_⟩:=h;rfl
 ·obtain⟨a,ad,s,wv,rfl,⟨gv,rv,zs,ys,us,x⟩,k⟩:=h
  refine⟨_,(Ac (Ar (EE Rr rfl T.list PyProof.Rows.boot_list (Aa (AO (pvD 0) rfl) Af)))),?_⟩
  walk_at "rd"
  exact⟨_,_,_,x.ob,W.cl_j1,W.n_SayHunt_ways,_,Kd ..,ad.pw,rfl,zs,.inl (SqL.of x.w),fun l hl=>k l zs _ (Same.new hl) hl Ae (x.wW.mono (TK.new hl))⟩
theorem TH   (F:Fun K "tellers" "Hunt.tellers" DI f fd)(T:Txt mg)
  (W:Own K mg C_j7 C_j9 C_jj C_ja C_j1 C_j4)
  (Z:Exs K mg C_j8 C_j5 C_j6 C_j3 C_j2 C_j0)
  : FnOk P w K mg base CX0 1 f fd ["self"] (OS K C_j1 C_j7 AS.E):=by
 refine F.ok Te (fun vs H Q E h=>?_) (fun cdv A outer s H vs Q E hr h=>?_)
 ·obtain⟨a,ad,s,wv,rfl,_⟩:=h;rfl
 ·obtain⟨a,ad,s,wv,rfl,⟨gv,rv,zs,ys,us,x⟩,k⟩:=h
  refine⟨_,(Ac (Ar (EE Rr rfl T.list PyProof.Rows.boot_list (Aa (AO (pvD 0) rfl) Af)))),?_⟩
  walk_at "rd"
  exact⟨_,_,_,x.ob,W.cl_j1,W.n_SayHunt_ends,_,Qi ..,ad.pe,rfl,ys,.inl (SqL.of x.e),fun l hl=>k l ys _ (Same.new hl) hl Ae (x.eW.mono (TK.new hl))⟩
def Wm (K:PySem.W.Frag)(CA CB:Addr):Sp:=fun vs H Q _=>∃(a:Addr) (ad:AD) (s:AS) (wv:V),vs=[.ref a]/\Asks K CA CB H a ad s wv/\∀l rs H',Same H H'->H l=none->H' l=some (.lst rs)->G1 H' rs s.es->Q (.ref l) H'
theorem W6   (F:Fun K "heard" "Hunt.heard" ER f fd)(T:Txt mg)
  (W:Own K mg C_j7 C_j9 C_jj C_ja C_j1 C_j4)
  (Z:Exs K mg C_j8 C_j5 C_j6 C_j3 C_j2 C_j0)
   (Gj:FnOk P w K mg base CX0 1 Cq Gy ["self"] (J9 K C_j7)) (Gk:Fun K "heard" "Book.heard" D2 Cq Gy) (Gm:Binds K Gy ["self"] []) (Gn:Meth K C_j7 "heard" Cq)
  : FnOk P w K mg base CX0 2 f fd ["self"] (Wm K C_j1 C_j7):=by
 refine F.ok WV (fun vs H Q E h=>?_) (fun cdv A outer s H vs Q E hr h=>?_)
 ·obtain⟨a,ad,s,wv,rfl,_⟩:=h;rfl
 ·obtain⟨a,ad,s,wv,rfl,⟨gv,rv,zs,ys,us,x⟩,k⟩:=h
  refine⟨_,(Ac (Ar (Bl (AO (pvD 0) rfl) W.cl_j7 Gn Gj (hr.mono (by decide)) Gm .nil Ax))),?_⟩
  walk_at "rd"
  obtain⟨dxb,hb⟩:=x.bk.ob
  exact⟨_,_,_,x.ob,W.cl_j1,W.n_SayHunt_book,_,Kc ..,ad.b,rfl,_,_,hb,Hf _ _ (by decide +kernel) (by decide +kernel),ad.b,ad.d,_,s.es,rfl,x.bk,k⟩
def Zf (K:PySem.W.Frag)(CA CB:Addr):Sp:=fun vs H Q _=>∃(a l:Addr) (ad:AD) (s:AS) (wv:V) (ts:List V) (ws:List (List Int)),vs=[.ref a,.ref l]/\Asks K CA CB H a ad s wv/\SqL K H l ts/\As K H ts ws/\ws.Nodup/\ws.length<=100000/\∀ad' H',Asks K CA CB H' a ad' {s with G:=ws.filter fun c=>(mkO s.es c).isNone} wv->Frm H H' a ad->AdOk H ad ad'->Q .non H'
theorem TJ   (F:Fun K "ask_for" "Hunt.ask_for" DF f fd)(T:Txt mg)
  (W:Own K mg C_j7 C_j9 C_jj C_ja C_j1 C_j4)
  (Z:Exs K mg C_j8 C_j5 C_j6 C_j3 C_j2 C_j0)
   (Ej:FnOk P w K mg base CX0 1 B7 D5 ["self","word"] (IZ C_j7)) (EV:Fun K "told" "Book.told" Ee B7 D5) (Ek:Binds K D5 ["self","word"] []) (El:Meth K C_j7 "told" B7)
  : FnOk P w K mg base CX0 2 f fd ["self","words"] (Zf K C_j1 C_j7):=by
 refine F.ok Iy (fun vs H Q E h=>?_) (fun cdv A outer s H vs Q E hr h=>?_)
 ·obtain⟨a,l,ad,s,wv,ts,ws,rfl,_⟩:=h;rfl
 ·obtain⟨a,l,ad,s,wv,ts,ws,rfl,⟨gv,rv,zs,ys,us,x⟩,hl',hW,nd,hz,k⟩:=h
  have hl:=Ao
  refine⟨_,(Ad (Rp (i:=2) Iy.nd rfl (Or.inl rfl) M3)
   (Ad (Hm PassesOwn.never rfl (Gq (pvD 1)) (B3 (i:=3) Iy.nd rfl (Or.inl rfl))
   (Ac (Cu (ptT (Ay V8 (DE (AO (pvD 0) rfl) W.cl_j7 El Ej (hr.mono (by decide)) Ek .nil Ax (Aa (pvD 3) Af)) F3 (Bg _)))
   (Ac (NW (NV hr) (pvD 2) (pvD 3) Jj rfl))
   AQ)))
   (Ac (F4 (pvD 0) (EE (Iu rfl) rfl T.list PyProof.Rows.boot_list (Aa (pvD 2) Af)) rfl)))),?_⟩
  walk_at "rd"
  intro p hp
  have sp:=Same.new (o:=.dT []) hp
  obtain⟨dxb,hb⟩:=x.bk.ob
  obtain⟨Pv,hPv⟩:∃Pv:Nat->St->Hp->Prop,∀i σ' H',Pv i σ' H'↔(∃(kvs:List (List Key×V)) (o:Option V),Same H H'/\H' p=some (.dT kvs)/\HK ((ws.take i).filter fun c=>(mkO s.es c).isNone) kvs/\σ'=[some (.ref a),some (.ref l),some (.ref p),o]):=⟨_,fun _ _ _=>Iff.rfl⟩
  refine⟨⟨_,sp.seq hl'⟩,forL (xs:=ts) Pv ((hPv _ _ _).mpr ⟨[],none,sp,Ae,by rw[List.take_zero];exact HK.nil,rfl⟩) (fun i σ' H' _ h'=>by obtain⟨_,_,s',_⟩:=(hPv _ _ _).mp h';exact s'.seq hl') (fun i y σ' H' hy h'=>?_) (fun σ' H' h'=>?_)⟩
  ·obtain⟨kvs,o,s',hd,hk,rfl⟩:=(hPv _ _ _).mp h'
   obtain⟨t,c,hci,rfl,ht⟩:=hW.at hy
   have hil:i<ws.length:=(List.getElem?_eq_some_iff.mp hci).1
   have hlen:kvs.length<=100000:=by
    rw[hk.len]
    have h1:=List.length_filter_le (fun c=>(mkO s.es c).isNone) (ws.take i)
    rw[List.length_take]at h1
    omega
   have ht':=s' _ _ ht
   have hnot:c∉ws.take i:=fun z=>by
    obtain⟨j,hj⟩:=List.mem_iff_getElem?.mp z
    rw[List.getElem?_take]at hj
    split at hj
    ·rename_i hji
     have h1:=List.getElem?_eq_some_iff.mp hj
     have h2:=List.getElem?_eq_some_iff.mp hci
     have:=(List.pairwise_iff_getElem.mp (List.nodup_iff_pairwise_ne.mp nd)) j i h1.1 h2.1 hji
     exact this (h1.2.trans h2.2.symm)
    ·cases hj
   have etk:(ws.take (i+1)).filter (fun c=>(mkO s.es c).isNone)=(ws.take i).filter (fun c=>(mkO s.es c).isNone)++(if (mkO s.es c).isNone then [c] else []):=by
    rw[List.take_add_one,hci,List.filter_append]
    congr 1
    show List.filter _ [c]=_
    rw[List.filter_cons]
    rfl
   walk_at "rd"
   refine⟨_,_,_,s' _ _ x.ob,W.cl_j1,W.n_SayHunt_book,_,Kc ..,ad.b,rfl,_,_,s' _ _ hb,Hf _ _ (by decide +kernel) (by decide +kernel),ad.b,ad.d,t,_,c,s.es,rfl,x.bk.mono s',ht',fun hn=>?_,fun m hm=>?_⟩
   ·dsimp only
    rw[if_pos rfl]
    have hno:(mkO s.es c).isNone=true:=by rw[SH hn];rfl
    refine⟨_,DPut.t (k:=wkey c) hd (by rw[EF];exact ht') (by omega),(hPv _ _ _).mpr ⟨_,_,s'.over hp,Ae,?_,rfl⟩⟩
    rw[etk,if_pos hno]
    have:=hk.put c (.bl true)
    unfold ins at this
    rw[if_neg (fun z=>hnot (List.mem_filter.mp z).1)]at this
    exact this
   ·dsimp only
    rw[if_neg (by simp)]
    have hso:(mkO s.es c).isNone=false:=by rw[M6 x.bk.nd hm];rfl
    refine (hPv _ _ _).mpr ⟨kvs,_,s',hd,?_,rfl⟩
    rw[etk,hso]
    simpa using hk
  ·obtain⟨kvs,o,s',hd,hk,rfl⟩:=(hPv _ _ _).mp h'
   rw[hW.1,List.take_length]at hk
   walk_at "rd"
   refine⟨kvs,.inl hd,fun q rs hq hrl hrs=>?_⟩
   have x1:=x.same (s'.newT hq (o:=.lst rs))
   have uq:upd H' q (.lst rs) q=some (.lst rs):=Ae
   have hwd:=(hk.words (K:=K) hrl hrs).mono (TK.new hq (o:=.lst rs))
   have s1:=s'.newT hq (o:=.lst rs)
   have hqH:H q=none:=s'.none hq
   generalize upd H' q (.lst rs)=H1 at x1 uq hwd s1 ⊢
   obtain⟨n1,n2,n3,n4,n5,n6,n7,n8,n9,n10,n11⟩:=x1.na
   have hqa:q≠a:=fun z=>by rw[z,x1.ob]at uq;cases uq
   refine⟨_,_,_,x1.ob,W.cl_j1,W.n_SayHunt_gaps,by unfold afl;simp,?_⟩
   rw[Gz_]
   refine k {ad with pg:=q} _ ⟨gv,rv,zs,ys,rs,?_⟩ ⟨fun y o hy m1 m2 m3 m4 m5=>by rw[Ah m1];exact s1 _ _ hy,fun y hy=>?_⟩ ⟨rfl,rfl,rfl,rfl,rfl,.inr hqH⟩
   ·have tk:=x1.tkob (.ins C_j1 ad.dx (afl wv s.L s.most ad.b ad.pw ad.pe q gv rv))
    refine⟨Ae,BookAt.tk x1.bk (fun o h=>by rw[Ah x1.nb];exact h) (fun o h=>by rw[Ah n4];exact h),by rw[Ah n1];exact x1.w,x1.wW.mono tk,by rw[Ah n2];exact x1.e,x1.eW.mono tk,by rw[Ah hqa];exact uq,hwd.mono tk,x.we,fun z=>?_,fun z=>?_,x1.gv.mono tk,x1.rv.mono tk⟩
    ·rw[show q=ad.pw from z.symm,x.w]at hqH;cases hqH
    ·rw[show q=ad.pe from z.symm,x.e]at hqH;cases hqH
   ·by_cases hya:y=a
    ·rw[hya,Ae]at hy;cases hy
    ·rw[Ah hya]at hy;exact s1.none hy
def SJ (K:PySem.W.Frag)(CA CB:Addr):Sp:=fun vs H Q _=>∃(a:Addr) (ad:AD) (s:AS) (wv:V),vs=[.ref a]/\Asks K CA CB H a ad s wv/\Sz s/\∀ad' H',Asks K CA CB H' a ad' {s with G:=OQ s.L s.W s.E s.es} wv->Frm H H' a ad->AdOk H ad ad'->Q .non H'
theorem KN   (F:Fun K "look_for_gaps" "Asker.look_for_gaps" AR f fd)(T:Txt mg)
  (W:Own K mg C_j7 C_j9 C_jj C_ja C_j1 C_j4)
  (Z:Exs K mg C_j8 C_j5 C_j6 C_j3 C_j2 C_j0)
   (Jo:FnOk P w K mg base CX0 2 CI LN ["self","words"] (Zf K C_j1 C_j7)) (Hj:Fun K "ask_for" "Hunt.ask_for" DF CI LN) (Jp:Binds K LN ["self","words"] []) (Jq:Meth K C_j1 "ask_for" CI)
   (Bo_:FnOk P w K mg base CX0 2 Qk CG_ ["letters","access","ends"] (Cz_ K)) (TL:Fun K "cells" "cells" NY Qk CG_) (Bp_:Binds K CG_ ["letters","access","ends"] []) (Bq_:mg "cells"=some (.ref Qk))
  : FnOk P w K mg base CX0 3 f fd ["self"] (SJ K C_j1 C_j7):=by
 refine F.ok KI (fun vs H Q E h=>?_) (fun cdv A outer s H vs Q E hr h=>?_)
 ·obtain⟨a,ad,s,wv,rfl,_⟩:=h;rfl
 ·obtain⟨a,ad,s,wv,rfl,⟨gv,rv,zs,ys,us,x⟩,sz,k⟩:=h
  have hl:=Ao
  refine⟨_,(Ac (A9 (DE (pvD 0) W.cl_j1 Jq Jo (hr.mono (by decide)) Jp .nil Ax (Aa (Aj Bo_ (hr.mono (by decide)) rfl Bq_ TL.kp Bp_ .nil Ax (Aa (AO (pvD 0) rfl) (Aa (AO (pvD 0) rfl) (Aa (AO (pvD 0) rfl) Af)))) Af)))),?_⟩
  walk_at "rd"
  have w1:=sz.w.1
  have e1:=sz.e.1
  refine⟨_,_,x.ob,by kernel_rfl,_,_,_,x.ob,W.cl_j1,W.n_SayHunt_letters,_,Ii ..,_,_,_,x.ob,W.cl_j1,W.n_SayHunt_ways,_,Kd ..,_,_,_,x.ob,W.cl_j1,W.n_SayHunt_ends,_,Qi ..,s.L,ad.pw,ad.pe,zs,ys,s.W,s.E,rfl,sz.l6,SqL.of x.w,x.wW,by omega,fun v hv=>by have:=sz.w.2 v hv;omega,SqL.of x.e,x.eW,by omega,sz.e.2,fun l rs H1 s1 hlN hl1 hw=>?_⟩
  have hcl:(Kt (CM s.L s.W) s.E).length<=100000:=Fy_ (by omega) sz.l6 (by omega)
  exact⟨a,l,ad,s,wv,rs,_,rfl,⟨_,_,_,_,_,x.same s1⟩,SqL.of hl1,hw,Tx _ _,hcl,fun ad' H2 x2 f2 k2=>k ad' H2 x2 ((Frm.of s1 a ad).trans (AdOk.refl H ad) f2) (AdOk.trans (Frm.of s1 a ad) (AdOk.refl H ad) k2)⟩
def CH_ (K:PySem.W.Frag):Sp:=fun vs H Q _=>∃(a:Addr) (L:Nat),vs=[.ref a,.int L]/\L<=6/\∀l ts H',Same H H'->H l=none->H' l=some (.lst ts)->As K H' ts (fE57 L)->Q (.ref l) H'
theorem LO   (F:Fun K "first_ends" "SayHunt.first_ends" BD f fd)(T:Txt mg)
  (W:Own K mg C_j7 C_j9 C_jj C_ja C_j1 C_j4)
  (Z:Exs K mg C_j8 C_j5 C_j6 C_j3 C_j2 C_j0)
  : FnOk P w K mg base CX0 1 f fd ["self","letters"] (CH_ K):=by
 refine F.ok Lw (fun vs H Q E h=>?_) (fun cdv A outer s H vs Q E hr h=>?_)
 ·obtain⟨a,L,rfl,_⟩:=h;rfl
 ·obtain⟨a,L,rfl,hL,k⟩:=h
  have hl:=Ao
  refine⟨_,(Ac (Ar (Lo rfl (OG rfl) (cp:=GN) True.intro (Lj rfl T.range (Aa (pvD 1) Af)) (fun _ _ _ _=>(B3 (i:=0) Jm rfl (Or.inl rfl))) (fun _ _ _ _=>OF) (fun _ _ _ _=>(GJ (Aa (pvD 0) Af)))))),?_⟩
  walk_at "rd"
  refine⟨by omega,by omega,?_⟩
  rw[Int.toNat_natCast]
  obtain⟨Pc,hPc⟩:∃Pc:Nat->List V->St->Hp->Prop,∀i us σ' H',Pc i us σ' H'↔(Same H H'/\As K H' us (fE57 i)/\∃o,σ'=[o]):=⟨_,fun _ _ _ _=>Iff.rfl⟩
  refine Iu_ Pc ((hPc _ _ _ _).mpr ⟨Same.refl _,As.nil,none,rfl⟩) (by omega) (fun i us σ' H' hi h'=>?_) (fun i us σ' H' hi h'=>?_) (fun us σ' H1 h' D hD=>?_)
  ·obtain⟨_,hR,_⟩:=(hPc _ _ _ _).mp h'
   rw[hR.1];unfold fE57;rw[List.length_map,List.length_range];exact Nat.le_refl _
  ·obtain⟨s1,hR,o,rfl⟩:=(hPc _ _ _ _).mp h'
   rw[Int.zero_add]
   walk_at "rd"
   refine⟨by omega,fun t ht=>(hPc _ _ _ _).mpr ⟨s1.newT ht,?_,_,rfl⟩⟩
   have e:fE57 (i+1)=fE57 i++[[(i:Int)]]:=by unfold fE57;rw[List.range_succ,List.map_append];rfl
   rw[e]
   exact (hR.mono (TK.new ht)).snoc Ae
  ·obtain⟨s1,hR,o,rfl⟩:=(hPc _ _ _ _).mp h'
   exact k D us _ (s1.newT hD) (s1.none hD) Ae (hR.mono (TK.new hD))
def N4 (K:PySem.W.Frag):Sp:=fun vs H Q _=>∃(a h t:Addr) (L:Int) (m ws:List (List Int)) (v:List Int),vs=[.ref a,.ref h,.ref t]/\Vc K H h L m ws/\WfS L m ws/\SqT K H t (v.map V.int)/\v.length<=600/\isW L v=true/\v ≠ []/\∀H',Same H H'->Q (.int (lsay m ws v)) H'
theorem Ql   (F:Fun K "answer" "SayHunt.answer" Cb f fd)(T:Txt mg)
  (W:Own K mg C_j7 C_j9 C_jj C_ja C_j1 C_j4)
  (Z:Exs K mg C_j8 C_j5 C_j6 C_j3 C_j2 C_j0)
   (EX:FnOk P w K mg base (CXe P w) 5 BE D6 ["house","word"] (IY K C_j5)) (DK:Fun K "last_said" "last_said" Ef BE D6) (EY:Binds K D6 ["house","word"] []) (EZ:mg "last_said"=some (.ref BE))
  : FnOk P w K mg base CX0 6 f fd ["self","house","word"] (N4 K):=by
 refine F.ok P8 (fun vs H Q E h=>?_) (fun cdv A outer s H vs Q E hr h=>?_)
 ·obtain⟨a,h,t,L,m,ws,v,rfl,_⟩:=h;rfl
 ·obtain⟨a,h,t,L,m,ws,v,rfl,hh,wf,ht,hz,hv,hne,k⟩:=h
  refine⟨_,(Ac (Ar (Aj EX (hr.mono (by decide)) rfl EZ DK.kp EY .nil (P5 (P:=P) (w:=w)) (Aa (pvD 1) (Aa (pvD 2) Af))))),?_⟩
  walk_at "rd"
  refine⟨h,t,L,m,ws,v,rfl,hh,wf,ht,hz,fun _ _ H' x s' hx=>?_,fun z=>?_⟩
  ·have hlx:x=lsay m ws v:=by
    unfold lsay
    rw[List.getD_eq_getElem?_getD,hx];rfl
   subst hlx
   exact k H' s'
  ·rcases z with z|z
   ·rw[hv]at z;cases z
   ·exact absurd z hne
theorem IR_  {K:PySem.W.Frag}     (hK:X.K=K)(he:PE X e ta)(hb:attributeBase e f X.env (eval e X.env)=eval e X.env):PE X (.Attribute e f pos) (tFld K ta f):=by subst hK;exact AO he hb
def W7 (_K:PySem.W.Frag):V->Option Int->Option Int->Hp->VK->Prop:=fun x lo hi H Q=>∃a xs,x=.ref a/\H a=some (.tup xs)/\∀p H',Same H H'->H' p=some (.tup (cutV xs lo hi))->Q (.ref p) H'
theorem Br_  : SlR X (W7 X.K):=by
 intro pins s σ H x v vl vu lo hi sl Q I rx hs pl pu h
 obtain⟨a,xs,rfl,hx,q⟩:=h
 by_cases hw:HT.sIx xs.length 0 lo=0/\HT.sIx xs.length xs.length hi=xs.length
 ·cases rx
  obtain⟨its,r,ht,hz⟩:=I.tuple (SqT.of hx)
  have hlen:its.toArray.size=xs.length:=by rw[List.size_toArray];exact r.length.symm
  refine⟨"tuple",_,PyProof.Rows.slot_tuple_getitem.lookup,ht.typeIs,?_⟩
  refine HT.getItem_tuple_whole ht hs pl pu (by rw[hlen];exact hw) ⟨.ref a,H,I,rfl,q a H (Same.refl _) ?_⟩
  unfold cutV
  rw[hw.1,hw.2,List.drop_zero,Nat.sub_zero,List.take_length]
  exact hx
 ·exact Em_ pins s σ H (.ref a) v vl vu lo hi sl Q I rx hs pl pu ⟨a,xs,rfl,SqT.of hx,hw,fun p hp=>q p _ (Same.new hp) Ae⟩
theorem GB_  {K:PySem.W.Frag}(h:X.K=K):SlR X (W7 K):=by subst h;exact Br_
theorem W7.of {K:PySem.W.Frag}{a:Addr}{xs:List V}{m:Nat}{H:Hp}{Q:VK}(ha:H a=some (.tup xs))(q:∀p H',Same H H'->H' p=some (.tup (xs.take m))->Q (.ref p) H'):W7 K (.ref a) none (some (m:Int)) H Q:=by
 refine⟨a,xs,rfl,ha,fun p H' s' h=>q p H' s' ?_⟩
 rw[h]
 unfold cutV
 rw[HT.sIx_nat,HT.sIx_none,List.drop_zero,Nat.sub_zero]
 congr 2
 rw[List.take_eq_take_iff]
 omega
def HQ_ (K:PySem.W.Frag)(CA CB:Addr):Sp:=fun vs H Q _=>∃(a:Addr) (ad:AD) (s:AS) (wv:V),vs=[.ref a]/\Asks K CA CB H a ad s wv/\Sz s/\Tb s.L s.most s.W s.E s.es/\Full s.L s.W s.E s.es/\M7 s.L s.W s.E s.es=none/\∀h H',Same H H'->HouT K H' h s.L (HQ s.L s.W s.E s.es) (Nf s.L s.W s.E s.es)->Q (.ref h) H'
theorem LP   (F:Fun K "make_guess" "SayHunt.make_guess" BA f fd)(T:Txt mg)
  (W:Own K mg C_j7 C_j9 C_jj C_ja C_j1 C_j4)
  (Z:Exs K mg C_j8 C_j5 C_j6 C_j3 C_j2 C_j0)
   (Et:FnOk P w K mg base CX0 3 Cm EW ["book","letters","access","ends"] (Fq_ K C_j7)) (CH:Fun K "marks_by_row" "marks_by_row" CF Cm EW) (Eu:Binds K EW ["book","letters","access","ends"] []) (Ew:mg "marks_by_row"=some (.ref Cm))
   (ID:FnOk P w K mg base CX0 1 DR Kv ["letters","access","marks"] (CA_ K)) (E2:Fun K "ways_by_marks" "ways_by_marks" CZ DR Kv) (IE:Binds K Kv ["letters","access","marks"] []) (IF:mg "ways_by_marks"=some (.ref DR))
  : FnOk P w K mg base CX0 4 f fd ["self"] (HQ_ K C_j1 C_j7):=by
 refine F.ok EJ (fun vs H Q E h=>?_) (fun cdv A outer s H vs Q E hr h=>?_)
 ·obtain⟨a,ad,s,wv,rfl,_⟩:=h;rfl
 ·obtain⟨a,ad,s,wv,rfl,⟨gv,rv,zs,ys,us,x⟩,sz,tb,fu,hs,k⟩:=h
  have hl:=Ao
  refine⟨_,(Ad (Rp (i:=1) EJ.nd rfl (Or.inr rfl) (Aj Et (hr.mono (by decide)) rfl Ew CH.kp Eu .nil Ax (Aa (AO (pvD 0) rfl) (Aa (AO (pvD 0) rfl) (Aa (AO (pvD 0) rfl) (Aa (AO (pvD 0) rfl) Af))))))
   (Ad (AB (i:=2) EJ.nd (EE Hn rfl T.tuple PyProof.Rows.boot_tuple (Aa (Lo rfl (OG rfl) (cp:=GL) ⟨⟨rfl,rfl⟩,⟨⟨rfl,rfl⟩,True.intro⟩⟩ (Gq (AO (pvD 0) rfl)) (fun _ _ _ _=>(B3 (i:=0) Jl rfl (Or.inl rfl))) (fun _ _ _ _=>OF) (fun _ _ _ _=>(OE (GB_ (K:=K) rfl) (SY (NV hr) (pvD 1) (pvD 0) (fun _ _=>rfl)) SU (SV (IR_ (K:=K) rfl (pvD 2) rfl))))) Af)))
   (Ac (Ar (GJ (Aa (AO (pvD 0) rfl) (Aa (pvD 2) (Aa (Aj ID (hr.mono (by decide)) rfl IF E2.kp IE .nil Ax (Aa (AO (pvD 0) rfl) (Aa (AO (pvD 0) rfl) (Aa (pvD 1) Af)))) Af)))))))),?_⟩
  walk_at "rd"
  have w1:=sz.w.1
  have e1:=sz.e.1
  obtain⟨np,cl⟩:=tb.none fu hs
  refine⟨_,_,_,x.ob,W.cl_j1,W.n_SayHunt_book,_,Kc ..,_,_,_,x.ob,W.cl_j1,W.n_SayHunt_letters,_,Ii ..,_,_,_,x.ob,W.cl_j1,W.n_SayHunt_ways,_,Kd ..,_,_,_,x.ob,W.cl_j1,W.n_SayHunt_ends,_,Qi ..,ad.b,ad.d,ad.pw,ad.pe,s.L,s.L,s.es,zs,ys,s.W,s.E,rfl,x.bk,sz.l6,SqL.of x.w,x.wW,by omega,fun v hv=>by have:=sz.w.2 v hv;omega,SqL.of x.e,x.eW,by omega,sz.e.2,fun m kvs H1 s1 hm0 hm hM=>?_⟩
  have hA1:As K H1 zs s.W:=x.wW.mono (TK.of s1)
  have hob1:=s1 _ _ x.ob
  refine⟨_,_,_,hob1,W.cl_j1,W.n_SayHunt_ways,_,Kd ..,_,rfl,⟨_,s1.seq (SqL.of x.w)⟩,Gd_ (xs:=zs) (fun i us σ' H'=>Same H1 H'/\As K H' us ((s.W.take i).map fun v=>(gOf s.E s.es v).take s.L)/\∃o,σ'=[o,some (.ref m),some (.ref a)]) ⟨Same.refl _,As.nil,none,rfl⟩ (by rw[x.wW.1];omega) (fun i us σ' H' hi h'=>⟨(s1.trans h'.1).seq (SqL.of x.w),by rw[h'.2.1.1,List.length_map,List.length_take];omega⟩) (fun i y us σ' H' hx h'=>?_) (fun us σ' H' h' D hD=>?_)⟩
  ·obtain⟨s2,hus,o,rfl⟩:=h'
   obtain⟨t,w,hwi,rfl,ht⟩:=(hA1.mono (TK.of s2)).at hx
   have hwm:=List.mem_of_getElem? hwi
   have et:s.W.take (i+1)=s.W.take i++[w]:=by rw[List.take_add_one,hwi];rfl
   obtain⟨u,hu1,hu2⟩:=hM.get (Kb (n:=s.L) hwm)
   have hdg:DGet H' m (.ref t) (some (.ref u)):=by rw[<-hu1];exact DGet.t (k:=wkey w) (s2 _ _ hm) (by rw[EF];exact ht)
   walk_at "rd"
   refine⟨_,hdg,_,_,_,s2 _ _ hob1,W.cl_j1,W.n_SayHunt_letters,_,Ii ..,_,rfl,W7.of (s2 _ _ hu2) fun p H4 s4 hp=>⟨s2.trans s4,?_,_,rfl⟩⟩
   rw[et,List.map_append]
   refine (hus.mono (TK.of s4)).snoc ?_
   rw[hp,Fs_ fu (Kb (n:=s.L) hwm),List.map_take]
  ·obtain⟨s2,hus,o,rfl⟩:=h'
   rw[x.wW.1,List.take_length]at hus
   refine⟨D,rfl,_,.inl ⟨SqL.of Ae,fun tm htm=>?_⟩⟩
   have sD:=(s2.newT hD (o:=.lst us)).newT htm (o:=.tup us)
   have s3:=s1.trans sD
   have hob3:=s3 _ _ x.ob
   refine⟨_,_,_,hob3,W.cl_j1,W.n_SayHunt_letters,_,Ii ..,_,_,_,hob3,W.cl_j1,W.n_SayHunt_letters,_,Ii ..,_,_,_,hob3,W.cl_j1,W.n_SayHunt_ways,_,Kd ..,s.L,ad.pw,m,zs,s.W,kvs,gOf s.E s.es,rfl,sz.l6,s3.seq (SqL.of x.w),x.wW.mono (TK.of s3),by omega,fun v hv=>by have:=sz.w.2 v hv;omega,sD _ _ hm,⟨hM.1,fun i w hi=>?_⟩,tb.nodup fu,cl,fun tw zs' H3 s4 htw hz=>⟨by omega,fun h hh=>?_⟩⟩
   ·obtain⟨t,e1,e2⟩:=hM.2 i w hi
    refine⟨t,e1,?_⟩
    have:=sD _ _ e2
    show _=some (HO.tup ((gOf s.E s.es w).map V.int))
    rw[<-Fs_ fu (List.mem_of_getElem? hi)]
    exact this
   ·have sh:=Same.new hh (o:=.tup [.int s.L,.ref tm,.ref tw])
    have s5:=s4.trans sh
    refine k h _ (s3.trans s5) ⟨tm,tw,us,zs',Ae,s5 _ _ Ae,hus.mono (TK.of (((Same.new hD (o:=.lst us)).newT htm (o:=.tup us)).trans s5)),sh _ _ htw,hz.mono (TK.of sh)⟩
def HR_ (K:PySem.W.Frag)(CA CB:Addr):Sp:=fun vs H Q _=>∃(a:Addr) (ad:AD) (s:AS) (wv:V) (m ws:List (List Int)),vs=[.ref a]/\Asks K CA CB H a ad s wv/\s.gs=some (m,ws)/\WfS s.L m ws/\(∀e∈s.es,(isW s.L e.1=true/\e.1 ≠ [])/\e.1.length<=600)/\∀H',Same H H'->(Gi s.es m ws=none->Q .non H')/\∀v t,Gi s.es m ws=some v->H' t=some (.tup (v.map V.int))->Q (.ref t) H'
theorem LQ   (F:Fun K "wrong_word" "SayHunt.wrong_word" BB f fd)(T:Txt mg)
  (W:Own K mg C_j7 C_j9 C_jj C_ja C_j1 C_j4)
  (Z:Exs K mg C_j8 C_j5 C_j6 C_j3 C_j2 C_j0)
   (EX:FnOk P w K mg base (CXe P w) 5 BE D6 ["house","word"] (IY K C_j5)) (DK:Fun K "last_said" "last_said" Ef BE D6) (EY:Binds K D6 ["house","word"] []) (EZ:mg "last_said"=some (.ref BE))
   (Gj:FnOk P w K mg base CX0 1 Cq Gy ["self"] (J9 K C_j7)) (Gk:Fun K "heard" "Book.heard" D2 Cq Gy) (Gm:Binds K Gy ["self"] []) (Gn:Meth K C_j7 "heard" Cq)
   (Jr:FnOk P w K mg base CX0 6 Ex LR ["heard","answer","house"] (LI K BE)) (FG:Fun K "first_unlike" "first_unlike" DG Ex LR) (Js:Binds K LR ["heard","answer","house"] []) (Jt:mg "first_unlike"=some (.ref Ex))
  : FnOk P w K mg base CX0 7 f fd ["self"] (HR_ K C_j1 C_j7):=by
 refine F.ok Lu (fun vs H Q E h=>?_) (fun cdv A outer s H vs Q E hr h=>?_)
 ·obtain⟨a,ad,s,wv,m,ws,rfl,_⟩:=h;rfl
 ·obtain⟨a,ad,s,wv,m,ws,rfl,⟨gv,rv,zs,ys,us,x⟩,hg,wf,hb,k⟩:=h
  refine⟨_,(Ac (Ar (Aj Jr (hr.mono (by decide)) rfl Jt FG.kp Js .nil Ax (Aa (Bl (AO (pvD 0) rfl) W.cl_j7 Gn Gj (hr.mono (by decide)) Gm .nil Ax) (Aa (Li (v:=.ref BE) rfl EZ rfl) (Aa (AO (pvD 0) rfl) Af)))))),?_⟩
  walk_at "rd"
  have hgv:=x.gv
  rw[hg]at hgv
  obtain⟨h,rfl,hh⟩:=hgv
  obtain⟨⟨dx,hob⟩,hdc,nd⟩:=id x.bk
  refine⟨_,_,_,x.ob,W.cl_j1,W.n_SayHunt_book,_,Kc ..,_,rfl,_,_,hob,Hf _ _ (by decide +kernel) (by decide +kernel),ad.b,ad.d,s.L,s.es,rfl,x.bk,fun l rs H1 s1 hl0 hl1 htr=>?_⟩
  refine⟨_,_,_,s1 _ _ x.ob,W.cl_j1,W.n_SayHunt_guess,_,SI ..,l,h,s.L,m,ws,rs,s.es,rfl,SqL.of hl1,htr,(hh.mono (TK.of s1)).house,wf,hb,fun H' s'=>⟨fun hno=>(k H' (s1.trans s')).1 ?_,fun i e t hno hi hw' ht=>?_⟩⟩
  ·unfold Gi
   rw[Option.map_eq_none_iff,List.find?_eq_none]
   intro e he
   have:=hno e he
   unfold TC at this
   rw[this];simp
  ·refine (k H' (s1.trans s')).2 e.1 t ?_ ht
   ·unfold Gi
    have hil:=(List.getElem?_eq_some_iff.mp hi).1
    have e':s.es=s.es.take i++(e::s.es.drop (i+1)):=by
     have h1:=(List.take_append_drop (i+1) s.es).symm
     rw[List.take_add_one,hi,List.append_assoc]at h1
     exact h1
    rw[e',List.find?_append,List.find?_eq_none.mpr fun p hp=>?_,List.find?_cons]
    ·unfold TC at hw'
     rw[hw'];rfl
    ·obtain⟨j,hj⟩:=List.mem_iff_getElem?.mp hp
     rw[List.getElem?_take]at hj
     split at hj
     ·rename_i hji
      have:=hno j hji p hj
      unfold TC at this
      rw[this];simp
     ·cases hj
theorem Tb.ends0    (t:Tb L most W E es):E[0]?=some [0]:=by
 have h1:=t.l1
 have h:=congrArg (fun l=>l[0]?) t.e0
 simp only[List.getElem?_take,List.getElem?_map,List.getElem?_range h1]at h
 rw[if_pos (by omega)]at h
 exact h
def Zg (K:PySem.W.Frag)(CB:Addr):Sp:=fun vs H Q _=>∃(b d pw h t:Addr) (L:Nat) (es:Bk) (zs:List V) (W:List (List Int)) (m ws:List (List Int)) (v:List Int) (mk:Int) (n:Nat),vs=[.ref b,.ref pw,.ref h,.ref t,.int mk,.int n]/\BookAt CB H b d L es/\H pw=some (.lst zs)/\As K H zs W/\Vc K H h L m ws/\WfS L m ws/\H t=some (.tup (v.map V.int))/\isW L v=true/\0<n/\n<v.length/\v.length<=600/\(∀u∈W,u.length<=50)/\(∀i,i<=v.length->∃k:Nat,Fp ws (v.take i)=(k:Int)/\W[k]?=some (N2 W ws v i))/\∀H',Same H H'->(∀c u t',Ng es W ws v mk v.length 0 n=.ask c->H' u=some (.tup (c.map V.int))->H' t'=some (.tup [.str "ask",.ref u])->Q (.ref t') H')/\(∀hi u t',Ng es W ws v mk v.length 0 n=.fin hi->H' u=some (.tup ((v.drop hi).map V.int))->H' t'=some (.tup [.str "end",.ref u])->Q (.ref t') H')
theorem Fz_   (F:Fun K "halved" "halved" J6 f fd)(T:Txt mg)
  (W:Own K mg C_j7 C_j9 C_jj C_ja C_j1 C_j4)
  (Z:Exs K mg C_j8 C_j5 C_j6 C_j3 C_j2 C_j0)
   (Qc:FnOk P w K mg base (CXe P w) 3 J8 OM ["house","word"] (Ts K C_j5)) (LB:Fun K "trail" "trail" Ls J8 OM) (Qd:Binds K OM ["house","word"] []) (Qe:mg "trail"=some (.ref J8))
   (Ej:FnOk P w K mg base CX0 1 B7 D5 ["self","word"] (IZ C_j7)) (EV:Fun K "told" "Book.told" Ee B7 D5) (Ek:Binds K D5 ["self","word"] []) (El:Meth K C_j7 "told" B7)
  : FnOk P w K mg base CX0 4 f fd ["book","access","guess","word","mark","last"] (Zg K C_j7):=by
 refine F.ok Gs (fun vs H Q E h=>?_) (fun cdv A outer s H vs Q E hr h=>?_)
 ·obtain⟨b,d,pw,h,t,L,es,zs,W',m,ws,v,mk,N,rfl,_⟩:=h;rfl
 ·obtain⟨b,d,pw,h,t,L,es,zs,W',m,ws,v,mk,N,rfl,bk,hpw,hW,hh,wf,ht,hv,hv0,hvN,hz,hz2,hacc,k⟩:=h
  have hl:=Ao
  refine⟨_,(Ad (AB (i:=6) Gs.nd (Aj Qc (hr.mono (by decide)) rfl Qe LB.kp Qd .nil (P5 (P:=P) (w:=w)) (Aa (pvD 2) (Aa (pvD 3) Af))))
   (Ad (AB (i:=7) Gs.nd Ai)
   (Ad (AB (i:=8) Gs.nd (pvD 5))
   (Ad (Wu PassesOwn.never (ptT (Ay (opD0 Ig_) (Bt (opD0 DZ_) (pvD 8) (pvD 7)) Ai (Bg _)))
   (Ad (AB (i:=9) Gs.nd (Bt (opD PZ) (Bt (opD0 FE) (pvD 7) (pvD 8)) Ai))
   (Ad (AB (i:=10) Gs.nd (Bt J4 (BF (ixLD Jk) (pvD 1) (BF (ixLD Jk) (pvD 6) (pvD 9))) (OE Em_ (pvD 3) (SV (pvD 9)) SU)))
   (Ad (AB (i:=11) Gs.nd (DE (pvD 0) W.cl_j7 El Ej (hr.mono (by decide)) Ek .nil Ax (Aa (pvD 10) Af)))
   (Ad (Cu (ptT (Ay V8 (pvD 11) F3 (Bg _)))
   (Ac (Ar (GJ (Aa Bm (Aa (pvD 10) Af)))))
   AQ)
   (Ac (Cu (ptT (Ay (opE NU) (pvD 11) (pvD 4) (Bg _)))
   (Ac (AB (i:=8) Gs.nd (pvD 9)))
   (Ac (AB (i:=7) Gs.nd (pvD 9))))))))))
   (Ac (Ar (GJ (Aa Bm (Aa (OE Em_ (pvD 3) (SV (pvD 8)) SU) Af))))))))),?_⟩
  obtain⟨⟨dxb,hb⟩,hd,nd⟩:=id bk
  walk_at "rd"
  obtain⟨tm,tw,h1,_,h3⟩:=id hh
  refine⟨h,t,tm,tw,L,_,ws,v,rfl,h1,h3,wf.wf,SqT.of ht,hz,fun _ p H1 s1 hpN hp=>?_,fun z=>by rw[hv]at z;cases z⟩
  obtain⟨Pv,hPv⟩:∃Pv:Nat->St->Hp->Prop,∀n σ' H',Pv n σ' H'↔(∃(lo hi:Nat) (f:Nat) (o1 o2 o3:Option V),Same H1 H'/\n=hi-lo/\hi-lo<=f+1/\lo<hi/\hi<=N/\Ng es W' ws v mk v.length 0 N=Ng es W' ws v mk f lo hi/\σ'=[some (.ref b),some (.ref pw),some (.ref h),some (.ref t),some (.int mk),some (.int N),some (.ref p),some (.int lo),some (.int hi),o1,o2,o3]):=⟨_,fun _ _ _=>Iff.rfl⟩
  refine EH_ Pv ⟨N,(hPv _ _ _).mpr ⟨0,N,v.length,none,none,none,Same.refl _,by omega,by omega,by omega,by omega,rfl,rfl⟩⟩ fun n σ' H' h'=>?_
  obtain⟨lo,hi,f,o1,o2,o3,s',hn,hf,hlo,hhi,e,rfl⟩:=(hPv _ _ _).mp h'
  walk_at "rd"
  by_cases hg:hi-lo > 1
  ·rw[if_pos (by omega)]
   refine⟨fun σ2 H2=>∃m',m'<n/\Pv m' σ2 H2,fun _ _ z=>z,?_⟩
   have em:((lo:Int)+(hi:Int)) / 2=(((lo+hi) / 2:Nat):Int):=by omega
   simp only[em]
   have hmid:(lo+hi) / 2<=v.length:=by omega
   obtain⟨kk,k1,k2⟩:=hacc _ hmid
   obtain⟨ta,a1,a2⟩:=(hW.mono (TK.of (s1.trans s'))).2 kk _ k2
   have ht':=(s1.trans s') _ _ ht
   refine⟨by show CDiv _ _;unfold CDiv;omega,_,SqL.of (s' _ _ hp),_,P0 (Fw_ ws v hmid),zs,_,rfl,SqL.of ((s1.trans s') _ _ hpw),_,(by rw[k1];exact P0 a1),_,SqT.of ht',?_,fun q hq=>?_⟩
   ·rw[HT.sIx_nat,HT.sIx_none,List.length_map];omega
   rw[Wl]
   have sq:=Same.new (o:=.tup ((v.drop ((lo+hi) / 2)).map V.int)) hq
   have hlen:=hz2 _ (List.mem_of_getElem? k2)
   refine Kq.ofS (sq _ _ a2) Ae (by rw[List.length_map,List.length_map,List.length_drop];omega) fun u H2 s2 hu=>?_
   rw[<-List.map_append]at hu
   have s3:=(s1.trans s').trans (sq.trans s2)
   have s4:=s'.trans (sq.trans s2)
   refine⟨_,_,s3 _ _ hb,Hf _ _ (by decide +kernel) (by decide +kernel),b,d,u,L,_,es,rfl,bk.mono s3,hu,fun hn2=>?_,fun t' hm=>?_⟩
   ·dsimp only
    rw[if_pos rfl]
    refine⟨by omega,fun x hx=>?_⟩
    obtain⟨f',rfl⟩:∃f',f=f'+1:=⟨f-1,by omega⟩
    refine (k _ (s3.newT hx)).1 _ u x ?_ (Same.new hx _ _ hu) Ae
    rw[e]
    unfold Ng
    rw[if_pos hg,SH hn2]
   ·dsimp only
    rw[if_neg (by simp)]
    obtain⟨f',rfl⟩:∃f',f=f'+1:=⟨f-1,by omega⟩
    have e2:Ng es W' ws v mk (f'+1) lo hi=if t'=mk then Ng es W' ws v mk f' lo ((lo+hi) / 2) else Ng es W' ws v mk f' ((lo+hi) / 2) hi:=by
     conv=>lhs;unfold Ng
     rw[if_pos hg,M6 nd hm]
    rw[e2]at e
    refine⟨rfl,?_⟩
    by_cases htm:t'=mk
    ·rw[if_pos (by rw[htm])]
     rw[if_pos htm]at e
     exact⟨_,by omega,(hPv _ _ _).mpr ⟨lo,(lo+hi) / 2,f',_,_,_,s4,rfl,by omega,by omega,by omega,e,rfl⟩⟩
    ·rw[if_neg (fun z=>htm (V.int.inj z))]
     rw[if_neg htm]at e
     exact⟨_,by omega,(hPv _ _ _).mpr ⟨(lo+hi) / 2,hi,f',_,_,_,s4,rfl,by omega,by omega,by omega,e,rfl⟩⟩
  ·rw[if_neg (by omega)]
   have ht':=(s1.trans s') _ _ ht
   refine⟨_,SqT.of ht',?_,fun q hq=>⟨by omega,fun x hx=>?_⟩⟩
   ·rw[HT.sIx_nat,HT.sIx_none,List.length_map];omega
   rw[Wl]at hx ⊢
   have sq:=Same.new (o:=.tup ((v.drop hi).map V.int)) hq
   refine (k _ (((s1.trans s').trans sq).newT hx)).2 hi q x ?_ (Same.new hx _ _ Ae) Ae
   rw[e]
   cases f with
   |zero=>rfl
   |succ f=>unfold Ng;rw[if_neg hg]
def Zh (K:PySem.W.Frag)(CA CB:Addr):Sp:=fun vs H Q _=>∃(a:Addr) (ad:AD) (s:AS) (wv:V) (B:Nat),vs=[.ref a]/\Asks K CA CB H a ad s wv/\OkX none B s/\s.G=[]/\Bd B s/\M7 s.L s.W s.E s.es=none/\∀H' r,Asks K CA CB H' a ad (KL s).1 wv->Frm H H' a ad->((KL s).2=none->r=.non)->(∀x,(KL s).2=some x->Cf K H' s.L r x)->Q r H'
theorem LS   (F:Fun K "look_at_guess" "Hunt.look_at_guess" BC f fd)(T:Txt mg)
  (W:Own K mg C_j7 C_j9 C_jj C_ja C_j1 C_j4)
  (Z:Exs K mg C_j8 C_j5 C_j6 C_j3 C_j2 C_j0)
   (Fq:FnOk P w K mg base CX0 4 Bn Hu ["self"] (HQ_ K C_j1 C_j7)) (DL:Fun K "make_guess" "SayHunt.make_guess" BA Bn Hu) (Fs:Binds K Hu ["self"] []) (Ft:Meth K C_j1 "make_guess" Bn)
   (Fu:FnOk P w K mg base CX0 7 Bo Hv ["self"] (HR_ K C_j1 C_j7)) (DM:Fun K "wrong_word" "SayHunt.wrong_word" BB Bo Hv) (Fv:Binds K Hv ["self"] []) (Fw:Meth K C_j1 "wrong_word" Bo)
  : FnOk P w K mg base CX0 8 f fd ["self"] (Zh K C_j1 C_j7):=by
 refine F.ok Lv (fun vs H Q E h=>?_) (fun cdv A outer s H vs Q E hr h=>?_)
 ·obtain⟨a,ad,s,wv,B,rfl,_⟩:=h;rfl
 ·obtain⟨a,ad,s,wv,B,rfl,⟨gv,rv,zs,ys,us,x⟩,ok,hG,bd,hst,k⟩:=h
  have hl:=Ao
  have sz:=ok.sz bd
  have tb:=ok.tb
  obtain⟨np,cl⟩:=tb.none (ok.full hG) hst
  have g:GuessOk s.L s.W s.E s.es (HQ s.L s.W s.E s.es) (Nf s.L s.W s.E s.es):=tb.guess (ok.full hG) cl
  have wf:=tb.wf g
  refine⟨_,(Ad (F4 (pvD 0) (Bl (pvD 0) W.cl_j1 Ft Fq (hr.mono (by decide)) Fs .nil Ax) rfl)
   (Ad (F4 (pvD 0) (Bl (pvD 0) W.cl_j1 Fw Fu (hr.mono (by decide)) Fv .nil Ax) rfl)
   (Ad (Cu (ptT (Ay V8 (AO (pvD 0) rfl) F3 (Bg _)))
   (Ac (Ar (GJ (Aa Bm (Aa (AO (pvD 0) rfl) Af)))))
   AQ)
   (Ac (Ar F3))))),?_⟩
  walk_at "rd"
  refine⟨_,_,x.ob,by kernel_rfl,a,ad,s,wv,rfl,⟨_,_,_,_,_,x⟩,sz,tb,ok.full hG,hst,fun h H1 s1 hh=>?_⟩
  have x1:=x.same s1
  refine⟨_,_,_,x1.ob,W.cl_j1,W.n_SayHunt_guess,Qj ..,?_⟩
  rw[Fv_]
  have x2:=x1.put (wv':=wv) (gv':=.ref h) (rv':=rv) (s':={s with gs:=some (HQ s.L s.W s.E s.es,Nf s.L s.W s.E s.es)}) rfl rfl rfl rfl rfl rfl ⟨h,rfl,hh⟩ x1.rv
  have f2:=(Frm.of s1 a ad).seq (x1.putF (.ins C_j1 ad.dx (afl wv s.L s.most ad.b ad.pw ad.pe ad.pg (.ref h) rv)))
  refine⟨_,_,x2.ob,by kernel_rfl,a,ad,_,wv,_,_,rfl,⟨_,_,_,_,_,x2⟩,rfl,wf,fun e he=>⟨⟨(tb.bW e he).1,ok.ne e he⟩,sz.b e he⟩,fun H3 s3=>⟨fun hno=>?_,fun v t hv ht=>?_⟩⟩
  ·have el:KL s=({s with gs:=some (HQ s.L s.W s.E s.es,Nf s.L s.W s.E s.es),wr:=none},some (.shown (HQ s.L s.W s.E s.es) (Nf s.L s.W s.E s.es))):=by
    unfold KL
    rw[hst]
    dsimp only
    rw[hno]
   have x3:=x2.same s3
   refine⟨_,_,_,x3.ob,W.cl_j1,W.n_SayHunt_wrong,Qj ..,?_⟩
   rw[TB]
   have x4:=x3.put (wv':=wv) (gv':=.ref h) (rv':=.non) (s':={s with gs:=some (HQ s.L s.W s.E s.es,Nf s.L s.W s.E s.es),wr:=none}) rfl rfl rfl rfl rfl rfl x3.gv rfl
   have f4:=(f2.seq (Frm.of s3 a ad)).seq (x3.putF (.ins C_j1 ad.dx (afl wv s.L s.most ad.b ad.pw ad.pe ad.pg (.ref h) .non)))
   refine⟨_,_,_,x4.ob,W.cl_j1,W.n_SayHunt_wrong,_,M8 ..,?_⟩
   rw[if_pos rfl]
   refine⟨_,_,_,x4.ob,W.cl_j1,W.n_SayHunt_guess,_,SI ..,by omega,fun p hp=>?_⟩
   refine k _ _ ?_ (f4.seq (Frm.of (Same.new hp) a ad)) ?_ ?_
   ·rw[el];exact⟨_,_,_,_,_,x4.same (Same.new hp)⟩
   ·rw[el];exact fun z=>by cases z
   ·rw[el]
    intro y z
    cases z
    refine⟨p,h,rfl,Ae,?_⟩
    obtain⟨h',e',hh'⟩:=(x4.same (Same.new hp)).gv
    cases e'
    exact hh'
  ·have el:KL s=({s with gs:=some (HQ s.L s.W s.E s.es,Nf s.L s.W s.E s.es),wr:=some v},none):=by
    unfold KL
    rw[hst]
    dsimp only
    rw[hv]
   have x3:=x2.same s3
   refine⟨_,_,_,x3.ob,W.cl_j1,W.n_SayHunt_wrong,Qj ..,?_⟩
   rw[TB]
   have x4:=x3.put (wv':=wv) (gv':=.ref h) (rv':=.ref t) (s':={s with gs:=some (HQ s.L s.W s.E s.es,Nf s.L s.W s.E s.es),wr:=some v}) rfl rfl rfl rfl rfl rfl x3.gv ⟨t,rfl,ht⟩
   have f4:=(f2.seq (Frm.of s3 a ad)).seq (x3.putF (.ins C_j1 ad.dx (afl wv s.L s.most ad.b ad.pw ad.pe ad.pg (.ref h) (.ref t))))
   refine⟨_,_,_,x4.ob,W.cl_j1,W.n_SayHunt_wrong,_,M8 ..,?_⟩
   rw[if_neg (by simp)]
   refine k _ _ ?_ f4 ?_ ?_
   ·rw[el];exact⟨_,_,_,_,_,x4⟩
   ·rw[el];exact fun _=>rfl
   ·rw[el];exact fun y z=>by cases z
def N5 (K:PySem.W.Frag)(CA CB:Addr)(pre:AS->Prop)(f:AS->AS×Option Wish):Sp:=fun vs H Q _=>∃(a:Addr) (ad:AD) (s:AS) (wv:V) (B:Nat),vs=[.ref a]/\Asks K CA CB H a ad s wv/\OkX none B s/\Bd B s/\pre s/\∀ad' H' r,Asks K CA CB H' a ad' (f s).1 wv->Frm H H' a ad->AdOk H ad ad'->((f s).2=none->r=.non)->(∀x,(f s).2=some x->Cf K H' s.L r x)->Q r H'
theorem KO   (F:Fun K "look_at_words" "Asker.look_at_words" Bu f fd)(T:Txt mg)
  (W:Own K mg C_j7 C_j9 C_jj C_ja C_j1 C_j4)
  (Z:Exs K mg C_j8 C_j5 C_j6 C_j3 C_j2 C_j0)
   (AU:FnOk P w K mg base CX0 3 An AZ ["self"] (SJ K C_j1 C_j7)) (Bc:Fun K "look_for_gaps" "Asker.look_for_gaps" AR An AZ) (AV:Binds K AZ ["self"] []) (AW:Meth K C_j1 "look_for_gaps" An)
   (Fx:FnOk P w K mg base CX0 8 Bp Hw ["self"] (Zh K C_j1 C_j7)) (DO:Fun K "look_at_guess" "Hunt.look_at_guess" BC Bp Hw) (Fy:Binds K Hw ["self"] []) (Fz:Meth K C_j1 "look_at_guess" Bp)
   (Qm:FnOk P w K mg base CX0 4 Ij TM ["book","letters","access","ends"] (Wk K C_j7)) (JS:Fun K "stranger" "stranger" GZ Ij TM) (Qn:Binds K TM ["book","letters","access","ends"] []) (Qo:mg "stranger"=some (.ref Ij))
  : FnOk P w K mg base CX0 9 f fd ["self"] (N5 K C_j1 C_j7 (fun s=>s.G=[]/\s.wr=none) KL):=by
 refine F.ok GK (fun vs H Q E h=>?_) (fun cdv A outer s H vs Q E hr h=>?_)
 ·obtain⟨a,ad,s,wv,B,rfl,_⟩:=h;rfl
 ·obtain⟨a,ad,s,wv,B,rfl,⟨gv,rv,zs,ys,us,x⟩,ok,bd,⟨hG,hwr⟩,k⟩:=h
  have hl:=Ao
  have sz:=ok.sz bd
  have tb:=ok.tb
  have w1:=sz.w.1
  have e1:=sz.e.1
  refine⟨_,(Ad (AB (i:=1) GK.nd (Aj Qm (hr.mono (by decide)) rfl Qo JS.kp Qn .nil Ax (Aa (AO (pvD 0) rfl) (Aa (AO (pvD 0) rfl) (Aa (AO (pvD 0) rfl) (Aa (AO (pvD 0) rfl) Af))))))
   (Ad (Cu (ptT (Ay V8 (pvD 1) F3 (Bg _)))
   (Ac (Ar (Bl (pvD 0) W.cl_j1 Fz Fx (hr.mono (by decide)) Fy .nil Ax)))
   AQ)
   (Ad (Cu (ptT (Ay (opE NU) (C3 (lenD Dk) (by rfl) T.len PySem.boot_len (Aa (AO (pvD 0) rfl) Af)) (AO (pvD 0) rfl) (Bg _)))
   (Ac (Ar (GJ (Aa Bm (Aa (pvD 1) Af)))))
   AQ)
   (Ad (A9 (Da_ PySem.F.plainAttrs_list PySem.F.slot_list_append PySem.F.type_list_append Ll (AO (pvD 0) rfl) (Aa (pvD 1) Af)))
   (Ad (A9 (Bl (pvD 0) W.cl_j1 AW AU (hr.mono (by decide)) AV .nil Ax))
   (Ac (Ar F3))))))),?_⟩
  walk_at "rd"
  refine⟨_,_,_,x.ob,W.cl_j1,W.n_SayHunt_book,_,Kc ..,_,_,_,x.ob,W.cl_j1,W.n_SayHunt_letters,_,Ii ..,_,_,_,x.ob,W.cl_j1,W.n_SayHunt_ways,_,Kd ..,_,_,_,x.ob,W.cl_j1,W.n_SayHunt_ends,_,Qi ..,ad.b,ad.d,ad.pw,ad.pe,s.L,s.L,s.es,zs,ys,s.W,s.E,gOf s.E s.es,rfl,x.bk,sz.l6,SqL.of x.w,x.wW,by omega,fun v hv=>by have:=sz.w.2 v hv;omega,SqL.of x.e,x.eW,by omega,sz.e.2,fun v hv=>Fs_ (ok.full hG) hv,fun r t H1 hst s1 ht=>?_,fun H1 hst s1=>?_⟩
  ·dsimp only
   rw[if_neg (by simp)]
   have x1:=x.same s1
   have f1:=Frm.of s1 a ad
   have k1:=AdOk.refl H ad
   refine⟨_,_,_,x1.ob,W.cl_j1,W.n_SayHunt_ways,_,Kd ..,ad.pw,rfl,_,.inl (SqL.of x1.w),_,_,_,x1.ob,W.cl_j1,W.n_SayHunt_most,_,IQ_ ..,rfl,?_⟩
   rw[x1.wW.1]
   by_cases hm:s.W.length=s.most
   ·rw[if_pos (by rw[hm])]
    have el:KL s=(s,some (.spent r)):=by
     unfold KL
     rw[show M7 s.L s.W s.E s.es=some r from hst]
     dsimp only
     rw[if_pos hm]
    refine⟨by omega,fun p hp=>?_⟩
    refine k ad _ _ ?_ (f1.seq (Frm.of (Same.new hp) a ad)) k1 ?_ ?_
    ·rw[el];exact⟨_,_,_,_,_,x1.same (Same.new hp)⟩
    ·rw[el];exact fun z=>by cases z
    ·rw[el]
     intro y z
     cases z
     exact⟨p,t,rfl,Ae,Same.new hp _ _ ht⟩
   ·rw[if_neg (fun z=>hm (by have:=V.int.inj z;omega))]
    have el:KL s=({s with W:=s.W++[r],G:=OQ s.L (s.W++[r]) s.E s.es},none):=by
     unfold KL
     rw[show M7 s.L s.W s.E s.es=some r from hst]
     dsimp only
     rw[if_neg hm]
    have x2:=x1.putW (x1.wW.snoc ht)
    have f2:=f1.seq (Frm.put (a:=a) (o:=.lst (zs++[.ref t])) (.inl rfl) ⟨_,x1.w⟩)
    obtain⟨o2,kp,_⟩:=(Ft_ ok hG hwr).1 _ el
    have sz2:=o2.sz (B:=B) bd
    refine⟨_,_,_,x1.ob,W.cl_j1,W.n_SayHunt_ways,_,Kd ..,.inl ⟨rfl,_,SqL.of x1.w⟩,ad.pw,rfl,_,x1.w,by rw[x1.wW.1];omega,_,_,x2.ob,by kernel_rfl,a,ad,_,wv,rfl,⟨_,_,_,_,_,x2⟩,⟨sz2.l6,sz2.w,sz2.e,sz2.b⟩,fun ad' H3 x3 f3 k3=>?_⟩
    refine k ad' H3 _ ?_ (f2.trans k1 f3) (AdOk.trans f2 k1 k3) ?_ ?_
    ·rw[el];exact x3
    ·rw[el];exact fun _=>rfl
    ·rw[el];exact fun y z=>by cases z
  ·dsimp only
   rw[if_pos rfl]
   have x1:=x.same s1
   have f1:=Frm.of s1 a ad
   have k1:=AdOk.refl H ad
   exact⟨_,_,x1.ob,by kernel_rfl,a,ad,s,wv,B,rfl,⟨_,_,_,_,_,x1⟩,ok,hG,bd,hst,fun H3 r x3 f3=>k ad H3 r x3 (f1.seq f3) k1⟩
theorem Vf   (F:Fun K "halve" "Asker.halve" Eg f fd)(T:Txt mg)
  (W:Own K mg C_j7 C_j9 C_jj C_ja C_j1 C_j4)
  (Z:Exs K mg C_j8 C_j5 C_j6 C_j3 C_j2 C_j0)
   (W8:FnOk P w K mg base CX0 4 M9 Zi ["book","access","guess","word","mark","last"] (Zg K C_j7)) (OU:Fun K "halved" "halved" J6 M9 Zi) (W9:Binds K Zi ["book","access","guess","word","mark","last"] []) (Xa:mg "halved"=some (.ref M9))
   (AU:FnOk P w K mg base CX0 3 An AZ ["self"] (SJ K C_j1 C_j7)) (Bc:Fun K "look_for_gaps" "Asker.look_for_gaps" AR An AZ) (AV:Binds K AZ ["self"] []) (AW:Meth K C_j1 "look_for_gaps" An)
   (C8:FnOk P w K mg base CX0 6 Bh DS ["self","house","word"] (N4 K)) (C9:Fun K "answer" "SayHunt.answer" Cb Bh DS) (Dc:Binds K DS ["self","house","word"] []) (Dd:Meth K C_j1 "answer" Bh)
  : FnOk P w K mg base CX0 7 f fd ["self"] (N5 K C_j1 C_j7 (fun s=>s.G=[]/\s.wr≠none) Gp):=by
 refine F.ok Hg (fun vs H Q E h=>?_) (fun cdv A outer s H vs Q E hr h=>?_)
 ·obtain⟨a,ad,s,wv,B,rfl,_⟩:=h;rfl
 ·obtain⟨a,ad,s,wv,B,rfl,⟨gv,rv,zs,ys,us,x⟩,ok,bd,⟨hG,hwr⟩,k⟩:=h
  have hl:=Ao
  have sz:=ok.sz bd
  have tb:=ok.tb
  have w1:=sz.w.1
  have e1:=sz.e.1
  obtain⟨v,hv⟩:=Option.ne_none_iff_exists'.mp hwr
  obtain⟨_,hEW,hvW,hvl,m,ws,tt,hgs,g,htt,hne⟩:=ok.wr v hv
  have en:Gp s=Tw s v m ws:=by
   unfold Gp
   rw[hG,hv,hgs]
  have wf:=tb.wf g
  have hgv:=x.gv
  rw[hgs]at hgv
  obtain⟨h,rfl,hh⟩:=hgv
  have hrv:=x.rv
  rw[hv]at hrv
  obtain⟨t,rfl,ht⟩:=hrv
  refine⟨_,(Ad (AB (i:=1) Hg.nd (DE (pvD 0) W.cl_j1 Dd C8 (hr.mono (by decide)) Dc .nil Ax (Aa (AO (pvD 0) rfl) (Aa (AO (pvD 0) rfl) Af))))
   (Ad (AB (i:=2) Hg.nd (Bt (opD0 DZ_) (C3 (lenD Dk) (by rfl) T.len PySem.boot_len (Aa (AO (pvD 0) rfl) Af)) (C3 (lenD Dk) (by rfl) T.len PySem.boot_len (Aa (BF (ixLD Jk) (AO (pvD 0) rfl) Ai) Af))))
   (Ad (AB (i:=3) Hg.nd (Aj W8 (hr.mono (by decide)) rfl Xa OU.kp W9 .nil Ax (Aa (AO (pvD 0) rfl) (Aa (AO (pvD 0) rfl) (Aa (AO (pvD 0) rfl) (Aa (AO (pvD 0) rfl) (Aa (pvD 1) (Aa (pvD 2) Af))))))))
   (Ad (Cu (ptT (Ay (opE NU) (BF (ixTD CY) (pvD 3) Ai) Bm (Bg _)))
   (Ac (Ar (pvD 3)))
   AQ)
   (Ad (F4 (pvD 0) F3 rfl)
   (Ad (A9 (Da_ PySem.F.plainAttrs_list PySem.F.slot_list_append PySem.F.type_list_append Ll (AO (pvD 0) rfl) (Aa (BF (ixTD CY) (pvD 3) Ai) Af)))
   (Ad (A9 (Bl (pvD 0) W.cl_j1 AW AU (hr.mono (by decide)) AV .nil Ax))
   (Ac (Ar F3))))))))),?_⟩
  walk_at "rd"
  obtain⟨hvn,_,_,hv1⟩:=Zd ok g hvW htt hne
  have hvl2:v.length<=600:=by
   have:=ok.lens
   unfold Bd at bd
   omega
  refine⟨_,_,x.ob,by kernel_rfl,_,_,_,x.ob,W.cl_j1,W.n_SayHunt_guess,_,SI ..,_,_,_,x.ob,W.cl_j1,W.n_SayHunt_wrong,_,M8 ..,a,h,t,s.L,m,ws,v,rfl,hh.house,wf,SqT.of ht,hvl2,hvW,hvn,fun H1 s1=>?_⟩
  have x1:=x.same s1
  have f1:=Frm.of s1 a ad
  have k1:=AdOk.refl H ad
  obtain⟨t0,q1,q2⟩:=x1.eW.2 0 [0] tb.ends0
  have ht1:=s1 _ _ ht
  refine⟨_,_,_,x1.ob,W.cl_j1,W.n_SayHunt_wrong,_,M8 ..,t,rfl,_,.inr (SqT.of ht1),_,_,_,x1.ob,W.cl_j1,W.n_SayHunt_ends,_,Qi ..,ad.pe,rfl,_,SqL.of x1.e,_,P0 (j:=0) q1,t0,rfl,_,.inr (SqT.of q2),_,_,_,x1.ob,W.cl_j1,W.n_SayHunt_book,_,Kc ..,_,_,_,x1.ob,W.cl_j1,W.n_SayHunt_ways,_,Kd ..,_,_,_,x1.ob,W.cl_j1,W.n_SayHunt_guess,_,SI ..,_,_,_,x1.ob,W.cl_j1,W.n_SayHunt_wrong,_,M8 ..,ad.b,ad.d,ad.pw,h,t,s.L,s.es,zs,s.W,m,ws,v,lsay m ws v,v.length-1,by simp;omega,x1.bk,x1.w,x1.wW,(hh.mono (TK.of s1)).house,wf,ht1,hvW,hv1,by omega,hvl2,sz.w.2,fun i _=>Tz tb g hvW i,fun H2 s2=>⟨fun c u t' hc hu ht'=>?_,fun hi u t' hc hu ht'=>?_⟩⟩
  ·have el:Gp s=(s,some (.ask c)):=by
    rw[en]
    unfold Tw
    rw[hc]
   refine⟨t',rfl,_,SqT.of ht',_,rfl,rfl,?_⟩
   rw[if_pos rfl]
   refine k ad H2 _ ?_ (f1.seq (Frm.of s2 a ad)) k1 ?_ ?_
   ·rw[el];exact⟨_,_,_,_,_,x1.same s2⟩
   ·rw[el];exact fun z=>by cases z
   ·rw[el]
    intro y z
    cases z
    exact⟨t',u,rfl,ht',hu⟩
  ·have el:Gp s=({s with wr:=none,E:=s.E++[v.drop hi],G:=OQ s.L s.W (s.E++[v.drop hi]) s.es},none):=by
    rw[en]
    unfold Tw
    rw[hc]
   have x2:=x1.same s2
   have f2:=f1.seq (Frm.of s2 a ad)
   refine⟨t',rfl,_,SqT.of ht',_,rfl,rfl,?_⟩
   rw[if_neg (fun z=>absurd (V.str.inj z) (by decide +kernel))]
   refine⟨_,_,_,x2.ob,W.cl_j1,W.n_SayHunt_wrong,Qj ..,?_⟩
   rw[TB]
   have x3:=x2.put (wv':=wv) (gv':=.ref h) (rv':=.non) (s':={s with wr:=none}) rfl rfl rfl rfl rfl rfl x2.gv rfl
   have f3:=f2.seq (x2.putF (.ins C_j1 ad.dx (afl wv s.L s.most ad.b ad.pw ad.pe ad.pg (.ref h) .non)))
   have tk3:=x2.tkob (.ins C_j1 ad.dx (afl wv s.L s.most ad.b ad.pw ad.pe ad.pg (.ref h) .non))
   have ht3:=tk3 _ _ ht'
   have hu3:=tk3 _ _ hu
   have x4:=x3.putE (x3.eW.snoc hu3)
   have f4:=f3.seq (Frm.put (a:=a) (o:=.lst (ys++[.ref u])) (.inr (.inl rfl)) ⟨_,x3.e⟩)
   obtain⟨o2,kp,_⟩:=(W4 ok).1 _ el
   have sz2:=o2.sz (B:=B) bd
   refine⟨_,_,_,x3.ob,W.cl_j1,W.n_SayHunt_ends,_,Qi ..,.inl ⟨rfl,_,SqL.of x3.e⟩,t',rfl,_,SqT.of ht3,_,rfl,ad.pe,rfl,_,x3.e,by rw[x3.eW.1];show s.E.length<_;omega,_,_,x4.ob,by kernel_rfl,a,ad,_,wv,rfl,⟨_,_,_,_,_,x4⟩,⟨sz2.l6,sz2.w,sz2.e,sz2.b⟩,fun ad' H3 x5 f5 k5=>?_⟩
   refine k ad' H3 _ ?_ (f4.trans k1 f5) (AdOk.trans f4 k1 k5) ?_ ?_
   ·rw[el];exact x5
   ·rw[el];exact fun _=>rfl
   ·rw[el];exact fun y z=>by cases z
theorem Qp   (F:Fun K "next_wish" "Hunt.next_wish" Ct f fd)(T:Txt mg)
  (W:Own K mg C_j7 C_j9 C_jj C_ja C_j1 C_j4)
  (Z:Exs K mg C_j8 C_j5 C_j6 C_j3 C_j2 C_j0)
   (Ke:FnOk P w K mg base CX0 7 Dq NF ["self"] (N5 K C_j1 C_j7 (fun s=>s.G=[]/\s.wr≠none) Gp)) (HY:Fun K "halve" "Asker.halve" Eg Dq NF) (Kf:Binds K NF ["self"] []) (Kg:Meth K C_j1 "halve" Dq)
   (E3:FnOk P w K mg base CX0 9 Be GO ["self"] (N5 K C_j1 C_j7 (fun s=>s.G=[]/\s.wr=none) KL)) (Dr:Fun K "look_at_words" "Asker.look_at_words" Bu Be GO) (E4:Binds K GO ["self"] []) (E5:Meth K C_j1 "look_at_words" Be)
  : FnOk P w K mg base CX0 10 f fd ["self"] (N5 K C_j1 C_j7 (fun _=>True) Gp):=by
 refine F.ok P9 (fun vs H Q E h=>?_) (fun cdv A outer s H vs Q E hr h=>?_)
 ·obtain⟨a,ad,s,wv,B,rfl,_⟩:=h;rfl
 ·obtain⟨a,ad,s,wv,B,rfl,⟨gv,rv,zs,ys,us,x⟩,ok,bd,_,k⟩:=h
  have hl:=Ao
  refine⟨_,(Ad (Cu (ptT (Ay (opD0 Ig_) (C3 (lenD Dk) (by rfl) T.len PySem.boot_len (Aa (AO (pvD 0) rfl) Af)) Ai (Bg _)))
   (Ac (Ar (GJ (Aa Bm (Aa (Da_ PySem.F.plainAttrs_list PySem.F.slot_list_pop PySem.F.type_list_pop FV_ (AO (pvD 0) rfl) (Aa Ai Af)) Af)))))
   AQ)
   (Ad (Cu (ptT (Ay Ih_ (AO (pvD 0) rfl) F3 (Bg _)))
   (Ac (Ar (Bl (pvD 0) W.cl_j1 Kg Ke (hr.mono (by decide)) Kf .nil Ax)))
   AQ)
   (Ac (Ar (Bl (pvD 0) W.cl_j1 E5 E3 (hr.mono (by decide)) E4 .nil Ax))))),?_⟩
  walk_at "rd"
  refine⟨_,_,_,x.ob,W.cl_j1,W.n_SayHunt_gaps,_,Fu_ ..,ad.pg,rfl,_,.inl (SqL.of x.g),?_⟩
  cases hG:s.G with
  |cons c r=>
   have hgl:us.length=r.length+1:=by rw[x.gW.1,hG];rfl
   have hgW:=x.gW
   rw[hG]at hgW
   obtain⟨tc,g1,g2⟩:=hgW.2 0 c rfl
   rw[if_pos (by omega)]
   have el:Gp s=({s with G:=r},some (.ask c)):=by
    unfold Gp
    rw[hG]
   have x2:=x.putG (As.tail39 hgW)
   have f2:Frm H (upd H ad.pg (.lst (us.eraseIdx 0))) a ad:=Frm.put (.inr (.inr (.inl rfl))) ⟨_,x.g⟩
   have tk2:=TK.lst x.g (o:=.lst (us.eraseIdx 0))
   refine⟨_,_,_,x.ob,W.cl_j1,W.n_SayHunt_gaps,_,Fu_ ..,.inl ⟨rfl,_,SqL.of x.g⟩,ad.pg,rfl,_,x.g,by decide,by decide,0,Kt_ (i:=0) (by omega),_,g1,by omega,fun p hp=>?_⟩
   refine k ad _ _ ?_ (f2.seq (Frm.of (Same.new hp) a ad)) (AdOk.refl H ad) ?_ ?_
   ·rw[el];exact⟨_,_,_,_,_,x2.same (Same.new hp)⟩
   ·rw[el];exact fun z=>by cases z
   ·rw[el]
    intro y z
    cases z
    exact⟨p,tc,rfl,Ae,Same.new hp _ _ (tk2 _ _ g2)⟩
  |nil=>
   rw[if_neg (by rw[x.gW.1,hG];simp)]
   refine⟨_,_,_,x.ob,W.cl_j1,W.n_SayHunt_wrong,_,M8 ..,?_⟩
   cases hwr:s.wr with
   |none=>
    have hrv:=x.rv
    rw[hwr]at hrv
    have hrv:rv=.non:=hrv
    subst hrv
    have en:Gp s=KL s:=by
     unfold Gp
     rw[hG,hwr]
    rw[en]at k
    rw[if_neg (by simp)]
    exact⟨_,_,x.ob,by kernel_rfl,a,ad,s,wv,B,rfl,⟨_,_,_,_,_,x⟩,ok,bd,⟨hG,hwr⟩,k⟩
   |some v=>
    have hrv:=x.rv
    rw[hwr]at hrv
    obtain⟨t,rfl,ht⟩:=hrv
    rw[if_pos (by simp)]
    exact⟨_,_,x.ob,by kernel_rfl,a,ad,s,wv,B,rfl,⟨_,_,_,_,_,x⟩,ok,bd,⟨hG,by rw[hwr];simp⟩,k⟩
def Xb (K:PySem.W.Frag)(CA CB:Addr):Sp:=fun vs H Q _=>∃(a:Addr) (ad:AD) (s:AS) (wv:V) (B:Nat),vs=[.ref a]/\Asks K CA CB H a ad s wv/\OkX none B s/\Bd B s/\∀ad' H' s' x wv',Goes s s' x->Asks K CA CB H' a ad' s' wv'->Cf K H' s.L wv' x->Frm H H' a ad->AdOk H ad ad'->Q .non H'
theorem Vg   (F:Fun K "go_on" "Turns.go_on" Cv f fd)(T:Txt mg)
  (W:Own K mg C_j7 C_j9 C_jj C_ja C_j1 C_j4)
  (Z:Exs K mg C_j8 C_j5 C_j6 C_j3 C_j2 C_j0)
   (FK:FnOk P w K mg base CX0 10 Cd JT ["self"] (N5 K C_j1 C_j7 (fun _=>True) Gp)) (FL:Fun K "next_wish" "Hunt.next_wish" Ct Cd JT) (FN:Binds K JT ["self"] []) (FO:Meth K C_j1 "next_wish" Cd)
  : FnOk P w K mg base CX0 11 f fd ["self"] (Xb K C_j1 C_j7):=by
 refine F.ok U9 (fun vs H Q E h=>?_) (fun cdv A outer s H vs Q E hr h=>?_)
 ·obtain⟨a,ad,s,wv,B,rfl,_⟩:=h;rfl
 ·obtain⟨a,ad,s,wv,B,rfl,⟨gv,rv,zs,ys,us,x⟩,ok,bd,k⟩:=h
  have hl:=Ao
  refine⟨_,(Ad (F4 (pvD 0) (Bl (pvD 0) W.cl_j1 FO FK (hr.mono (by decide)) FN .nil Ax) rfl)
   (Ac (Wu PassesOwn.never (ptT (Ay V8 (AO (pvD 0) rfl) F3 (Bg _)))
   (Ac (F4 (pvD 0) (Bl (pvD 0) W.cl_j1 FO FK (hr.mono (by decide)) FN .nil Ax) rfl))))),?_⟩
  walk_at "rd"
  obtain⟨Pv,hPv⟩:∃Pv:Nat->St->Hp->Prop,∀n σ' H',Pv n σ' H'↔(∃(ad1:AD) (s1:AS) (wv1:V),Asks K C_j1 C_j7 H' a ad1 s1 wv1/\Frm H H' a ad/\AdOk H ad ad1/\σ'=[some (.ref a)]/\((wv1=.non/\OkX none B s1/\Kept s s1/\(∀s' y,Goes s1 s' y->Goes s s' y)/\n=mu s1+1) \/ ∃y,Cf K H' s.L wv1 y/\Goes s s1 y/\n=0)):=⟨_,fun _ _ _=>Iff.rfl⟩
  have step:∀(s1:AS) (ad1:AD) (wv1:V) (H1:Hp) (M:Nat),Asks K C_j1 C_j7 H1 a ad1 s1 wv1->Frm H H1 a ad->AdOk H ad ad1->OkX none B s1->Kept s s1->(∀s' y,Goes s1 s' y->Goes s s' y)->mu s1<=M->∃x x_1,H1 a=some (HO.ins C_j1 x x_1)/\List.lookup ("next_wish" : Str) x_1=none/\N5 K C_j1 C_j7 (fun x=>True) Gp [V.ref a] H1 (fun y H1=>∃x x_2 x_3,H1 a=some (HO.ins x x_2 x_3)/\Cls K x/\Fo K x ("wish" : Str)/\x_3.length<1000/\∃m',m'<M+1/\Pv m' [some (V.ref a)] (upd H1 a (HO.ins x x_2 (putF ("wish" : Str) y x_3)))) E0:=by
   rintro s1 ad1 wv1 H1 M ⟨gv,rv,zs,ys,us,x1⟩ f1 k1 ok1 kp1 go1 hM
   refine⟨_,_,x1.ob,by kernel_rfl,a,ad1,s1,wv1,B,rfl,⟨_,_,_,_,_,x1⟩,ok1,by unfold Bd at bd ⊢;rw[kp1.m,kp1.l];exact bd,trivial,fun ad2 H2 r x2 f2 k2 hN hS=>?_⟩
   obtain⟨gv2,rv2,zs2,ys2,us2,x2⟩:=x2
   refine⟨_,_,_,x2.ob,W.cl_j1,W.n_SayHunt_wish,Qj ..,?_⟩
   rw[CB_]
   have x3:=x2.put (wv':=r) (gv':=gv2) (rv':=rv2) (s':=(Gp s1).1) rfl rfl rfl rfl rfl rfl x2.gv x2.rv
   have f3:=(f1.trans k1 f2).trans (AdOk.trans f1 k1 k2) (x2.putF (.ins C_j1 ad2.dx (afl r (Gp s1).1.L (Gp s1).1.most ad2.b ad2.pw ad2.pe ad2.pg gv2 rv2)))
   have tk:=x2.tkob (.ins C_j1 ad2.dx (afl r (Gp s1).1.L (Gp s1).1.most ad2.b ad2.pw ad2.pe ad2.pg gv2 rv2))
   have k3:=AdOk.trans f1 k1 k2
   cases hn:(Gp s1).2 with
   |none=>
    have e1:Gp s1=((Gp s1).1,none):=by rw[<-hn]
    obtain⟨ok2,kp2,hmu⟩:=(W4 ok1).1 _ e1
    refine⟨mu (Gp s1).1+1,by omega,(hPv _ _ _).mpr ⟨ad2,_,r,⟨_,_,_,_,_,x3⟩,f3,k3,rfl,.inl ⟨hN hn,ok2,⟨kp2.l.trans kp1.l,kp2.m.trans kp1.m,kp2.e.trans kp1.e⟩,fun s' y hy=>go1 s' y (.more e1 hy),rfl⟩⟩⟩
   |some y=>
    have e1:Gp s1=((Gp s1).1,some y):=by rw[<-hn]
    have hw:=(hS y hn).mono tk
    rw[kp1.l]at hw
    exact⟨0,by omega,(hPv _ _ _).mpr ⟨ad2,_,r,⟨_,_,_,_,_,x3⟩,f3,k3,rfl,.inr ⟨y,hw,go1 _ _ (.stop e1),rfl⟩⟩⟩
  obtain⟨c1,c2,c3,c4,c5⟩:=step s ad wv H (mu s+1) ⟨_,_,_,_,_,x⟩ (Frm.of (Same.refl _) a ad) (AdOk.refl H ad) ok ⟨rfl,rfl,rfl⟩ (fun _ _ z=>z) (by omega)
  refine⟨c1,c2,c3,c4,?_⟩
  obtain⟨a',ad',s',wv',B',e1,e2,e3,e4,e5,e6⟩:=c5
  refine⟨a',ad',s',wv',B',e1,e2,e3,e4,e5,fun ad2 H2 r x2 f2 k2 hN hS=>?_⟩
  obtain⟨d1,d2,d3,d4,d5,d6,d7,m',_,d8⟩:=e6 ad2 H2 r x2 f2 k2 hN hS
  refine⟨d1,d2,d3,d4,d5,d6,d7,EH_ Pv ⟨m',d8⟩ fun n σ' H' h'=>?_⟩
  obtain⟨ad1,s1,wv1,⟨gv,rv,zs,ys,us,x1⟩,f1,k1,rfl,hh⟩:=(hPv _ _ _).mp h'
  walk_at "rd"
  refine⟨_,_,_,x1.ob,W.cl_j1,W.n_SayHunt_wish,_,N3 ..,?_⟩
  rcases hh with ⟨rfl,ok1,kp1,go1,hn⟩|⟨y,hw,go1,hn⟩
  ·rw[if_pos rfl]
   refine⟨fun σ2 H2=>∃m',m'<n/\Pv m' σ2 H2,fun _ _ z=>z,?_⟩
   subst hn
   exact step s1 ad1 _ H' (mu s1) ⟨_,_,_,_,_,x1⟩ f1 k1 ok1 kp1 go1 (by omega)
  ·obtain⟨t,u,e,_⟩:=id hw
   rw[if_neg (by rw[e];simp)]
   exact k ad1 _ s1 y wv1 go1 ⟨_,_,_,_,_,x1⟩ hw f1 k1
def HS_ (K:PySem.W.Frag)(CA CB:Addr)(H:Hp)(a:Addr)(ad:AD)(s:AS)(Q:VK):Prop:=∀ad' H' s' x' wv',Goes s s' x'->Asks K CA CB H' a ad' s' wv'->Cf K H' s.L wv' x'->Frm H H' a ad->AdOk H ad ad'->Q .non H'
def Xc (K:PySem.W.Frag)(CA CB OT BM:Addr):Sp:=fun vs H Q E=>∃(a:Addr) (ad:AD) (s:AS) (wv:V) (x:Wish) (B:Nat) (m:Int),vs=[.ref a,.int m]/\Asks K CA CB H a ad s wv/\Cf K H s.L wv x/\WOk B s x/\Bd B s/\s.es.length<=100000/\(x.tag ≠ "ask" -> E (.ref OT) none H)/\∀c,x=.ask c->(¬ (0<=m/\m<=1000000000)->∀H',Same H H'->E (.ref BM) none H')/\(0<=m->m<=1000000000->HS_ K CA CB H a ad {s with es:=s.es++[(c,m)]} Q)
theorem N6   (F:Fun K "keep_answer" "Hunt.keep_answer" B4 f fd)(T:Txt mg)
  (W:Own K mg C_j7 C_j9 C_jj C_ja C_j1 C_j4)
  (Z:Exs K mg C_j8 C_j5 C_j6 C_j3 C_j2 C_j0)
   (Ik:FnOk P w K mg base (CXe P w) 4 DT IG ["self","word","mark"] (LH C_j7 C_j5 C_j6 C_j0)) (Il:Fun K "put" "Book.put" F7 DT IG) (Im:Binds K IG ["self","word","mark"] []) (Io:Meth K C_j7 "put" DT)
   (AE:FnOk P w K mg base (CXe P w) 1 Am AH ["self","deed"] (LM K C_j1 C_j7 C_j3)) (AY:Fun K "check_wants" "Turns.check_wants" AX Am AH) (AF:Binds K AH ["self","deed"] []) (AG:Meth K C_j1 "check_wants" Am)
   (Cw:FnOk P w K mg base CX0 11 Bs CJ ["self"] (Xb K C_j1 C_j7)) (Ds:Fun K "go_on" "Turns.go_on" Cv Bs CJ) (Cy:Binds K CJ ["self"] []) (Cz:Meth K C_j1 "go_on" Bs)
  : FnOk P w K mg base (CXe P w) 12 f fd ["self","number"] (Xc K C_j1 C_j7 C_j3 C_j6):=by
 refine F.okE NZ (fun vs H Q E h=>?_) (fun cdv A outer s H vs Q E hr h=>?_)
 ·obtain⟨a,ad,s,wv,x,B,m,rfl,_⟩:=h;rfl
 ·obtain⟨a,ad,s,wv,y,B,m,rfl,⟨gv,rv,zs,ys,us,x⟩,hw,ok,bd,hz,kE,k⟩:=h
  have hl:=Ao
  refine⟨_,(Ad (A9 (DE (pvD 0) W.cl_j1 AG AE (hr.mono (by decide)) AF .nil (JE fun _ _ _ h=>h) (Aa Bm Af)))
   (Ad (A9 (DE (AO (pvD 0) rfl) W.cl_j7 Io Ik (hr.mono (by decide)) Im .nil (JE fun _ _ _ h=>h) (Aa (BF (ixTD CY) (AO (pvD 0) rfl) Ai) (Aa (pvD 1) Af))))
   (Ac (A9 (Bl (pvD 0) W.cl_j1 Cz Cw (hr.mono (by decide)) Cy .nil Ax))))),?_⟩
  walk_at "rd"
  refine⟨_,_,x.ob,by kernel_rfl,a,ad,s,wv,y,"ask",rfl,⟨_,_,_,_,_,x⟩,hw,fun htag=>?_,kE⟩
  cases y with
  |shown mm ws=>exact absurd htag (show ¬ ("show" : Str) = "ask" by decide +kernel)
  |done mm ws=>exact absurd htag (show ¬ ("done" : Str) = "ask" by decide +kernel)
  |spent c=>exact absurd htag (show ¬ ("spent" : Str) = "ask" by decide +kernel)
  |ask c=>
   obtain⟨t,u,rfl,ht,hu⟩:=hw
   obtain⟨kM,kk⟩:=k c rfl
   obtain⟨okc,hn,hc,hlen,hg⟩:=ok
   have hcw:=hc.1
   obtain⟨dxb,hb⟩:=x.bk.ob
   have hnk:c∉s.es.map (·.1):=fun z=>by
    obtain⟨n,hn'⟩:=Bl_.mp z
    rw[hn]at hn';cases hn'
   have hcl:c.length<=900:=by
    have h1:=okc.lens
    unfold Bd at bd
    split at hlen<;>omega
   refine⟨_,_,_,x.ob,W.cl_j1,W.n_SayHunt_book,_,Kc ..,ad.b,rfl,_,_,hb,Hf _ _ (by decide +kernel) (by decide +kernel),_,_,_,x.ob,W.cl_j1,W.n_SayHunt_wish,_,N3 ..,t,rfl,_,SqT.of ht,_,rfl,ad.b,ad.d,u,s.L,m,c,s.es,rfl,x.bk,hu,hcl,hz,fun z=>(by rw[hcw]at z;cases z),fun _ hm H' s'=>kM hm H' s',fun _ _ _ n hin _ _ _=>absurd (List.mem_map.mpr ⟨_,hin,rfl⟩) hnk,fun _ h0 h9 _ H' hb' hf=>?_⟩
   unfold putE at hb'
   rw[if_neg hnk]at hb'
   obtain⟨x2,f2,tk2⟩:=x.putB hb' hf
   exact⟨_,_,x2.ob,by kernel_rfl,a,ad,_,_,B,rfl,⟨_,_,_,_,_,x2⟩,okc.told (fun b hb=>(Option.some.inj hb).symm) hnk hc h0 h9 hlen hg,bd,fun ad' H3 s' y' wv' go x3 hw3 f3 k3=>kk h0 h9 ad' H3 s' y' wv' go x3 hw3 (f2.trans (AdOk.refl H ad) f3) (AdOk.trans f2 (AdOk.refl H ad) k3)⟩
def CI_ (K:PySem.W.Frag)(CA CB OT:Addr):Sp:=fun vs H Q E=>∃(a:Addr) (ad:AD) (s:AS) (wv:V) (x:Wish),vs=[.ref a]/\Asks K CA CB H a ad s wv/\Cf K H s.L wv x/\(x.tag ≠ "show" -> E (.ref OT) none H)/\∀mm ws,x=.shown mm ws->∀H' wv',Asks K CA CB H' a ad s wv'->Cf K H' s.L wv' (.done mm ws)->Frm H H' a ad->Q .non H'
theorem Xd   (F:Fun K "agree" "Hunt.agree" EL f fd)(T:Txt mg)
  (W:Own K mg C_j7 C_j9 C_jj C_ja C_j1 C_j4)
  (Z:Exs K mg C_j8 C_j5 C_j6 C_j3 C_j2 C_j0)
   (AE:FnOk P w K mg base (CXe P w) 1 Am AH ["self","deed"] (LM K C_j1 C_j7 C_j3)) (AY:Fun K "check_wants" "Turns.check_wants" AX Am AH) (AF:Binds K AH ["self","deed"] []) (AG:Meth K C_j1 "check_wants" Am)
  : FnOk P w K mg base (CXe P w) 2 f fd ["self"] (CI_ K C_j1 C_j7 C_j3):=by
 refine F.okE WR (fun vs H Q E h=>?_) (fun cdv A outer s H vs Q E hr h=>?_)
 ·obtain⟨a,ad,s,wv,x,rfl,_⟩:=h;rfl
 ·obtain⟨a,ad,s,wv,y,rfl,⟨gv,rv,zs,ys,us,x⟩,hw,kE,k⟩:=h
  have hl:=Ao
  refine⟨_,(Ad (A9 (DE (pvD 0) W.cl_j1 AG AE (hr.mono (by decide)) AF .nil (JE fun _ _ _ h=>h) (Aa Bm Af)))
   (Ac (F4 (pvD 0) (GJ (Aa Bm (Aa (BF (ixTD CY) (AO (pvD 0) rfl) Ai) Af))) rfl))),?_⟩
  walk_at "rd"
  refine⟨_,_,x.ob,by kernel_rfl,a,ad,s,wv,y,"show",rfl,⟨_,_,_,_,_,x⟩,hw,fun htag=>?_,kE⟩
  cases y with
  |ask c=>exact absurd htag (show ¬ ("ask" : Str) = "show" by decide +kernel)
  |done mm ws=>exact absurd htag (show ¬ ("done" : Str) = "show" by decide +kernel)
  |spent c=>exact absurd htag (show ¬ ("spent" : Str) = "show" by decide +kernel)
  |shown mm ws=>
   obtain⟨t,u,rfl,ht,hu⟩:=hw
   refine⟨_,_,_,x.ob,W.cl_j1,W.n_SayHunt_wish,_,N3 ..,t,rfl,_,SqT.of ht,_,rfl,by omega,fun p hp=>?_⟩
   have x1:=x.same (Same.new hp (o:=.tup [.str "done",.ref u]))
   refine⟨_,_,_,x1.ob,W.cl_j1,W.n_SayHunt_wish,Qj ..,?_⟩
   rw[CB_]
   have x2:=x1.put (wv':=.ref p) (gv':=gv) (rv':=rv) (s':=s) rfl rfl rfl rfl rfl rfl x1.gv x1.rv
   have tk:=x1.tkob (.ins C_j1 ad.dx (afl (.ref p) s.L s.most ad.b ad.pw ad.pe ad.pg gv rv))
   exact k mm ws rfl _ _ ⟨_,_,_,_,_,x2⟩ ⟨p,u,rfl,tk _ _ Ae,HouT.mono hu (TK.trans (TK.new hp) tk)⟩ ((Frm.of (Same.new hp) a ad).seq (x1.putF _))
def CJ_ (K:PySem.W.Frag)(CA CB OT BW BM ND CO:Addr):Sp:=fun vs H Q E=>∃(a t:Addr) (ad:AD) (s:AS) (wv:V) (x:Wish) (B:Nat) (w:List Int) (m:Int),vs=[.ref a,.ref t,.int m]/\Asks K CA CB H a ad s wv/\Cf K H s.L wv x/\WOk B s x/\Bd B s/\s.es.length<=100000/\H t=some (.tup (w.map V.int))/\w ≠ []/\w.length<=600/\(x.tag ≠ "show" -> E (.ref OT) none H)/\∀mm ws,x=.shown mm ws->(isW s.L w=false->∀H',Same H H'->E (.ref BW) none H')/\(isW s.L w=true->¬ (0<=m/\m<=1000000000)->∀H',Same H H'->E (.ref BM) none H')/\(isW s.L w=true->0<=m->m<=1000000000->(lsay mm ws w=m->∀H',Same H H'->E (.ref ND) none H')/\(lsay mm ws w≠m->w∈s.es.map (·.1)->∀H',Same H H'->E (.ref CO) none H')/\(lsay mm ws w≠m->w∉s.es.map (·.1)->w.length<=B+(s.most+1)*s.E.length/\HS_ K CA CB H a ad {s with es:=s.es++[(w,m)]} Q))
theorem KQ   (F:Fun K "keep_objection" "Hunt.keep_objection" Bv f fd)(T:Txt mg)
  (W:Own K mg C_j7 C_j9 C_jj C_ja C_j1 C_j4)
  (Z:Exs K mg C_j8 C_j5 C_j6 C_j3 C_j2 C_j0)
   (Ge:FnOk P w K mg base (CXe P w) 3 Cp Gw ["self","word","mark"] (Jn C_j7 C_j5 C_j6)) (Gf:Fun K "check" "Book.check" D1 Cp Gw) (Gg:Binds K Gw ["self","word","mark"] []) (Gh:Meth K C_j7 "check" Cp)
   (Ik:FnOk P w K mg base (CXe P w) 4 DT IG ["self","word","mark"] (LH C_j7 C_j5 C_j6 C_j0)) (Il:Fun K "put" "Book.put" F7 DT IG) (Im:Binds K IG ["self","word","mark"] []) (Io:Meth K C_j7 "put" DT)
   (AE:FnOk P w K mg base (CXe P w) 1 Am AH ["self","deed"] (LM K C_j1 C_j7 C_j3)) (AY:Fun K "check_wants" "Turns.check_wants" AX Am AH) (AF:Binds K AH ["self","deed"] []) (AG:Meth K C_j1 "check_wants" Am)
   (C8:FnOk P w K mg base CX0 6 Bh DS ["self","house","word"] (N4 K)) (C9:Fun K "answer" "SayHunt.answer" Cb Bh DS) (Dc:Binds K DS ["self","house","word"] []) (Dd:Meth K C_j1 "answer" Bh)
   (Cw:FnOk P w K mg base CX0 11 Bs CJ ["self"] (Xb K C_j1 C_j7)) (Ds:Fun K "go_on" "Turns.go_on" Cv Bs CJ) (Cy:Binds K CJ ["self"] []) (Cz:Meth K C_j1 "go_on" Bs)
  : FnOk P w K mg base (CXe P w) 12 f fd ["self","word","number"] (CJ_ K C_j1 C_j7 C_j3 C_j5 C_j6 C_j2 C_j0):=by
 refine F.okE KJ (fun vs H Q E h=>?_) (fun cdv A outer s H vs Q E hr h=>?_)
 ·obtain⟨a,t,ad,s,wv,x,B,wd,m,rfl,_⟩:=h;rfl
 ·obtain⟨a,t,ad,s,wv,y,B,wd,m,rfl,⟨gv,rv,zs,ys,us,x⟩,hw,ok,bd,hz,ht,hwn,hz2,kE,k⟩:=h
  have hl:=Ao
  refine⟨_,(Ad (A9 (DE (pvD 0) W.cl_j1 AG AE (hr.mono (by decide)) AF .nil (JE fun _ _ _ h=>h) (Aa Bm Af)))
   (Ad (A9 (DE (AO (pvD 0) rfl) W.cl_j7 Gh Ge (hr.mono (by decide)) Gg .nil (JE fun _ _ _ h=>h) (Aa (pvD 1) (Aa (pvD 2) Af))))
   (Ad (Cu (ptT (Ay (opE NU) (DE (pvD 0) W.cl_j1 Dd C8 (hr.mono (by decide)) Dc .nil Ax (Aa (BF (ixTD CY) (AO (pvD 0) rfl) Ai) (Aa (pvD 1) Af))) (pvD 2) (Bg _)))
   (Ac (M4 Z.m_j2 Z.x_j2 rfl rfl (Aa Bm Af)))
   AQ)
   (Ad (A9 (DE (AO (pvD 0) rfl) W.cl_j7 Io Ik (hr.mono (by decide)) Im .nil (JE fun _ _ _ h=>h) (Aa (pvD 1) (Aa (pvD 2) Af))))
   (Ac (A9 (Bl (pvD 0) W.cl_j1 Cz Cw (hr.mono (by decide)) Cy .nil Ax))))))),?_⟩
  walk_at "rd"
  refine⟨_,_,x.ob,by kernel_rfl,a,ad,s,wv,y,"show",rfl,⟨_,_,_,_,_,x⟩,hw,fun htag=>?_,kE⟩
  cases y with
  |ask c=>exact absurd htag (show ¬ ("ask" : Str) = "show" by decide +kernel)
  |done mm ws=>exact absurd htag (show ¬ ("done" : Str) = "show" by decide +kernel)
  |spent c=>exact absurd htag (show ¬ ("spent" : Str) = "show" by decide +kernel)
  |shown mm ws=>
   obtain⟨tw,u,rfl,htw,hu⟩:=hw
   obtain⟨kW,kM,kk⟩:=k mm ws rfl
   obtain⟨ok0,hG,hwr,hgs,g,hall⟩:=ok
   obtain⟨dxb,hb⟩:=x.bk.ob
   have wf:=ok0.tb.wf g
   refine⟨_,_,_,x.ob,W.cl_j1,W.n_SayHunt_book,_,Kc ..,ad.b,rfl,_,_,hb,Hf _ _ (by decide +kernel) (by decide +kernel),ad.b,ad.d,t,s.L,m,wd,s.es,rfl,x.bk,ht,by omega,kW,kM,fun hc h0 h9 H1 s1=>?_⟩
   obtain⟨kN,kC,kG⟩:=kk hc h0 h9
   have x1:=x.same s1
   have ht1:=s1 _ _ ht
   refine⟨_,_,x1.ob,by kernel_rfl,_,_,_,x1.ob,W.cl_j1,W.n_SayHunt_wish,_,N3 ..,tw,rfl,_,SqT.of (s1 _ _ htw),_,rfl,a,u,t,s.L,mm,ws,wd,rfl,HouT.house (HouT.mono hu (TK.of s1)),wf,SqT.of ht1,hz2,hc,hwn,fun H2 s2=>⟨rfl,?_⟩⟩
   by_cases he:lsay mm ws wd=m
   ·rw[if_pos (by rw[he])]
    exact⟨by omega,kN he _ (s1.trans s2)⟩
   ·rw[if_neg (fun z=>he (V.int.inj z))]
    have x2:=x1.same s2
    have s12:=s1.trans s2
    refine⟨_,_,_,x2.ob,W.cl_j1,W.n_SayHunt_book,_,Kc ..,ad.b,rfl,_,_,s12 _ _ hb,Hf _ _ (by decide +kernel) (by decide +kernel),ad.b,ad.d,t,s.L,m,wd,s.es,rfl,x2.bk,s12 _ _ ht,by omega,hz,fun z=>(by rw[hc]at z;cases z),fun _ z=>absurd ⟨h0,h9⟩ z,fun _ _ _ n hin _ H3 s3=>kC he (List.mem_map.mpr ⟨_,hin,rfl⟩) H3 (s12.trans s3),fun _ _ _ hsame H3 hb' hf=>?_⟩
    have hnk:wd∉s.es.map (·.1):=fun z=>by
     obtain⟨p,hp,rfl⟩:=List.mem_map.mp z
     have h1:=hsame p.2 hp
     exact he ((hall p hp).trans h1)
    unfold putE at hb'
    rw[if_neg hnk]at hb'
    obtain⟨hlen,kT⟩:=kG he hnk
    obtain⟨x3,f3,tk3⟩:=x2.putB hb' hf
    have f3':=(Frm.of s12 a ad).seq f3
    exact⟨_,_,x3.ob,by kernel_rfl,a,ad,_,_,B,rfl,⟨_,_,_,_,_,x3⟩,ok0.told (fun b hb=>(by cases hb)) hnk ⟨hc,hwn⟩ h0 h9 (by omega) (by rw[hG];simp),bd,fun ad' H4 s' y' wv' go x4 hw4 f4 k4=>kT ad' H4 s' y' wv' go x4 hw4 (f3'.trans (AdOk.refl H ad) f4) (AdOk.trans f3' (AdOk.refl H ad) k4)⟩
theorem Xe   (F:Fun K "hear" "Asker.hear" EK f fd)(T:Txt mg)
  (W:Own K mg C_j7 C_j9 C_jj C_ja C_j1 C_j4)
  (Z:Exs K mg C_j8 C_j5 C_j6 C_j3 C_j2 C_j0)
   (Gz:FnOk P w K mg base (CXe P w) 12 BG IH ["self","number"] (Xc K C_j1 C_j7 C_j3 C_j6)) (EC:Fun K "keep_answer" "Hunt.keep_answer" B4 BG IH) (GA:Binds K IH ["self","number"] []) (GC:Meth K C_j1 "keep_answer" BG)
  : FnOk P w K mg base (CXe P w) 13 f fd ["self","mark"] (Xc K C_j1 C_j7 C_j3 C_j6):=by
 refine F.okE WQ (fun vs H Q E h=>?_) (fun cdv A outer s H vs Q E hr h=>?_)
 ·obtain⟨a,ad,s,wv,x,B,m,rfl,_⟩:=h;rfl
 ·obtain⟨a,ad,s,wv,y,B,m,rfl,⟨gv,rv,zs,ys,us,x⟩,hw,ok,bd,hz,kE,k⟩:=h
  have hl:=Ao
  refine⟨_,(Ac (A9 (DE (pvD 0) W.cl_j1 GC Gz (hr.mono (by decide)) GA .nil (JE fun _ _ _ h=>h) (Aa (pvD 1) Af)))),?_⟩
  walk_at "rd"
  exact⟨_,_,x.ob,by kernel_rfl,a,ad,s,wv,y,B,m,rfl,⟨_,_,_,_,_,x⟩,hw,ok,bd,hz,kE,k⟩
theorem TN   (F:Fun K "differ" "Asker.differ" DH f fd)(T:Txt mg)
  (W:Own K mg C_j7 C_j9 C_jj C_ja C_j1 C_j4)
  (Z:Exs K mg C_j8 C_j5 C_j6 C_j3 C_j2 C_j0)
   (E6:FnOk P w K mg base (CXe P w) 12 Bf GP ["self","word","number"] (CJ_ K C_j1 C_j7 C_j3 C_j5 C_j6 C_j2 C_j0)) (Du:Fun K "keep_objection" "Hunt.keep_objection" Bv Bf GP) (E7:Binds K GP ["self","word","number"] []) (E8:Meth K C_j1 "keep_objection" Bf)
  : FnOk P w K mg base (CXe P w) 13 f fd ["self","word","mark"] (CJ_ K C_j1 C_j7 C_j3 C_j5 C_j6 C_j2 C_j0):=by
 refine F.okE Tc (fun vs H Q E h=>?_) (fun cdv A outer s H vs Q E hr h=>?_)
 ·obtain⟨a,t,ad,s,wv,x,B,wd,m,rfl,_⟩:=h;rfl
 ·obtain⟨a,t,ad,s,wv,y,B,wd,m,rfl,⟨gv,rv,zs,ys,us,x⟩,hw,ok,bd,hz,ht,hwn,hz2,kE,k⟩:=h
  have hl:=Ao
  refine⟨_,(Ac (A9 (DE (pvD 0) W.cl_j1 E8 E6 (hr.mono (by decide)) E7 .nil (JE fun _ _ _ h=>h) (Aa (pvD 1) (Aa (pvD 2) Af))))),?_⟩
  walk_at "rd"
  exact⟨_,_,x.ob,by kernel_rfl,a,t,ad,s,wv,y,B,wd,m,rfl,⟨_,_,_,_,_,x⟩,hw,ok,bd,hz,ht,hwn,hz2,kE,k⟩
def CK_ (K:PySem.W.Frag)(CA CB:Addr):Sp:=fun vs H Q _=>∃(a dx:Addr) (L most:Nat),vs=[.ref a,.int L,.int most]/\H a=some (.ins CA dx [])/\1<=L/\L<=6/\1<=most/\most<=12/\∀ad H' s x wv,Goes (s039 L most) s x->Asks K CA CB H' a ad s wv->Cf K H' L wv x->(∀y o,H y=some o->y≠a->H' y=some o)->(∀y,H' y=none->H y=none)->(H ad.d=none/\H ad.pw=none/\H ad.pe=none/\H ad.pg=none)->Q .non H'
theorem Xf   (F:Fun K "__init__" "Asker.__init__" EO f fd)(T:Txt mg)
  (W:Own K mg C_j7 C_j9 C_jj C_ja C_j1 C_j4)
  (Z:Exs K mg C_j8 C_j5 C_j6 C_j3 C_j2 C_j0)
   (AU:FnOk P w K mg base CX0 3 An AZ ["self"] (SJ K C_j1 C_j7)) (Bc:Fun K "look_for_gaps" "Asker.look_for_gaps" AR An AZ) (AV:Binds K AZ ["self"] []) (AW:Meth K C_j1 "look_for_gaps" An)
   (Cw:FnOk P w K mg base CX0 11 Bs CJ ["self"] (Xb K C_j1 C_j7)) (Ds:Fun K "go_on" "Turns.go_on" Cv Bs CJ) (Cy:Binds K CJ ["self"] []) (Cz:Meth K C_j1 "go_on" Bs)
   (N7:FnOk P w K mg base CX0 1 E9 Ry ["self","letters"] (Rx C_j7)) (Kh:Fun K "__init__" "Book.__init__" FQ E9 Ry) (N8:Binds K Ry ["self","letters"] []) (N9:Mk K C_j7 E9)
   (Oa:FnOk P w K mg base CX0 3 FW Rz ["self","letters","most","book","ways","ends"] (CE_ C_j1)) (Ki:Fun K "__init__" "Hunt.__init__" FT FW Rz) (Ob:Binds K Rz ["self","letters","most","book","ways","ends"] []) (Oc:CMeth K C_jj "__init__" FW)
   (FA:FnOk P w K mg base CX0 1 Bq Hx ["self","letters"] (CH_ K)) (DQ:Fun K "first_ends" "SayHunt.first_ends" BD Bq Hx) (FC:Binds K Hx ["self","letters"] []) (FD:Meth K C_j1 "first_ends" Bq)
  : FnOk P w K mg base CX0 12 f fd ["self","letters","most"] (CK_ K C_j1 C_j7):=by
 refine F.ok WU (fun vs H Q E h=>?_) (fun cdv A outer s H vs Q E hr h=>?_)
 ·obtain⟨a,dx,L,most,rfl,_⟩:=h;rfl
 ·obtain⟨a,dx,L,most,rfl,ha,l1,l6,m1,m12,k⟩:=h
  have hl:=Ao
  refine⟨_,(Ad (A9 (Kh_ rfl W.m_jj Oc Oa (hr.mono (by decide)) Ob .nil Ax (Aa (pvD 0) (Aa (pvD 1) (Aa (pvD 2) (Aa (AM_ N9 N7 (hr.mono (by decide)) rfl W.m_j7 N8 .nil Ax (Aa (pvD 1) Af)) (Aa (Rq (Aa (GJ Af) Af)) (Aa (DE (pvD 0) W.cl_j1 FD FA (hr.mono (by decide)) FC .nil Ax (Aa (pvD 1) Af)) Af))))))))
   (Ad (A9 (Bl (pvD 0) W.cl_j1 AW AU (hr.mono (by decide)) AV .nil Ax))
   (Ac (A9 (Bl (pvD 0) W.cl_j1 Cz Cw (hr.mono (by decide)) Cy .nil Ax))))),?_⟩
  walk_at "rd"
  intro b dxb hbN hdN hne
  have hab:a≠b:=fun z=>by rw[<-z,ha]at hbN;cases hbN
  refine⟨b,dxb,L,rfl,Ae,fun d H2 hd bk hf=>⟨rfl,by omega,fun p hp=>⟨by omega,fun pw hpw=>?_⟩⟩⟩
  have s2:Same H H2:=fun y o hy=>by
   have y1:y≠b:=fun z=>by rw[z,hbN]at hy;cases hy
   have y2:y≠dxb:=fun z=>by rw[z,hdN]at hy;cases hy
   exact hf y o (by rw[Ah y1,Ah y2];exact hy) y1
  have hdH:H d=none:=by
   cases h:H d with
   |none=>rfl
   |some o=>
    have y1:d≠b:=fun z=>by rw[z,hbN]at h;cases h
    have y2:d≠dxb:=fun z=>by rw[z,hdN]at h;cases h
    rw[Ah y1,Ah y2,h]at hd;cases hd
  have sp:=Same.new (o:=.tup []) hp
  have s3:=sp.trans (Same.new (o:=.lst [.ref p]) hpw)
  have hp3:=(Same.new (o:=.lst [.ref p]) hpw) _ _ (show upd H2 p (.tup []) p=some (.tup []) from Ae)
  have hw3:upd (upd H2 p (.tup [])) pw (.lst [.ref p]) pw=some (.lst [.ref p]):=Ae
  generalize upd (upd H2 p (.tup [])) pw (.lst [.ref p])=H3 at s3 hp3 hw3 ⊢
  have hpwH:H pw=none:=s2.none (sp.none hpw)
  refine⟨_,_,s3 _ _ (s2 _ _ ha),by kernel_rfl,a,L,rfl,l6,fun pe ts H4 s4 hpe hpe4 hts=>?_⟩
  refine⟨a,dx,b,pw,pe,L,most,rfl,s4 _ _ (s3 _ _ (s2 _ _ ha)),fun pg H5 hpg hob hpg5 hf5 hn5=>?_⟩
  have s34:=s3.trans s4
  have s04:=s2.trans s34
  have bk4:=bk.mono s34
  have ne:∀y,H y=none->y≠a:=fun y hy z=>by rw[z,ha]at hy;cases hy
  have hpeH:H pe=none:=s2.none (s3.none hpe)
  have hpgH:H pg=none:=s04.none hpg
  have hp4:=s4 _ _ hp3
  have hpH:H p=none:=s2.none hp
  have hts5:As K H5 ts (fE57 L):=hts.mono fun y o hy=>hf5 _ _ hy fun z=>by
   have:=s04 _ _ ha
   rw[z,this]at hy;cases hy
  have x5:AskAt K C_j1 C_j7 H5 a ⟨dx,b,d,pw,pe,pg⟩ {s039 L most with G:=[]} .non .non .non [.ref p] ts []:=
   ⟨hob,BookAt.tk bk4 (fun o h=>hf5 _ _ h (Ne.symm hab)) (fun o h=>hf5 _ _ h (ne _ hdH)),hf5 _ _ (s4 _ _ hw3) (ne _ hpwH),As.nil.snoc (w:=[]) (hf5 _ _ hp4 (ne _ hpH)),hf5 _ _ hpe4 (ne _ hpeH),hts5,hpg5,As.nil,fun z=>(by rw[show pe=pw from z.symm,hw3]at hpe;cases hpe),fun z=>(by rw[show pg=pw from z.symm,s4 _ _ hw3]at hpg;cases hpg),fun z=>(by rw[show pg=pe from z.symm,hpe4]at hpg;cases hpg),rfl,rfl⟩
  have hmm:(most+1)*(most+L)<=13*18:=Nat.mul_le_mul (by omega) (by omega)
  have bd:Bd 1 (s039 L most):=by
   show 1+(most+1)*(most+L)+most<=500
   omega
  have ok:=Fx_ 1 (by omega) l1 l6 m1 m12
  have sz:=ok.sz bd
  refine⟨_,_,x5.ob,by kernel_rfl,a,_,_,.non,rfl,⟨_,_,_,_,_,x5⟩,⟨sz.l6,sz.w,sz.e,sz.b⟩,fun ad6 H6 x6 f6 k6=>?_⟩
  obtain⟨gv6,rv6,zs6,ys6,us6,x6⟩:=x6
  refine⟨_,_,x6.ob,by kernel_rfl,a,ad6,s039 L most,.non,1,rfl,⟨_,_,_,_,_,x6⟩,ok,bd,fun ad7 H7 s' y wv' go x7 hw7 f7 k7=>?_⟩
  have f57:=f6.trans k6 f7
  obtain⟨q1,q2,q3,q4,q5,q6⟩:=AdOk.trans f6 k6 k7
  have hn:∀y,H7 y=none->H y=none:=fun y hy=>s04.none (hn5 y (f57.2 y hy))
  refine k ad7 H7 s' y wv' go x7 hw7 (fun z o hz hza=>?_) hn ⟨by rw[q3];exact hdH,by rw[q4];exact hpwH,by rw[q5];exact hpeH,?_⟩
  ·exact f57.1 z o (hf5 _ _ (s04 _ _ hz) hza) hza (fun e=>by rw[e]at hz;rw[show H d=none from hdH]at hz;cases hz) (fun e=>by rw[e]at hz;rw[show H pw=none from hpwH]at hz;cases hz) (fun e=>by rw[e]at hz;rw[show H pe=none from hpeH]at hz;cases hz) (fun e=>by rw[e]at hz;rw[show H pg=none from hpgH]at hz;cases hz)
  ·rcases q6 with q6|q6
   ·rw[q6];exact hpgH
   ·exact s04.none (hn5 _ q6)
def sfl (L:Int)(a:Addr):List (Str×V):=[("letters",.int L),("hunt",.ref a)]
theorem LU (L:Int)(a:Addr):(sfl L a).lookup ("hunt" : Str)=some (.ref a):=by kernel_rfl
theorem AskAt.keep {K:PySem.W.Frag}    {ad:AD}  {wv gv rv:V}  (x:AskAt K CA CB H a ad s wv gv rv zs ys us)(k:∀y o,H y=some o->(y=a\/y=ad.b\/y=ad.d\/y=ad.pw\/y=ad.pe\/y=ad.pg)->H' y=some o)(tk:TK H H'):AskAt K CA CB H' a ad s wv gv rv zs ys us:=
 ⟨k _ _ x.ob (.inl rfl),BookAt.tk x.bk (fun o h=>k _ _ h (.inr (.inl rfl))) (fun o h=>k _ _ h (.inr (.inr (.inl rfl)))),k _ _ x.w (.inr (.inr (.inr (.inl rfl)))),x.wW.mono tk,k _ _ x.e (.inr (.inr (.inr (.inr (.inl rfl))))),x.eW.mono tk,k _ _ x.g (.inr (.inr (.inr (.inr (.inr rfl))))),x.gW.mono tk,x.we,x.wg,x.eg,x.gv.mono tk,x.rv.mono tk⟩
def SAt (K:PySem.W.Frag)(CS CA CB:Addr)(H:Hp)(p a:Addr)(ad:AD)(s:AS)(wv:V):Prop:=(∃dx L,H p=some (.ins CS dx (sfl L a)))/\Asks K CA CB H a ad s wv
theorem SAt.same {K:PySem.W.Frag}    {ad:AD}  {wv:V}(x:SAt K CS CA CB H p a ad s wv)(e:Same H H'):SAt K CS CA CB H' p a ad s wv:=by
 obtain⟨⟨dx,L,h⟩,gv,rv,zs,ys,us,x⟩:=x
 exact⟨⟨dx,L,e _ _ h⟩,_,_,_,_,_,x.same e⟩
theorem SAt.np {K:PySem.W.Frag}    {ad:AD}  {wv:V}(x:SAt K CS CA CB H p a ad s wv):p≠a/\p≠ad.d/\p≠ad.pw/\p≠ad.pe/\p≠ad.pg:=by
 obtain⟨⟨dx,L,h⟩,gv,rv,zs,ys,us,x⟩:=x
 refine⟨fun z=>?_,fun z=>?_,fun z=>?_,fun z=>?_,fun z=>?_⟩
 ·rw[z,x.ob]at h
  injection h with h
  injection h with _ _ h
  have:=congrArg List.length h
  simp[afl,sfl]at this
 ·rw[z,x.bk.dc]at h;cases h
 ·rw[z,x.w]at h;cases h
 ·rw[z,x.e]at h;cases h
 ·rw[z,x.g]at h;cases h
theorem SAt.frm {K:PySem.W.Frag}    {ad ad':AD}  {wv wv':V}(x:SAt K CS CA CB H p a ad s wv)(f:Frm H H' a ad)(y:Asks K CA CB H' a ad' s' wv'):SAt K CS CA CB H' p a ad' s' wv':=by
 obtain⟨n1,n2,n3,n4,n5⟩:=x.np
 obtain⟨⟨dx,L,h⟩,_⟩:=x
 exact⟨⟨dx,L,f.1 _ _ h n1 n2 n3 n4 n5⟩,y⟩
def LV (K:PySem.W.Frag)(CS CA CB:Addr):Sp:=fun vs H Q _=>∃(p a:Addr) (ad:AD) (s:AS) (wv:V),vs=[.ref p]/\SAt K CS CA CB H p a ad s wv/\Q wv H
theorem Qq   (F:Fun K "wants" "SayAsker.wants" Bx f fd)(T:Txt mg)
  (W:Own K mg C_j7 C_j9 C_jj C_ja C_j1 C_j4)
  (Z:Exs K mg C_j8 C_j5 C_j6 C_j3 C_j2 C_j0)
   (Kj:FnOk P w K mg base CX0 1 Dv NG ["self"] (CF_ K C_j1 C_j7)) (HZ:Fun K "wants" "Turns.wants" Ed Dv NG) (Kk:Binds K NG ["self"] []) (Kl:Meth K C_j1 "wants" Dv)
  : FnOk P w K mg base CX0 2 f fd ["self"] (LV K C_j4 C_j1 C_j7):=by
 refine F.ok P7 (fun vs H Q E h=>?_) (fun cdv A outer s H vs Q E hr h=>?_)
 ·obtain⟨p,a,ad,s,wv,rfl,_⟩:=h;rfl
 ·obtain⟨p,a,ad,s,wv,rfl,⟨⟨dx,L,hp⟩,gv,rv,zs,ys,us,x⟩,k⟩:=h
  refine⟨_,(Ac (Ar (Bl (AO (pvD 0) rfl) W.cl_j1 Kl Kj (hr.mono (by decide)) Kk .nil Ax))),?_⟩
  walk_at "rd"
  exact⟨_,_,_,hp,W.cl_j4,W.n_SayAsker_hunt,_,LU ..,a,rfl,_,_,x.ob,by kernel_rfl,a,ad,s,wv,rfl,⟨_,_,_,_,_,x⟩,k⟩
def SK (K:PySem.W.Frag)(CS CA CB:Addr)(f:AS->List (List Int)):Sp:=fun vs H Q _=>∃(p a:Addr) (ad:AD) (s:AS) (wv:V),vs=[.ref p]/\SAt K CS CA CB H p a ad s wv/\∀l ts H',Same H H'->H l=none->H' l=some (.lst ts)->As K H' ts (f s)->Q (.ref l) H'
theorem OV   (F:Fun K "access" "SayAsker.access" Cj f fd)(T:Txt mg)
  (W:Own K mg C_j7 C_j9 C_jj C_ja C_j1 C_j4)
  (Z:Exs K mg C_j8 C_j5 C_j6 C_j3 C_j2 C_j0)
   (Km:FnOk P w K mg base CX0 1 Dx NH ["self"] (OS K C_j1 C_j7 AS.W)) (Ia:Fun K "access" "Hunt.access" Ei Dx NH) (Kn:Binds K NH ["self"] []) (Ko:Meth K C_j1 "access" Dx)
  : FnOk P w K mg base CX0 2 f fd ["self"] (SK K C_j4 C_j1 C_j7 AS.W):=by
 refine F.ok OK (fun vs H Q E h=>?_) (fun cdv A outer s H vs Q E hr h=>?_)
 ·obtain⟨p,a,ad,s,wv,rfl,_⟩:=h;rfl
 ·obtain⟨p,a,ad,s,wv,rfl,⟨⟨dx,L,hp⟩,gv,rv,zs,ys,us,x⟩,k⟩:=h
  refine⟨_,(Ac (Ar (Bl (AO (pvD 0) rfl) W.cl_j1 Ko Km (hr.mono (by decide)) Kn .nil Ax))),?_⟩
  walk_at "rd"
  exact⟨_,_,_,hp,W.cl_j4,W.n_SayAsker_hunt,_,LU ..,a,rfl,_,_,x.ob,by kernel_rfl,a,ad,s,wv,rfl,⟨_,_,_,_,_,x⟩,k⟩
theorem Od   (F:Fun K "tellers" "SayAsker.tellers" B6 f fd)(T:Txt mg)
  (W:Own K mg C_j7 C_j9 C_jj C_ja C_j1 C_j4)
  (Z:Exs K mg C_j8 C_j5 C_j6 C_j3 C_j2 C_j0)
   (Ju:FnOk P w K mg base CX0 1 CK LW ["self"] (OS K C_j1 C_j7 AS.E)) (Hk:Fun K "tellers" "Hunt.tellers" DI CK LW) (Jv:Binds K LW ["self"] []) (Jw:Meth K C_j1 "tellers" CK)
  : FnOk P w K mg base CX0 2 f fd ["self"] (SK K C_j4 C_j1 C_j7 AS.E):=by
 refine F.ok N0 (fun vs H Q E h=>?_) (fun cdv A outer s H vs Q E hr h=>?_)
 ·obtain⟨p,a,ad,s,wv,rfl,_⟩:=h;rfl
 ·obtain⟨p,a,ad,s,wv,rfl,⟨⟨dx,L,hp⟩,gv,rv,zs,ys,us,x⟩,k⟩:=h
  refine⟨_,(Ac (Ar (Bl (AO (pvD 0) rfl) W.cl_j1 Jw Ju (hr.mono (by decide)) Jv .nil Ax))),?_⟩
  walk_at "rd"
  exact⟨_,_,_,hp,W.cl_j4,W.n_SayAsker_hunt,_,LU ..,a,rfl,_,_,x.ob,by kernel_rfl,a,ad,s,wv,rfl,⟨_,_,_,_,_,x⟩,k⟩
def OW (K:PySem.W.Frag)(CS CA CB:Addr):Sp:=fun vs H Q _=>∃(p a:Addr) (ad:AD) (s:AS) (wv:V),vs=[.ref p]/\SAt K CS CA CB H p a ad s wv/\∀l rs H',Same H H'->H l=none->H' l=some (.lst rs)->G1 H' rs s.es->Q (.ref l) H'
theorem Qr   (F:Fun K "heard" "SayAsker.heard" BJ f fd)(T:Txt mg)
  (W:Own K mg C_j7 C_j9 C_jj C_ja C_j1 C_j4)
  (Z:Exs K mg C_j8 C_j5 C_j6 C_j3 C_j2 C_j0)
   (LX:FnOk P w K mg base CX0 2 D7 OX ["self"] (Wm K C_j1 C_j7)) (Jb:Fun K "heard" "Hunt.heard" ER D7 OX) (LY:Binds K OX ["self"] []) (LZ:Meth K C_j1 "heard" D7)
  : FnOk P w K mg base CX0 3 f fd ["self"] (OW K C_j4 C_j1 C_j7):=by
 refine F.ok Qb (fun vs H Q E h=>?_) (fun cdv A outer s H vs Q E hr h=>?_)
 ·obtain⟨p,a,ad,s,wv,rfl,_⟩:=h;rfl
 ·obtain⟨p,a,ad,s,wv,rfl,⟨⟨dx,L,hp⟩,gv,rv,zs,ys,us,x⟩,k⟩:=h
  refine⟨_,(Ac (Ar (Bl (AO (pvD 0) rfl) W.cl_j1 LZ LX (hr.mono (by decide)) LY .nil Ax))),?_⟩
  walk_at "rd"
  exact⟨_,_,_,hp,W.cl_j4,W.n_SayAsker_hunt,_,LU ..,a,rfl,_,_,x.ob,by kernel_rfl,a,ad,s,wv,rfl,⟨_,_,_,_,_,x⟩,k⟩
def Ku_ (K:PySem.W.Frag)(CS CA CB:Addr)(H:Hp)(p a:Addr)(ad:AD)(s:AS)(Q:VK):Prop:=∀ad' H' s' x' wv',Goes s s' x'->SAt K CS CA CB H' p a ad' s' wv'->Cf K H' s.L wv' x'->Frm H H' a ad->AdOk H ad ad'->Q .non H'
def Xg (K:PySem.W.Frag)(CS CA CB OT BM:Addr):Sp:=fun vs H Q E=>∃(p a:Addr) (ad:AD) (s:AS) (wv:V) (x:Wish) (B:Nat) (m:Int),vs=[.ref p,.int m]/\SAt K CS CA CB H p a ad s wv/\Cf K H s.L wv x/\WOk B s x/\Bd B s/\s.es.length<=100000/\(x.tag ≠ "ask" -> E (.ref OT) none H)/\∀c,x=.ask c->(¬ (0<=m/\m<=1000000000)->∀H',Same H H'->E (.ref BM) none H')/\(0<=m->m<=1000000000->Ku_ K CS CA CB H p a ad {s with es:=s.es++[(c,m)]} Q)
theorem RS   (F:Fun K "hear" "SayAsker.hear" Co f fd)(T:Txt mg)
  (W:Own K mg C_j7 C_j9 C_jj C_ja C_j1 C_j4)
  (Z:Exs K mg C_j8 C_j5 C_j6 C_j3 C_j2 C_j0)
   (L3:FnOk P w K mg base (CXe P w) 13 D8 OY ["self","mark"] (Xc K C_j1 C_j7 C_j3 C_j6)) (Jc:Fun K "hear" "Asker.hear" EK D8 OY) (L4:Binds K OY ["self","mark"] []) (L5:Meth K C_j1 "hear" D8)
  : FnOk P w K mg base (CXe P w) 14 f fd ["self","mark"] (Xg K C_j4 C_j1 C_j7 C_j3 C_j6):=by
 refine F.okE RL (fun vs H Q E h=>?_) (fun cdv A outer s H vs Q E hr h=>?_)
 ·obtain⟨p,a,ad,s,wv,x,B,m,rfl,_⟩:=h;rfl
 ·obtain⟨p,a,ad,s,wv,y,B,m,rfl,S,hw,ok,bd,hz,kE,k⟩:=h
  obtain⟨⟨dx,L,hp⟩,gv,rv,zs,ys,us,x⟩:=id S
  have hl:=Ao
  refine⟨_,(Ac (A9 (DE (AO (pvD 0) rfl) W.cl_j1 L5 L3 (hr.mono (by decide)) L4 .nil (JE fun _ _ _ h=>h) (Aa (pvD 1) Af)))),?_⟩
  walk_at "rd"
  exact⟨_,_,_,hp,W.cl_j4,W.n_SayAsker_hunt,_,LU ..,a,rfl,_,_,x.ob,by kernel_rfl,a,ad,s,wv,y,B,m,rfl,⟨_,_,_,_,_,x⟩,hw,ok,bd,hz,kE,fun c hc=>⟨(k c hc).1,fun h0 h9 ad' H' s' x' wv' go x3 hw3 f3 k3=>(k c hc).2 h0 h9 ad' H' s' x' wv' go (S.frm f3 x3) hw3 f3 k3⟩⟩
def TQ (K:PySem.W.Frag)(CS CA CB OT:Addr):Sp:=fun vs H Q E=>∃(p a:Addr) (ad:AD) (s:AS) (wv:V) (x:Wish),vs=[.ref p]/\SAt K CS CA CB H p a ad s wv/\Cf K H s.L wv x/\(x.tag ≠ "show" -> E (.ref OT) none H)/\∀mm ws,x=.shown mm ws->∀H' wv',SAt K CS CA CB H' p a ad s wv'->Cf K H' s.L wv' (.done mm ws)->Frm H H' a ad->Q .non H'
theorem Qs   (F:Fun K "agree" "SayAsker.agree" Cc f fd)(T:Txt mg)
  (W:Own K mg C_j7 C_j9 C_jj C_ja C_j1 C_j4)
  (Z:Exs K mg C_j8 C_j5 C_j6 C_j3 C_j2 C_j0)
   (L6:FnOk P w K mg base (CXe P w) 2 D9 OZ ["self"] (CI_ K C_j1 C_j7 C_j3)) (Jd:Fun K "agree" "Hunt.agree" EL D9 OZ) (L7:Binds K OZ ["self"] []) (L8:Meth K C_j1 "agree" D9)
  : FnOk P w K mg base (CXe P w) 3 f fd ["self"] (TQ K C_j4 C_j1 C_j7 C_j3):=by
 refine F.okE Qa (fun vs H Q E h=>?_) (fun cdv A outer s H vs Q E hr h=>?_)
 ·obtain⟨p,a,ad,s,wv,x,rfl,_⟩:=h;rfl
 ·obtain⟨p,a,ad,s,wv,y,rfl,S,hw,kE,k⟩:=h
  obtain⟨⟨dx,L,hp⟩,gv,rv,zs,ys,us,x⟩:=id S
  have hl:=Ao
  refine⟨_,(Ac (A9 (Bl (AO (pvD 0) rfl) W.cl_j1 L8 L6 (hr.mono (by decide)) L7 .nil (JE fun _ _ _ h=>h)))),?_⟩
  walk_at "rd"
  exact⟨_,_,_,hp,W.cl_j4,W.n_SayAsker_hunt,_,LU ..,a,rfl,_,_,x.ob,by kernel_rfl,a,ad,s,wv,y,rfl,⟨_,_,_,_,_,x⟩,hw,kE,fun mm ws hy H' wv' x3 hw3 f3=>k mm ws hy H' wv' (S.frm f3 x3) hw3 f3⟩
def Xh (K:PySem.W.Frag)(CS CA CB OT BW BM ND CO:Addr):Sp:=fun vs H Q E=>∃(p a t:Addr) (ad:AD) (s:AS) (wv:V) (x:Wish) (B:Nat) (w:List Int) (m:Int),vs=[.ref p,.ref t,.int m]/\SAt K CS CA CB H p a ad s wv/\Cf K H s.L wv x/\WOk B s x/\Bd B s/\s.es.length<=100000/\H t=some (.tup (w.map V.int))/\w.length<=600/\(x.tag ≠ "show" -> E (.ref OT) none H)/\∀mm ws,x=.shown mm ws->(w=[]\/isW s.L w=false->∀H',Same H H'->E (.ref BW) none H')/\(w ≠ []->isW s.L w=true->¬ (0<=m/\m<=1000000000)->∀H',Same H H'->E (.ref BM) none H')/\(w ≠ []->isW s.L w=true->0<=m->m<=1000000000->(lsay mm ws w=m->∀H',Same H H'->E (.ref ND) none H')/\(lsay mm ws w≠m->w∈s.es.map (·.1)->∀H',Same H H'->E (.ref CO) none H')/\(lsay mm ws w≠m->w∉s.es.map (·.1)->w.length<=B+(s.most+1)*s.E.length/\Ku_ K CS CA CB H p a ad {s with es:=s.es++[(w,m)]} Q))
theorem O0   (F:Fun K "differ" "SayAsker.differ" BV f fd)(T:Txt mg)
  (W:Own K mg C_j7 C_j9 C_jj C_ja C_j1 C_j4)
  (Z:Exs K mg C_j8 C_j5 C_j6 C_j3 C_j2 C_j0)
   (AE:FnOk P w K mg base (CXe P w) 1 Am AH ["self","deed"] (LM K C_j1 C_j7 C_j3)) (AY:Fun K "check_wants" "Turns.check_wants" AX Am AH) (AF:Binds K AH ["self","deed"] []) (AG:Meth K C_j1 "check_wants" Am)
   (CN:FnOk P w K mg base (CXe P w) 1 Bz Dp ["word"] (LC K C_j5)) (BX:Fun K "check_not_empty" "check_not_empty" BS Bz Dp) (CP:Binds K Dp ["word"] []) (CQ:mg "check_not_empty"=some (.ref Bz))
   (Jx:FnOk P w K mg base (CXe P w) 13 CL L9 ["self","word","mark"] (CJ_ K C_j1 C_j7 C_j3 C_j5 C_j6 C_j2 C_j0)) (Hl:Fun K "differ" "Asker.differ" DH CL L9) (Jy:Binds K L9 ["self","word","mark"] []) (Jz:Meth K C_j1 "differ" CL)
  : FnOk P w K mg base (CXe P w) 14 f fd ["self","word","mark"] (Xh K C_j4 C_j1 C_j7 C_j3 C_j5 C_j6 C_j2 C_j0):=by
 refine F.okE OJ (fun vs H Q E h=>?_) (fun cdv A outer s H vs Q E hr h=>?_)
 ·obtain⟨p,a,t,ad,s,wv,x,B,wd,m,rfl,_⟩:=h;rfl
 ·obtain⟨p,a,t,ad,s,wv,y,B,wd,m,rfl,S,hw,ok,bd,hz,ht,hz2,kE,k⟩:=h
  obtain⟨⟨dx,L,hp⟩,gv,rv,zs,ys,us,x⟩:=id S
  have hl:=Ao
  refine⟨_,(Ad (A9 (DE (AO (pvD 0) rfl) W.cl_j1 AG AE (hr.mono (by decide)) AF .nil (JE fun _ _ _ h=>h) (Aa Bm Af)))
   (Ad (A9 (Aj CN (hr.mono (by decide)) rfl CQ BX.kp CP .nil (JE fun _ _ _ h=>h) (Aa (pvD 1) Af)))
   (Ac (A9 (DE (AO (pvD 0) rfl) W.cl_j1 Jz Jx (hr.mono (by decide)) Jy .nil (JE fun _ _ _ h=>h) (Aa (pvD 1) (Aa (pvD 2) Af))))))),?_⟩
  walk_at "rd"
  refine⟨_,_,_,hp,W.cl_j4,W.n_SayAsker_hunt,_,LU ..,a,rfl,_,_,x.ob,by kernel_rfl,a,ad,s,wv,y,"show",rfl,⟨_,_,_,_,_,x⟩,hw,fun htag=>?_,kE⟩
  cases y with
  |ask c=>exact absurd htag (show ¬ ("ask" : Str) = "show" by decide +kernel)
  |done mm ws=>exact absurd htag (show ¬ ("done" : Str) = "show" by decide +kernel)
  |spent c=>exact absurd htag (show ¬ ("spent" : Str) = "show" by decide +kernel)
  |shown mm ws=>
   obtain⟨kW,kM,kk⟩:=k mm ws rfl
   refine⟨t,wd,rfl,SqT.of ht,fun hne=>?_,fun z=>kW (.inl z) H (Same.refl _)⟩
   refine⟨_,_,_,hp,W.cl_j4,W.n_SayAsker_hunt,_,LU ..,a,rfl,_,_,x.ob,by kernel_rfl,a,t,ad,s,wv,_,B,wd,m,rfl,⟨_,_,_,_,_,x⟩,hw,ok,bd,hz,ht,hne,hz2,kE,fun mm' ws' e=>?_⟩
   cases e
   refine⟨fun z=>kW (.inr z),kM hne,fun hc h0 h9=>?_⟩
   obtain⟨kN,kC,kG⟩:=kk hne hc h0 h9
   exact⟨kN,kC,fun h1 h2=>⟨(kG h1 h2).1,fun ad' H' s' x' wv' go x3 hw3 f3 k3=>(kG h1 h2).2 ad' H' s' x' wv' go (S.frm f3 x3) hw3 f3 k3⟩⟩
def CL_ (K:PySem.W.Frag)(CS CA CB:Addr):Sp:=fun vs H Q _=>∃(p dx:Addr) (L most:Nat),vs=[.ref p,.int L,.int most]/\H p=some (.ins CS dx [])/\1<=L/\L<=6/\1<=most/\most<=12/\∀a ad H' s x wv,Goes (s039 L most) s x->SAt K CS CA CB H' p a ad s wv->Cf K H' L wv x->(∀y o,H y=some o->y≠p->H' y=some o)->(∀y,H' y=none->H y=none)->(H a=none/\H ad.d=none/\H ad.pw=none/\H ad.pe=none/\H ad.pg=none)->Q .non H'
theorem RT   (F:Fun K "__init__" "SayAsker.__init__" C0 f fd)(T:Txt mg)
  (W:Own K mg C_j7 C_j9 C_jj C_ja C_j1 C_j4)
  (Z:Exs K mg C_j8 C_j5 C_j6 C_j3 C_j2 C_j0)
   (Ma:FnOk P w K mg base CX0 12 Ea O1 ["self","letters","most"] (CK_ K C_j1 C_j7)) (Je:Fun K "__init__" "Asker.__init__" EO Ea O1) (Mb:Binds K O1 ["self","letters","most"] []) (Mc:Mk K C_j1 Ea)
  : FnOk P w K mg base CX0 14 f fd ["self","letters","most"] (CL_ K C_j4 C_j1 C_j7):=by
 refine F.ok RM (fun vs H Q E h=>?_) (fun cdv A outer s H vs Q E hr h=>?_)
 ·obtain⟨p,dx,L,most,rfl,_⟩:=h;rfl
 ·obtain⟨p,dx,L,most,rfl,hp,l1,l6,m1,m12,k⟩:=h
  have hl:=Ao
  refine⟨_,(Ad (F4 (pvD 0) (pvD 1) rfl)
   (Ac (F4 (pvD 0) (AM_ Mc Ma (hr.mono (by decide)) rfl W.m_j1 Mb .nil Ax (Aa (pvD 1) (Aa (pvD 2) Af))) rfl))),?_⟩
  walk_at "rd"
  refine⟨_,_,_,hp,W.cl_j4,W.n_SayAsker_letters,by decide,fun a dxa haN hdN hne=>?_⟩
  have hpa:p≠a:=fun z=>by rw[<-z,Ae]at haN;cases haN
  have hpd:p≠dxa:=fun z=>by rw[<-z,Ae]at hdN;cases hdN
  rw[Ah hpa.symm]at haN
  rw[Ah hpd.symm]at hdN
  refine⟨a,dxa,L,most,rfl,Ae,l1,l6,m1,m12,fun ad H' s x wv go xA hw hf hn hfr=>⟨rfl,?_⟩⟩
  have hp2:H' p=some (.ins C_j4 dx [("letters",.int L)]):=hf _ _ (by rw[Ah hpa,Ah hpd,Ae];rfl) hpa
  obtain⟨gv,rv,zs,ys,us,xA⟩:=xA
  refine⟨_,_,_,hp2,W.cl_j4,W.n_SayAsker_hunt,(by show 1<1000;decide),?_⟩
  have tk:TK H' (upd H' p (.ins C_j4 dx (putF ("hunt" : Str) (.ref a) [("letters",.int L)]))):=fun t ts h=>by rw[Ah (fun z=>by rw[z,hp2]at h;cases h)];exact h
  have nz:∀y,upd (upd (upd H p (HO.ins C_j4 dx (putF ("letters" : Str) (V.int L) []))) dxa (HO.own a)) a (HO.ins C_j1 dxa []) y=none->H y=none:=fun y hy=>by
   by_cases z1:y=a
   ·rw[z1,Ae]at hy;cases hy
   ·by_cases z2:y=dxa
    ·rw[z2,Ah (by rw[<-z2];exact z1),Ae]at hy;cases hy
    ·by_cases z3:y=p
     ·rw[z3,Ah hpa,Ah hpd,Ae]at hy;cases hy
     ·rw[Ah z1,Ah z2,Ah z3]at hy;exact hy
  refine k a ad _ s x wv go ⟨⟨dx,L,Ae⟩,_,_,_,_,_,xA.keep (fun y o hy hc=>?_) tk⟩ (hw.mono tk) (fun y o hy hyp=>?_) (fun y hy=>?_) ⟨haN,nz _ hfr.1,nz _ hfr.2.1,nz _ hfr.2.2.1,nz _ hfr.2.2.2⟩
  ·rw[Ah (fun z=>?_)]
   ·exact hy
   ·obtain⟨dxb,hb⟩:=xA.bk.ob
    rcases hc with hc|hc|hc|hc|hc|hc
    ·exact hpa (z.symm.trans hc)
    ·rw[<-hc,z,hp2]at hb;cases hb
    ·have:=xA.bk.dc
     rw[<-hc,z,hp2]at this;cases this
    ·have:=xA.w
     rw[<-hc,z,hp2]at this;cases this
    ·have:=xA.e
     rw[<-hc,z,hp2]at this;cases this
    ·have:=xA.g
     rw[<-hc,z,hp2]at this;cases this
  ·rw[Ah hyp]
   have y1:y≠a:=fun z=>by rw[z,haN]at hy;cases hy
   have y2:y≠dxa:=fun z=>by rw[z,hdN]at hy;cases hy
   exact hf _ _ (by rw[Ah y1,Ah y2,Ah hyp];exact hy) y1
  ·by_cases z:y=p
   ·rw[z,Ae]at hy;cases hy
   ·rw[Ah z]at hy
    exact nz y (hn y hy)
def cell (ns:List Int)(k:Nat):Int:=ns.getD k 0
def Md (K:PySem.W.Frag):Sp:=fun vs H Q _=>∃(a:Addr) (ns:List Int) (k:Nat),vs=[.ref a,.int k]/\SqL K H a (ns.map V.int)/\Q (.int (cell ns k)) H
theorem Zj   (F:Fun K "_law_cell" "_law_cell" Ci f fd)(T:Txt mg)
  (W:Own K mg C_j7 C_j9 C_jj C_ja C_j1 C_j4)
  (Z:Exs K mg C_j8 C_j5 C_j6 C_j3 C_j2 C_j0)
  : FnOk P w K mg base CX0 1 f fd ["script","k"] (Md K):=by
 refine F.ok Y0 (fun vs H Q E h=>?_) (fun cdv A outer s H vs Q E hr h=>?_)
 ·obtain⟨a,ns,k,rfl,_⟩:=h;rfl
 ·obtain⟨a,ns,k,rfl,hs,q⟩:=h
  refine⟨_,(Ad (Cu (ptT (Ay (opD0 Ie_) (pvD 1) (C3 (lenD Dk) (by rfl) T.len PySem.boot_len (Aa (pvD 0) Af)) (Bg _)))
   (Ac (Ar (BF (ixLD Jk) (pvD 0) (pvD 1))))
   AQ)
   (Ac (Ar Ai))),?_⟩
  walk_at "rd"
  refine⟨_,.inl hs,?_⟩
  rw[List.length_map]
  refine ite2 (fun hk=>?_) (fun hk=>?_)
  ·have hk':k<ns.length:=by simpa using hk
   refine⟨_,hs,V.int (cell ns k),?_,q⟩
   refine P0 ?_
   rw[List.getElem?_map]
   unfold cell
   rw[List.getD_eq_getElem?_getD]
   simp[hk']
  ·have hk':¬ k<ns.length:=by simpa using hk
   have:cell ns k=0:=by
    unfold cell
    rw[List.getD_eq_getElem?_getD,List.getElem?_eq_none (by omega)];rfl
   rw[<-this]
   exact q
theorem Zk {α:Type}[DecidableEq α]{l k:List α}(h:l.Nodup)(hs:∀x∈l,x∈k):l.length<=k.length:=by
 induction l generalizing k with
 |nil=>exact Nat.zero_le _
 |cons a l ih=>
  obtain⟨h1,h2⟩:=List.nodup_cons.mp h
  have h3:=ih (k:=k.erase a) h2 fun x hx=>(List.mem_erase_of_ne (fun z=>h1 (by rw[<-z];exact hx))).mpr (hs x (List.mem_cons_of_mem _ hx))
  have h4:=hs a List.mem_cons_self
  rw[List.length_erase_of_mem h4]at h3
  have:=List.length_pos_of_mem h4
  rw[List.length_cons]
  omega
theorem FA_ {v:List Int}{ks:List (List Int)}{n:Nat}(h:∀j,j<n->v++List.replicate j 0∈ks):n<=ks.length:=by
 have:=Zk (l:=(List.range n).map fun j=>v++List.replicate j 0) (k:=ks) (by
  rw[List.nodup_iff_pairwise_ne,List.pairwise_map]
  refine (List.nodup_iff_pairwise_ne.mp List.nodup_range).imp fun hab z=>hab ?_
  have:=congrArg List.length z
  simpa using this) (fun x hx=>by
  obtain⟨j,hj,rfl⟩:=List.mem_map.mp hx
  exact h j (List.mem_range.mp hj))
 rwa [List.length_map,List.length_range]at this
def bigF (ns:List Int)(k:Int):Int:=if k<ns.length then ns.getD k.toNat 0 else (cell ns (k%if (ns.length:Int) > 1 then (ns.length:Int) else 1).toNat%2147483647*48271+k*k*31+7*k)%2147483647
def CM_ (K:PySem.W.Frag):Sp:=fun vs H Q _=>∃(a:Addr) (ns:List Int) (k:Int),vs=[.ref a,.int k]/\SqL K H a (ns.map V.int)/\ns.length<=63/\0<=k/\k<=100000/\Q (.int (bigF ns k)) H
theorem Bs_   (F:Fun K "_law_big" "_law_big" G0 f fd)(T:Txt mg)
  (W:Own K mg C_j7 C_j9 C_jj C_ja C_j1 C_j4)
  (Z:Exs K mg C_j8 C_j5 C_j6 C_j3 C_j2 C_j0)
   (Au:FnOk P w K mg base CX0 1 AI AK ["script","k"] (Md K)) (Ap:Fun K "_law_cell" "_law_cell" Ci AI AK) (Av:Binds K AK ["script","k"] []) (Aw:mg "_law_cell"=some (.ref AI))
  : FnOk P w K mg base CX0 2 f fd ["script","k"] (CM_ K):=by
 refine F.ok Td (fun vs H Q E h=>?_) (fun cdv A outer s H vs Q E hr h=>?_)
 ·obtain⟨a,ns,k,rfl,_⟩:=h;rfl
 ·obtain⟨a,ns,k,rfl,hs,hz,k0,k1,q⟩:=h
  refine⟨_,(Ad (Cu (ptT (Ay (opD0 Ie_) (pvD 1) (C3 (lenD Dk) (by rfl) T.len PySem.boot_len (Aa (pvD 0) Af)) (Bg _)))
   (Ac (Ar (BF (ixLD Jk) (pvD 0) (pvD 1))))
   AQ)
   (Ad (AB (i:=2) Td.nd (C3 (Ef_ rfl) rfl T.max PyProof.Rows.boot_max (Aa Ai (Aa (C3 (lenD Dk) (by rfl) T.len PySem.boot_len (Aa (pvD 0) Af)) Af))))
   (Ac (Ar (Bt (opD Fn) (Bt (opD0 FE) (Bt (opD0 FE) (Bt (opD YJ) (Bt (opD Fn) (Aj Au (hr.mono (by decide)) rfl Aw Ap.kp Av .nil Ax (Aa (pvD 0) (Aa (Bt (opD Fn) (pvD 1) (pvD 2)) Af))) Ai) Ai) (Bt (opD YJ) (Bt (opD YJ) (pvD 1) (pvD 1)) Ai)) (Bt (opD YJ) Ai (pvD 1))) Ai))))),?_⟩
  walk_at "rd"
  refine⟨_,.inl hs,?_⟩
  rw[List.length_map]
  unfold bigF at q
  refine ite2 (fun hk=>?_) (fun hk=>?_)
  ·have hk2:k<(ns.length:Int):=by simpa using hk
   have hk':k.toNat<ns.length:=by omega
   rw[if_pos hk2]at q
   refine⟨_,hs,_,S6 k0 (v:=ns[k.toNat]) (by simp[hk']),?_⟩
   rw[List.getD_eq_getElem?_getD,List.getElem?_eq_getElem hk']at q
   exact q
  ·have hk2:¬ k<(ns.length:Int):=by simpa using hk
   rw[if_neg hk2]at q
   have e0:((ns.map V.int).length:Int)=(ns.length:Int):=by rw[List.length_map]
   have hm:(0:Int)<if (ns.length:Int) > 1 then (ns.length:Int) else 1:=by split<;>omega
   have r0:=Int.emod_nonneg k (show (if (ns.length:Int) > 1 then (ns.length:Int) else 1)≠0 by omega)
   refine⟨_,.inl hs,?_⟩
   rw[List.length_map]
   exact⟨hm,a,ns,(k%if (ns.length:Int) > 1 then (ns.length:Int) else 1).toNat,by rw[Int.toNat_of_nonneg r0],hs,_,rfl,by decide,.inr ⟨by decide,by decide⟩,.inl ⟨by omega,by omega⟩,.inr ⟨by decide,by decide⟩,.inl ⟨by decide,by decide⟩,by decide,q⟩
def Bt_ (c:Int):Int:=if c%8=3 then 1000000000 else if c%4=0 then c / 4%1000000001 else c / 4%2
theorem CN_ (c:Int):0<=Bt_ c/\Bt_ c<=1000000000:=by
 unfold Bt_
 split
 ·omega
 ·split<;>omega
def Zl:Sp:=fun vs H Q _=>∃c:Int,vs=[.int c]/\Q (.int (Bt_ c)) H
theorem Zm   (F:Fun K "_law_mark" "_law_mark" FU f fd)(T:Txt mg)
  (W:Own K mg C_j7 C_j9 C_jj C_ja C_j1 C_j4)
  (Z:Exs K mg C_j8 C_j5 C_j6 C_j3 C_j2 C_j0)
  : FnOk P w K mg base CX0 1 f fd ["cell"] (Zl):=by
 refine F.ok Y5 (fun vs H Q E h=>?_) (fun cdv A outer s H vs Q E hr h=>?_)
 ·obtain⟨c,rfl,_⟩:=h;rfl
 ·obtain⟨c,rfl,k⟩:=h
  refine⟨_,(Ad (Cu (ptT (Ay (opE NU) (Bt (opD Fn) (pvD 0) Ai) Ai (Bg _)))
   (Ac (Ar Ai))
   AQ)
   (Ad (Cu (ptT (Ay (opE NU) (Bt (opD Fn) (pvD 0) Ai) Ai (Bg _)))
   (Ac (Ar (Bt (opD Fn) (Bt (opD PZ) (pvD 0) Ai) Ai)))
   AQ)
   (Ac (Ar (Bt (opD Fn) (Bt (opD PZ) (pvD 0) Ai) Ai))))),?_⟩
  walk_at "rd"
  unfold Bt_ at k
  refine⟨by decide,ite2 (fun e=>?_) (fun e=>⟨by decide,ite2 (fun e2=>⟨⟨by decide,by decide⟩,by decide,?_⟩) (fun e2=>⟨⟨by decide,by decide⟩,by decide,?_⟩)⟩)⟩
  ·rw[if_pos (by simpa using e)]at k;exact k
  ·rw[if_neg (by simpa using e),if_pos (by simpa using e2)]at k;exact k
  ·rw[if_neg (by simpa using e),if_neg (by simpa using e2)]at k;exact k
def Qt (ns:List Int)(at_ L n:Nat):List Int:=(List.range n).map fun k:Nat=>(cell ns (at_+k) / 2+(k:Int))%(L:Int)
theorem O2 (ns:List Int)(at_ L n:Nat):(Qt ns at_ L n).length=n:=by unfold Qt;rw[List.length_map,List.length_range]
theorem Zn (ns:List Int)(at_ n:Nat){L:Nat}(l1:1<=L):isW (L:Int) (Qt ns at_ L n)=true:=by
 refine Cg.mpr fun x hx=>?_
 unfold Qt at hx
 obtain⟨k,_,rfl⟩:=List.mem_map.mp hx
 exact⟨Int.emod_nonneg _ (by omega),Int.emod_lt_of_pos _ (by omega)⟩
def TR (K:PySem.W.Frag):Sp:=fun vs H Q _=>∃(a:Addr) (ns:List Int) (at_ L n:Nat),vs=[.ref a,.int at_,.int L,.int n]/\SqL K H a (ns.map V.int)/\1<=L/\n<=100/\∀t H',Same H H'->H' t=some (.tup ((Qt ns at_ L n).map V.int))->Q (.ref t) H'
theorem Zo   (F:Fun K "_law_word" "_law_word" ET f fd)(T:Txt mg)
  (W:Own K mg C_j7 C_j9 C_jj C_ja C_j1 C_j4)
  (Z:Exs K mg C_j8 C_j5 C_j6 C_j3 C_j2 C_j0)
   (Au:FnOk P w K mg base CX0 1 AI AK ["script","k"] (Md K)) (Ap:Fun K "_law_cell" "_law_cell" Ci AI AK) (Av:Binds K AK ["script","k"] []) (Aw:mg "_law_cell"=some (.ref AI))
  : FnOk P w K mg base CX0 2 f fd ["script","at","letters","many"] (TR K):=by
 refine F.ok Y6 (fun vs H Q E h=>?_) (fun cdv A outer s H vs Q E hr h=>?_)
 ·obtain⟨a,ns,at_,L,n,rfl,_⟩:=h;rfl
 ·obtain⟨a,ns,at_,L,n,rfl,hs,l1,hn,k⟩:=h
  have hl:=Ao
  refine⟨_,(Ac (Ar (EE Hn rfl T.tuple PyProof.Rows.boot_tuple (Aa (Lo rfl (OG rfl) (cp:=OL) ⟨⟨rfl,rfl⟩,⟨⟨rfl,rfl⟩,⟨⟨rfl,rfl⟩,True.intro⟩⟩⟩ (Lj rfl T.range (Aa (pvD 3) Af)) (fun _ _ _ _=>(B3 (i:=0) RO rfl (Or.inl rfl))) (fun _ _ _ _=>OF) (fun _ _ _ _=>(Bt (opD Fn) (Bt (opD0 FE) (Bt (opD PZ) (Aj Au (hr.mono (by decide)) rfl Aw Ap.kp Av .nil Ax (Aa (pvD 2) (Aa (Bt (opD0 FE) (pvD 3) (pvD 0)) Af))) Ai) (pvD 0)) (pvD 1)))) Af)))),?_⟩
  walk_at "rd"
  refine⟨by omega,by omega,?_⟩
  rw[Int.toNat_natCast]
  obtain⟨Pc,hPc⟩:∃Pc:Nat->List V->St->Hp->Prop,∀j us σ4 H4,Pc j us σ4 H4↔(H4=H/\us=(Qt ns at_ L j).map V.int/\∃o,σ4=[o,some (.int L),some (.ref a),some (.int at_)]):=⟨_,fun _ _ _ _=>Iff.rfl⟩
  refine Iu_ Pc ((hPc _ _ _ _).mpr ⟨rfl,rfl,none,rfl⟩) (by omega) (fun j us σ4 H4 _ h4=>?_) (fun j us σ4 H4 hj h4=>?_) (fun us σ4 H4 h4 D hD=>?_)
  ·obtain⟨_,rfl,_⟩:=(hPc _ _ _ _).mp h4
   rw[List.length_map,O2];omega
  ·obtain⟨rfl,rfl,o4,rfl⟩:=(hPc _ _ _ _).mp h4
   rw[Int.zero_add]
   walk_at "rd"
   refine⟨a,ns,at_+j,by push_cast;rfl,hs,_,rfl,by show CDiv _ _;unfold CDiv;omega,by omega,(hPc _ _ _ _).mpr ⟨rfl,?_,_,rfl⟩⟩
   unfold Qt
   rw[List.range_succ,List.map_append,List.map_append]
   rfl
  ·obtain⟨rfl,rfl,o4,rfl⟩:=(hPc _ _ _ _).mp h4
   exact⟨D,rfl,_,.inl ⟨SqL.of Ae,fun t ht=>k t _ ((Same.new hD).newT ht) Ae⟩⟩
def Wn (K:PySem.W.Frag):Sp:=fun vs H Q _=>∃(a l:Addr) (ns:List Int) (at_ L:Nat) (rs:List V) (es:Bk),vs=[.ref a,.int at_,.int L,.ref l]/\SqL K H a (ns.map V.int)/\1<=L/\H l=some (.lst rs)/\G1 H rs es/\es.length<=200/\∀t n H',Same H H'->(∀j,j<n->Qt ns at_ L (1+cell ns at_%5).toNat++List.replicate j 0∈es.map (·.1))->Qt ns at_ L (1+cell ns at_%5).toNat++List.replicate n 0∉es.map (·.1)->n<=es.length->H' t=some (.tup ((Qt ns at_ L (1+cell ns at_%5).toNat++List.replicate n 0).map V.int))->Q (.ref t) H'
theorem RU   (F:Fun K "_law_new_word" "_law_new_word" C1 f fd)(T:Txt mg)
  (W:Own K mg C_j7 C_j9 C_jj C_ja C_j1 C_j4)
  (Z:Exs K mg C_j8 C_j5 C_j6 C_j3 C_j2 C_j0)
   (Au:FnOk P w K mg base CX0 1 AI AK ["script","k"] (Md K)) (Ap:Fun K "_law_cell" "_law_cell" Ci AI AK) (Av:Binds K AK ["script","k"] []) (Aw:mg "_law_cell"=some (.ref AI))
   (G2:FnOk P w K mg base CX0 2 Em Hy ["script","at","letters","many"] (TR K)) (Fb:Fun K "_law_word" "_law_word" ET Em Hy) (G3:Binds K Hy ["script","at","letters","many"] []) (G4:mg "_law_word"=some (.ref Em))
  : FnOk P w K mg base CX0 3 f fd ["script","at","letters","heard"] (Wn K):=by
 refine F.ok HM (fun vs H Q E h=>?_) (fun cdv A outer s H vs Q E hr h=>?_)
 ·obtain⟨a,l,ns,at_,L,rs,es,rfl,_⟩:=h;rfl
 ·obtain⟨a,l,ns,at_,L,rs,es,rfl,hs,l1,hl1,ht,he,k⟩:=h
  have hl:=Ao
  refine⟨_,(Ad (AB (i:=4) HM.nd (Aj G2 (hr.mono (by decide)) rfl G4 Fb.kp G3 .nil Ax (Aa (pvD 0) (Aa (pvD 1) (Aa (pvD 2) (Aa (Bt (opD0 FE) Ai (Bt (opD Fn) (Aj Au (hr.mono (by decide)) rfl Aw Ap.kp Av .nil Ax (Aa (pvD 0) (Aa (pvD 1) Af))) Ai)) Af))))))
   (Ad (Wu PassesOwn.never (ptT (Ay (Kb_ (hu9 hr)) (pvD 4) (Lo rfl (OG rfl) (cp:=JI) True.intro (Gq (pvD 3)) (fun _ _ _ _=>(B3 (i:=0) Nd rfl (Or.inl rfl))) (fun _ _ _ _=>OF) (fun _ _ _ _=>(BF (ixTD (WE (K:=K) rfl)) (pvD 0) Ai))) rfl))
   (Ac (AB (i:=4) HM.nd (Bt J4 (pvD 4) (GJ (Aa Ai Af))))))
   (Ac (Ar (pvD 4))))),?_⟩
  walk_at "rd"
  have c0:=Int.emod_nonneg (cell ns at_) (show (5:Int)≠0 by decide)
  have c1:=Int.emod_lt_of_pos (cell ns at_) (show (0:Int)<5 by decide)
  obtain⟨n0,hn0⟩:∃n0:Nat,1+cell ns at_%5=(n0:Int):=⟨(1+cell ns at_%5).toNat,by omega⟩
  rw[hn0,Int.toNat_natCast]at k
  have hn5:n0<=5:=by omega
  refine⟨a,ns,at_,rfl,hs,_,rfl,by decide,a,ns,at_,L,n0,by rw[hn0],hs,l1,by omega,fun t H1 s1 ht1=>?_⟩
  have hwl:=O2 ns at_ L n0
  generalize Qt ns at_ L n0=v at k ht1 hwl
  obtain⟨Pv,hPv⟩:∃Pv:Nat->St->Hp->Prop,∀m σ' H',Pv m σ' H'↔(∃(n:Nat) (t:Addr),Same H H'/\m=es.length+1-n/\n<=es.length/\(∀j,j<n->v++List.replicate j 0∈es.map (·.1))/\H' t=some (.tup ((v++List.replicate n 0).map V.int))/\σ'=[some (.ref a),some (.int at_),some (.int L),some (.ref l),some (.ref t)]):=⟨_,fun _ _ _=>Iff.rfl⟩
  refine EH_ Pv ⟨_,(hPv _ _ _).mpr ⟨0,t,s1,rfl,by omega,fun j hj=>absurd hj (Nat.not_lt_zero _),by simpa using ht1,rfl⟩⟩ fun m σ' H' h'=>?_
  obtain⟨n,t2,s2,hm,hn,hall,ht2,rfl⟩:=(hPv _ _ _).mp h'
  walk_at "rd"
  have ht':=ht.mono (TK.of s2)
  refine⟨⟨_,SqL.of (s2 _ _ hl1)⟩,Gd_ (xs:=rs) (fun i us σ4 H4=>H4=H'/\As K H' us ((es.take i).map (·.1))/\∃o,σ4=[o]) ⟨rfl,As.nil,none,rfl⟩ (by rw[ht.1];omega) (fun i us σ4 H4 hi h4=>⟨by rw[h4.1];exact SqL.of (s2 _ _ hl1),by rw[h4.2.1.1,List.length_map,List.length_take];omega⟩) (fun i x us σ4 H4 hx h4=>?_) (fun us σ4 H4 h4 D hD=>?_)⟩
  ·obtain⟨rfl,hus,o,rfl⟩:=h4
   have hi:i<es.length:=by rw[<-ht.1];exact (List.getElem?_eq_some_iff.mp hx).1
   have hei:es[i]?=some es[i]:=by simp[hi]
   obtain⟨q,wt,e1,e2,e3⟩:=ht'.2 i _ hei
   rw[hx]at e1
   cases e1
   have et:es.take (i+1)=es.take i++[es[i]]:=by rw[List.take_add_one,hei];rfl
   walk_at "rd"
   refine⟨_,SqT.of e2,_,rfl,?_,_,rfl⟩
   rw[et,List.map_append]
   exact hus.snoc e3
  ·obtain⟨rfl,hus,o,rfl⟩:=h4
   rw[ht.1,List.take_length]at hus
   have sD:=Same.new hD (o:=.lst us)
   refine⟨D,rfl,_,SqL.of Ae,_,_,hus.mono (TK.of sD),SqT.of (sD _ _ ht2),ite2 (fun hin=>?_) (fun hni=>?_)⟩
   ·refine⟨fun σ2 H2=>∃m',m'<m/\Pv m' σ2 H2,fun _ _ z=>z,by omega,fun q hq=>?_⟩
    have sq:=Same.new hq (o:=.tup [V.int 0])
    refine Kq.ofS ((sD.trans sq) _ _ ht2) Ae (by simp;omega) fun t3 H3 s3 ht3=>?_
    have hall':∀j,j<n+1->v++List.replicate j 0∈es.map (·.1):=fun j hj=>by
     by_cases z:j<n
     ·exact hall j z
     ·rw[show j=n by omega];exact hin
    have hle:=FA_ hall'
    rw[List.length_map]at hle
    refine⟨es.length+1-(n+1),by omega,(hPv _ _ _).mpr ⟨n+1,t3,s2.trans ((sD.trans sq).trans s3),rfl,hle,hall',?_,rfl⟩⟩
    rw[ht3,List.replicate_succ',<-List.append_assoc]
    simp only[List.map_append,List.map_cons,List.map_nil]
   ·exact k t2 n _ (s2.trans sD) hall hni hn (sD _ _ ht2)
def addS (b:Bool)(x acc:Str):Str:=if b=true then acc++x else acc
theorem TU    (h:acc.length+x.length<=N):if b=true then acc.length+x.length<=N/\acc++x=addS b x acc else acc=addS b x acc:=by
 unfold addS;cases b<;>simp[h]
def O3 (K:PySem.W.Frag)(OT BW BM ND CO:Addr):Sp:=fun vs H Q _=>(vs=[.non]/\Q .non H) \/ ∃(ea C:Addr),vs=[.ref ea]/\H ea=some (excO ea C)/\((C=OT/\Q (.str "turn value") H)\/(C=BW/\Q (.str "word value") H)\/(C=BM/\Q (.str "mark value") H)\/(C=ND/\Q (.str "alike value") H)\/(C=CO/\Q (.str "twice value") H))
theorem Qu   (F:Fun K "_law_told_kind" "_law_told_kind" BI f fd)(T:Txt mg)
  (W:Own K mg C_j7 C_j9 C_jj C_ja C_j1 C_j4)
  (Z:Exs K mg C_j8 C_j5 C_j6 C_j3 C_j2 C_j0)
  : FnOk P w K mg base CX0 1 f fd ["e"] (O3 K C_j3 C_j5 C_j6 C_j2 C_j0):=by
 refine F.ok BU (fun vs H Q E h=>?_) (fun cdv A outer s H vs Q E hr h=>?_)
 ·rcases h with ⟨rfl,_⟩|⟨ea,C,rfl,_⟩<;>rfl
 ·have hl:=Ao
  refine⟨_,(Ad (Cu (ptT (Ay V8 (pvD 0) F3 (Bg _)))
   (Ac (Ar F3))
   AQ)
   (Ad (AB (i:=1) BU.nd Bm)
   (Ir (Cu (ptB (NB (C3 F6 rfl T.isinstance PyProof.Rows.boot_isinstance (Aa (pvD 0) (Aa (Li (v:=.ref C_j3) rfl Z.m_j3 rfl) Af)))))
   (Ac (AB (i:=1) BU.nd (Bt Ig (pvD 1) Bm)))
   AQ)
   (Ir (Cu (ptB (NB (C3 F6 rfl T.isinstance PyProof.Rows.boot_isinstance (Aa (pvD 0) (Aa (Li (v:=.ref C_j5) rfl Z.m_j5 rfl) Af)))))
   (Ac (AB (i:=1) BU.nd (Bt Ig (pvD 1) Bm)))
   AQ)
   (Ir (Cu (ptB (NB (C3 F6 rfl T.isinstance PyProof.Rows.boot_isinstance (Aa (pvD 0) (Aa (Li (v:=.ref C_j6) rfl Z.m_j6 rfl) Af)))))
   (Ac (AB (i:=1) BU.nd (Bt Ig (pvD 1) Bm)))
   AQ)
   (Ir (Cu (ptB (NB (C3 F6 rfl T.isinstance PyProof.Rows.boot_isinstance (Aa (pvD 0) (Aa (Li (v:=.ref C_j2) rfl Z.m_j2 rfl) Af)))))
   (Ac (AB (i:=1) BU.nd (Bt Ig (pvD 1) Bm)))
   AQ)
   (Ir (Cu (ptB (NB (C3 F6 rfl T.isinstance PyProof.Rows.boot_isinstance (Aa (pvD 0) (Aa (Li (v:=.ref C_j0) rfl Z.m_j0 rfl) Af)))))
   (Ac (AB (i:=1) BU.nd (Bt Ig (pvD 1) Bm)))
   AQ)
   (Ir (Cu (ptB (NB (C3 F6 rfl T.isinstance PyProof.Rows.boot_isinstance (Aa (pvD 0) (Aa (Ib_ (v:=.ty "ValueError") rfl T.ValueError L2.boot_ValueError rfl) Af)))))
   (Ac (AB (i:=1) BU.nd (Bt Ig (pvD 1) Bm)))
   AQ)
   (Ac (Ar (pvD 1))))))))))),?_⟩
  rcases h with ⟨rfl,k⟩|⟨ea,C,rfl,he,k⟩
  ·walk_at "rd"
   exact k
  ·have hk:∃(b0 b1 b2 b3 b4:Bool),ExcCls K C/\PySem.W.kitOne K (.ref C) (.ref C_j3)=some b0/\PySem.W.kitOne K (.ref C) (.ref C_j5)=some b1/\PySem.W.kitOne K (.ref C) (.ref C_j6)=some b2/\PySem.W.kitOne K (.ref C) (.ref C_j2)=some b3/\PySem.W.kitOne K (.ref C) (.ref C_j0)=some b4/\PySem.W.kitOne K (.ref C) (.type "ValueError")=some true/\(addS b0 "turn " "").length<=6/\(addS b1 "word " (addS b0 "turn " "")).length<=6/\(addS b2 "mark " (addS b1 "word " (addS b0 "turn " ""))).length<=6/\(addS b3 "alike " (addS b2 "mark " (addS b1 "word " (addS b0 "turn " "")))).length<=6/\(addS b4 "twice " (addS b3 "alike " (addS b2 "mark " (addS b1 "word " (addS b0 "turn " ""))))).length<=6/\Q (.str (addS b4 "twice " (addS b3 "alike " (addS b2 "mark " (addS b1 "word " (addS b0 "turn " ""))))++("value" : Str))) H:=by
    rcases k with ⟨rfl,k⟩|⟨rfl,k⟩|⟨rfl,k⟩|⟨rfl,k⟩|⟨rfl,k⟩
    ·exact⟨_,_,_,_,_,Z.c_j3,Z.k_j3_j3,Z.k_j3_j5,Z.k_j3_j6,Z.k_j3_j2,Z.k_j3_j0,Z.v_j3,by decide +kernel,by decide +kernel,by decide +kernel,by decide +kernel,by decide +kernel,k⟩
    ·exact⟨_,_,_,_,_,Z.c_j5,Z.k_j5_j3,Z.k_j5_j5,Z.k_j5_j6,Z.k_j5_j2,Z.k_j5_j0,Z.v_j5,by decide +kernel,by decide +kernel,by decide +kernel,by decide +kernel,by decide +kernel,k⟩
    ·exact⟨_,_,_,_,_,Z.c_j6,Z.k_j6_j3,Z.k_j6_j5,Z.k_j6_j6,Z.k_j6_j2,Z.k_j6_j0,Z.v_j6,by decide +kernel,by decide +kernel,by decide +kernel,by decide +kernel,by decide +kernel,k⟩
    ·exact⟨_,_,_,_,_,Z.c_j2,Z.k_j2_j3,Z.k_j2_j5,Z.k_j2_j6,Z.k_j2_j2,Z.k_j2_j0,Z.v_j2,by decide +kernel,by decide +kernel,by decide +kernel,by decide +kernel,by decide +kernel,k⟩
    ·exact⟨_,_,_,_,_,Z.c_j0,Z.k_j0_j3,Z.k_j0_j5,Z.k_j0_j6,Z.k_j0_j2,Z.k_j0_j0,Z.v_j0,by decide +kernel,by decide +kernel,by decide +kernel,by decide +kernel,by decide +kernel,k⟩
   obtain⟨b0,b1,b2,b3,b4,hc,k0,k1,k2,k3,k4,kv,l0,l1,l2,l3,l4,q⟩:=hk
   walk_at "rd"
   have q0:(("" : Str)).length<=6:=by decide +kernel
   have w0:("turn " : Str).length<=6:=by decide +kernel
   have w1:("word " : Str).length<=6:=by decide +kernel
   have w2:("mark " : Str).length<=6:=by decide +kernel
   have w3:("alike " : Str).length<=6:=by decide +kernel
   have w4:("twice " : Str).length<=6:=by decide +kernel
   have w5:("value" : Str).length<=6:=by decide +kernel
   refine⟨fun σ' H'=>σ'=[some (.ref ea),some (.str (addS b0 "turn " ("" : Str)))]/\H'=H,?_,fun σ' H' hh=>?_⟩
   ·walk_at "rd"
    exact⟨_,_,.exc he hc,P4,b0,k0,TU (by omega)⟩
   obtain⟨rfl,hH⟩:=hh
   have hH:=hH.symm
   subst hH
   refine⟨fun σ' H'=>σ'=[some (.ref ea),some (.str (addS b1 "word " (addS b0 "turn " ("" : Str))))]/\H'=H,?_,fun σ' H' hh=>?_⟩
   ·walk_at "rd"
    exact⟨_,_,.exc he hc,P4,b1,k1,TU (by omega)⟩
   obtain⟨rfl,hH⟩:=hh
   have hH:=hH.symm
   subst hH
   refine⟨fun σ' H'=>σ'=[some (.ref ea),some (.str (addS b2 "mark " (addS b1 "word " (addS b0 "turn " ("" : Str)))))]/\H'=H,?_,fun σ' H' hh=>?_⟩
   ·walk_at "rd"
    exact⟨_,_,.exc he hc,P4,b2,k2,TU (by omega)⟩
   obtain⟨rfl,hH⟩:=hh
   have hH:=hH.symm
   subst hH
   refine⟨fun σ' H'=>σ'=[some (.ref ea),some (.str (addS b3 "alike " (addS b2 "mark " (addS b1 "word " (addS b0 "turn " ("" : Str))))))]/\H'=H,?_,fun σ' H' hh=>?_⟩
   ·walk_at "rd"
    exact⟨_,_,.exc he hc,P4,b3,k3,TU (by omega)⟩
   obtain⟨rfl,hH⟩:=hh
   have hH:=hH.symm
   subst hH
   refine⟨fun σ' H'=>σ'=[some (.ref ea),some (.str (addS b4 "twice " (addS b3 "alike " (addS b2 "mark " (addS b1 "word " (addS b0 "turn " ("" : Str)))))))]/\H'=H,?_,fun σ' H' hh=>?_⟩
   ·walk_at "rd"
    exact⟨_,_,.exc he hc,P4,b4,k4,TU (by omega)⟩
   obtain⟨rfl,hH⟩:=hh
   have hH:=hH.symm
   subst hH
   refine⟨fun σ' H''=>σ'=[some (.ref ea),some (.str ((addS b4 "twice " (addS b3 "alike " (addS b2 "mark " (addS b1 "word " (addS b0 "turn " ("" : Str))))))++("value" : Str)))]/\H''=H,?_,fun σ' H'' hh=>?_⟩
   ·walk_at "rd"
    refine⟨_,_,.exc he hc,JT_,true,kv,?_⟩
    rw[if_pos rfl]
    omega
   obtain⟨rfl,hH⟩:=hh
   have hH:=hH.symm
   subst hH
   walk_at "rd"
   exact q
def QS (H:Hp)(Q:VK)(x:Str):Prop:=∀H',Same H H'->Q (.str x) H'
def Zp (OT BW BM ND CO:Addr)(H:Hp)(Q:VK)(C:Addr):Prop:=(C=OT/\QS H Q "turn value")\/(C=BW/\QS H Q "word value")\/(C=BM/\QS H Q "mark value")\/(C=ND/\QS H Q "alike value")\/(C=CO/\QS H Q "twice value")
theorem Zp.told    (k:Zp OT BW BM ND CO H Q C)(s:Same H H'):(C=OT/\Q (.str "turn value") H')\/(C=BW/\Q (.str "word value") H')\/(C=BM/\Q (.str "mark value") H')\/(C=ND/\Q (.str "alike value") H')\/(C=CO/\Q (.str "twice value") H'):=by
 rcases k with ⟨e,k⟩|⟨e,k⟩|⟨e,k⟩|⟨e,k⟩|⟨e,k⟩
 ·exact .inl ⟨e,k _ s⟩
 ·exact .inr (.inl ⟨e,k _ s⟩)
 ·exact .inr (.inr (.inl ⟨e,k _ s⟩))
 ·exact .inr (.inr (.inr (.inl ⟨e,k _ s⟩)))
 ·exact .inr (.inr (.inr (.inr ⟨e,k _ s⟩)))
def JU (K:PySem.W.Frag)(CS CA CB:Addr):Sp:=fun vs H Q _=>∃(p a:Addr) (ad:AD) (s:AS) (wv:V) (x:Wish) (B:Nat) (m:Int),vs=[.ref p,.int m]/\SAt K CS CA CB H p a ad s wv/\Cf K H s.L wv x/\WOk B s x/\Bd B s/\s.es.length<=100000/\(x.tag ≠ "ask" -> QS H Q "turn value")/\∀c,x=.ask c->¬ (0<=m/\m<=1000000000)/\QS H Q "mark value"
theorem Xi   (F:Fun K "_law_hears" "_law_hears" D3 f fd)(T:Txt mg)
  (W:Own K mg C_j7 C_j9 C_jj C_ja C_j1 C_j4)
  (Z:Exs K mg C_j8 C_j5 C_j6 C_j3 C_j2 C_j0)
   (DU:FnOk P w K mg base (CXe P w) 14 Bw Es ["self","mark"] (Xg K C_j4 C_j1 C_j7 C_j3 C_j6)) (DV:Fun K "hear" "SayAsker.hear" Co Bw Es) (DW:Binds K Es ["self","mark"] []) (DX:Meth K C_j4 "hear" Bw)
   (BK:FnOk P w K mg base CX0 1 A0 BY ["e"] (O3 K C_j3 C_j5 C_j6 C_j2 C_j0)) (Bi:Fun K "_law_told_kind" "_law_told_kind" BI A0 BY) (BL:Binds K BY ["e"] []) (BN:mg "_law_told_kind"=some (.ref A0))
  : FnOk P w K mg base CX0 15 f fd ["asker","mark"] (JU K C_j4 C_j1 C_j7):=by
 refine F.ok HX (fun vs H Q E h=>?_) (fun cdv A outer s H vs Q E hr h=>?_)
 ·obtain⟨p,a,ad,s,wv,x,B,m,rfl,_⟩:=h;rfl
 ·obtain⟨p,a,ad,s,wv,x,B,m,rfl,S,hw,ok,bd,hz,kT,kM⟩:=h
  obtain⟨⟨dx,L',hp⟩,_⟩:=id S
  have hl:=Ao
  refine⟨_,(Ad (AB (i:=2) HX.nd F3)
   (Ir (EG_ (i:=3) (E:=(fun σ cls d H1=>σ=[some (.ref p),some (.int m),some .non,none]/\d=none/\Same H H1/\∃C,cls=.ref C/\Zp C_j3 C_j5 C_j6 C_j2 C_j0 H Q C)) HX.nd rfl rfl rfl Z.m_j8 rfl rfl rfl (fun xe pn hx=>(Ac (A9 (Cx_ (pvD 0) W.cl_j4 DX DU (hr.mono (by decide)) DW .nil hx (Aa (pvD 1) Af)))))
   (fun ea pn=>(Ac (AB (i:=2) HX.nd (pvD 3)))))
   (Ac (Ar (Aj BK (hr.mono (by decide)) rfl BN Bi.kp BL .nil Ax (Aa (pvD 2) Af)))))),?_⟩
  walk_at "rd"
  refine⟨fun σ' H'=>∃(ea C:Addr),σ'=[some (.ref p),some (.int m),some (.ref ea),none]/\H' ea=some (excO ea C)/\Same H H'/\Zp C_j3 C_j5 C_j6 C_j2 C_j0 H Q C,?_,fun σ1 H1 h1=>?_⟩
  ·walk_at "rd"
   refine⟨⟨_,_,hp,by kernel_rfl,p,a,ad,s,wv,x,B,m,rfl,S,hw,ok,bd,hz,fun hx=>⟨rfl,Same.refl _,_,rfl,.inl ⟨rfl,kT hx⟩⟩,fun c hc=>⟨fun _ H1 s1=>⟨rfl,s1,_,rfl,.inr (.inr (.inl ⟨rfl,(kM c hc).2⟩))⟩,fun h0 h9=>absurd ⟨h0,h9⟩ (kM c hc).1⟩⟩,fun σ1 cls H1 h1=>?_⟩
   ·obtain⟨rfl,s1,C,rfl,hk⟩:=h1
    have hx:PySem.W.exmOne K (.ref C) (.ref C_j8)=some true:=by
     rcases id hk with ⟨rfl,_⟩|⟨rfl,_⟩|⟨rfl,_⟩|⟨rfl,_⟩|⟨rfl,_⟩
     ·exact Z.e_j3
     ·exact Z.e_j5
     ·exact Z.e_j6
     ·exact Z.e_j2
     ·exact Z.e_j0
    refine⟨C,rfl,hx,fun ea hea=>?_⟩
    walk_at "rd"
    exact⟨C,Ae,s1.newT hea,hk⟩
  ·obtain⟨ea,C,rfl,hea,s1,hk⟩:=h1
   walk_at "rd"
   exact .inr ⟨ea,C,rfl,hea,hk.told s1⟩
def Oe (K:PySem.W.Frag)(CS CA CB:Addr):Sp:=fun vs H Q _=>∃(p a:Addr) (ad:AD) (s:AS) (wv:V) (x:Wish),vs=[.ref p]/\SAt K CS CA CB H p a ad s wv/\Cf K H s.L wv x/\x.tag ≠ "show" /\ QS H Q "turn value"
theorem Vh   (F:Fun K "_law_agrees" "_law_agrees" Eh f fd)(T:Txt mg)
  (W:Own K mg C_j7 C_j9 C_jj C_ja C_j1 C_j4)
  (Z:Exs K mg C_j8 C_j5 C_j6 C_j3 C_j2 C_j0)
   (BK:FnOk P w K mg base CX0 1 A0 BY ["e"] (O3 K C_j3 C_j5 C_j6 C_j2 C_j0)) (Bi:Fun K "_law_told_kind" "_law_told_kind" BI A0 BY) (BL:Binds K BY ["e"] []) (BN:mg "_law_told_kind"=some (.ref A0))
   (De:FnOk P w K mg base (CXe P w) 3 Bj DY ["self"] (TQ K C_j4 C_j1 C_j7 C_j3)) (Df:Fun K "agree" "SayAsker.agree" Cc Bj DY) (Dh:Binds K DY ["self"] []) (Di:Meth K C_j4 "agree" Bj)
  : FnOk P w K mg base CX0 4 f fd ["asker"] (Oe K C_j4 C_j1 C_j7):=by
 refine F.ok Hi (fun vs H Q E h=>?_) (fun cdv A outer s H vs Q E hr h=>?_)
 ·obtain⟨p,a,ad,s,wv,x,rfl,_⟩:=h;rfl
 ·obtain⟨p,a,ad,s,wv,x,rfl,S,hw,htg,kT⟩:=h
  obtain⟨⟨dx,L',hp⟩,_⟩:=id S
  have hl:=Ao
  refine⟨_,(Ad (AB (i:=1) Hi.nd F3)
   (Ir (EG_ (i:=2) (E:=(fun σ cls d H1=>σ=[some (.ref p),some .non,none]/\d=none/\Same H H1/\∃C,cls=.ref C/\Zp C_j3 C_j5 C_j6 C_j2 C_j0 H Q C)) Hi.nd rfl rfl rfl Z.m_j8 rfl rfl rfl (fun xe pn hx=>(Ac (A9 (Fe_ (pvD 0) W.cl_j4 Di De (hr.mono (by decide)) Dh .nil hx))))
   (fun ea pn=>(Ac (AB (i:=1) Hi.nd (pvD 2)))))
   (Ac (Ar (Aj BK (hr.mono (by decide)) rfl BN Bi.kp BL .nil Ax (Aa (pvD 1) Af)))))),?_⟩
  walk_at "rd"
  refine⟨fun σ' H'=>∃(ea C:Addr),σ'=[some (.ref p),some (.ref ea),none]/\H' ea=some (excO ea C)/\Same H H'/\Zp C_j3 C_j5 C_j6 C_j2 C_j0 H Q C,?_,fun σ1 H1 h1=>?_⟩
  ·walk_at "rd"
   refine⟨⟨_,_,hp,by kernel_rfl,p,a,ad,s,wv,x,rfl,S,hw,fun hx=>⟨rfl,Same.refl _,_,rfl,.inl ⟨rfl,kT⟩⟩,fun mm ws hx=>absurd (by rw[hx];rfl) htg⟩,fun σ1 cls H1 h1=>?_⟩
   ·obtain⟨rfl,s1,C,rfl,hk⟩:=h1
    have hx:PySem.W.exmOne K (.ref C) (.ref C_j8)=some true:=by
     rcases id hk with ⟨rfl,_⟩|⟨rfl,_⟩|⟨rfl,_⟩|⟨rfl,_⟩|⟨rfl,_⟩
     ·exact Z.e_j3
     ·exact Z.e_j5
     ·exact Z.e_j6
     ·exact Z.e_j2
     ·exact Z.e_j0
    refine⟨C,rfl,hx,fun ea hea=>?_⟩
    walk_at "rd"
    exact⟨C,Ae,s1.newT hea,hk⟩
  ·obtain⟨ea,C,rfl,hea,s1,hk⟩:=h1
   walk_at "rd"
   exact .inr ⟨ea,C,rfl,hea,hk.told s1⟩
def Hz (K:PySem.W.Frag)(CS CA CB:Addr):Sp:=fun vs H Q _=>∃(p a t:Addr) (ad:AD) (s:AS) (wv:V) (x:Wish) (B:Nat) (w:List Int) (m:Int),vs=[.ref p,.ref t,.int m]/\SAt K CS CA CB H p a ad s wv/\Cf K H s.L wv x/\WOk B s x/\Bd B s/\s.es.length<=100000/\H t=some (.tup (w.map V.int))/\w.length<=600/\(x.tag ≠ "show" -> QS H Q "turn value")/\∀mm ws,x=.shown mm ws->(w=[]\/isW s.L w=false->QS H Q "word value")/\(w ≠ []->isW s.L w=true->¬ (0<=m/\m<=1000000000)->QS H Q "mark value")/\(w ≠ []->isW s.L w=true->0<=m->m<=1000000000->(lsay mm ws w=m->QS H Q "alike value")/\(lsay mm ws w≠m->w∈s.es.map (·.1)/\QS H Q "twice value"))
theorem TV   (F:Fun K "_law_differs" "_law_differs" CG f fd)(T:Txt mg)
  (W:Own K mg C_j7 C_j9 C_jj C_ja C_j1 C_j4)
  (Z:Exs K mg C_j8 C_j5 C_j6 C_j3 C_j2 C_j0)
   (BK:FnOk P w K mg base CX0 1 A0 BY ["e"] (O3 K C_j3 C_j5 C_j6 C_j2 C_j0)) (Bi:Fun K "_law_told_kind" "_law_told_kind" BI A0 BY) (BL:Binds K BY ["e"] []) (BN:mg "_law_told_kind"=some (.ref A0))
   (CT:FnOk P w K mg base (CXe P w) 14 Ba Dy ["self","word","mark"] (Xh K C_j4 C_j1 C_j7 C_j3 C_j5 C_j6 C_j2 C_j0)) (CU:Fun K "differ" "SayAsker.differ" BV Ba Dy) (CV:Binds K Dy ["self","word","mark"] []) (CW:Meth K C_j4 "differ" Ba)
  : FnOk P w K mg base CX0 15 f fd ["asker","word","mark"] (Hz K C_j4 C_j1 C_j7):=by
 refine F.ok Gu (fun vs H Q E h=>?_) (fun cdv A outer s H vs Q E hr h=>?_)
 ·obtain⟨p,a,t,ad,s,wv,x,B,w,m,rfl,_⟩:=h;rfl
 ·obtain⟨p,a,t,ad,s,wv,x,B,w,m,rfl,S,hw,ok,bd,hz,ht,hz2,kT,kD⟩:=h
  obtain⟨⟨dx,L',hp⟩,_⟩:=id S
  have hl:=Ao
  refine⟨_,(Ad (AB (i:=3) Gu.nd F3)
   (Ir (EG_ (i:=4) (E:=(fun σ cls d H1=>σ=[some (.ref p),some (.ref t),some (.int m),some .non,none]/\d=none/\Same H H1/\∃C,cls=.ref C/\Zp C_j3 C_j5 C_j6 C_j2 C_j0 H Q C)) Gu.nd rfl rfl rfl Z.m_j8 rfl rfl rfl (fun xe pn hx=>(Ac (A9 (Cx_ (pvD 0) W.cl_j4 CW CT (hr.mono (by decide)) CV .nil hx (Aa (pvD 1) (Aa (pvD 2) Af))))))
   (fun ea pn=>(Ac (AB (i:=3) Gu.nd (pvD 4)))))
   (Ac (Ar (Aj BK (hr.mono (by decide)) rfl BN Bi.kp BL .nil Ax (Aa (pvD 3) Af)))))),?_⟩
  walk_at "rd"
  refine⟨fun σ' H'=>∃(ea C:Addr),σ'=[some (.ref p),some (.ref t),some (.int m),some (.ref ea),none]/\H' ea=some (excO ea C)/\Same H H'/\Zp C_j3 C_j5 C_j6 C_j2 C_j0 H Q C,?_,fun σ1 H1 h1=>?_⟩
  ·walk_at "rd"
   refine⟨⟨_,_,hp,by kernel_rfl,p,a,t,ad,s,wv,x,B,w,m,rfl,S,hw,ok,bd,hz,ht,hz2,fun hx=>⟨rfl,Same.refl _,_,rfl,.inl ⟨rfl,kT hx⟩⟩,fun mm ws hx=>⟨fun hb H1 s1=>⟨rfl,s1,_,rfl,.inr (.inl ⟨rfl,(kD mm ws hx).1 hb⟩)⟩,fun hne hv hm H1 s1=>⟨rfl,s1,_,rfl,.inr (.inr (.inl ⟨rfl,(kD mm ws hx).2.1 hne hv hm⟩))⟩,fun hne hv h0 h9=>⟨fun he H1 s1=>⟨rfl,s1,_,rfl,.inr (.inr (.inr (.inl ⟨rfl,((kD mm ws hx).2.2 hne hv h0 h9).1 he⟩)))⟩,fun he hin H1 s1=>⟨rfl,s1,_,rfl,.inr (.inr (.inr (.inr ⟨rfl,(((kD mm ws hx).2.2 hne hv h0 h9).2 he).2⟩)))⟩,fun he hin=>absurd (((kD mm ws hx).2.2 hne hv h0 h9).2 he).1 hin⟩⟩⟩,fun σ1 cls H1 h1=>?_⟩
   ·obtain⟨rfl,s1,C,rfl,hk⟩:=h1
    have hx:PySem.W.exmOne K (.ref C) (.ref C_j8)=some true:=by
     rcases id hk with ⟨rfl,_⟩|⟨rfl,_⟩|⟨rfl,_⟩|⟨rfl,_⟩|⟨rfl,_⟩
     ·exact Z.e_j3
     ·exact Z.e_j5
     ·exact Z.e_j6
     ·exact Z.e_j2
     ·exact Z.e_j0
    refine⟨C,rfl,hx,fun ea hea=>?_⟩
    walk_at "rd"
    exact⟨C,Ae,s1.newT hea,hk⟩
  ·obtain⟨ea,C,rfl,hea,s1,hk⟩:=h1
   walk_at "rd"
   exact .inr ⟨ea,C,rfl,hea,hk.told s1⟩
theorem Goes.det   (g:Goes s a x)(h:Goes s b y):a=b/\x=y:=by
 induction g with
 |stop e=>
  cases h with
  |stop e'=>rw[e]at e';cases e';exact⟨rfl,rfl⟩
  |more e' _=>rw[e]at e';cases e'
 |more e _ ih=>
  cases h with
  |stop e'=>rw[e]at e';cases e'
  |more e' h'=>rw[e]at e';cases e';exact ih h'
def O4 (ns:List Int)(L turn:Nat):List Int:=Qt ns (3+turn) L (1+cell ns (3+turn)%5).toNat
def NJ (ns:List Int)(turn:Nat)(s:AS)(x:Wish)(s':AS)(x':Wish):Prop:=match x with
 |.ask c=>Goes {s with es:=s.es++[(c,Bt_ (bigF ns (3+turn)))]} s' x'
 |.shown mm ws=>(cell ns (4+turn)%9=4/\s'=s/\x'=.done mm ws)\/(cell ns (4+turn)%9≠4/\∃n,(∀j,j<n->O4 ns s.L turn++List.replicate j 0∈s.es.map (·.1))/\O4 ns s.L turn++List.replicate n 0∉s.es.map (·.1)/\Goes {s with es:=s.es++[(O4 ns s.L turn++List.replicate n 0,(lsay mm ws (O4 ns s.L turn++List.replicate n 0)+1)%1000000001)]} s' x')
 |_=>s'=s/\x'=x
theorem FB_ {v:List Int}{ks:List (List Int)}{n m:Nat}(h1:∀j,j<n->v++List.replicate j 0∈ks)(h2:v++List.replicate n 0∉ks)(g1:∀j,j<m->v++List.replicate j 0∈ks)(g2:v++List.replicate m 0∉ks):n=m:=by
 rcases Nat.lt_trichotomy n m with h|h|h
 ·exact absurd (g1 n h) h2
 ·exact h
 ·exact absurd (h1 m h) g2
theorem NJ.det     (g:NJ ns turn s x a y)(h:NJ ns turn s x b z):a=b/\y=z:=by
 cases x with
 |ask c=>exact Goes.det g h
 |shown mm ws=>
  rcases g with ⟨_,rfl,rfl⟩|⟨hc,n,g1,g2,g⟩
  ·rcases h with ⟨_,rfl,rfl⟩|⟨hc',_⟩
   ·exact⟨rfl,rfl⟩
   ·contradiction
  ·rcases h with ⟨hc',_⟩|⟨_,m,h1,h2,h⟩
   ·contradiction
   ·have e:=FB_ g1 g2 h1 h2
    subst e
    exact Goes.det g h
 |done mm ws=>obtain⟨rfl,rfl⟩:=g;obtain⟨rfl,rfl⟩:=h;exact⟨rfl,rfl⟩
 |spent c=>obtain⟨rfl,rfl⟩:=g;obtain⟨rfl,rfl⟩:=h;exact⟨rfl,rfl⟩
inductive DRun (ns:List Int)(L most:Nat):Nat->AS->Wish->Prop where
 | zero {s:AS} {x:Wish}:Goes (s039 L most) s x->DRun ns L most 0 s x
 | succ {n:Nat} {s s':AS} {x x':Wish}:DRun ns L most n s x->NJ ns n s x s' x'->DRun ns L most (n+1) s' x'
theorem DRun.det     (g:DRun ns L most n s x)(h:DRun ns L most n s' x'):s=s'/\x=x':=by
 induction n generalizing s s' x x' with
 |zero=>
  cases g with
  |zero g=>cases h with
   |zero h=>exact Goes.det g h
 |succ n ih=>
  cases g with
  |succ g st=>cases h with
   |succ h st' =>
    obtain⟨rfl,rfl⟩:=ih g h
    exact NJ.det st st'
structure R57 (L most n:Nat)(s:AS)(x:Wish):Prop where
 ok:WOk 100 s x
 l:s.L=L
 m:s.most=most
 e:s.es.length<=n
theorem Zq {B:Nat}  (o:OkX none B s)  (g:GuessOk s.L s.W s.E s.es m ws)  (hv:isW s.L v=true)(hne:v ≠ []):0<=lsay m ws v/\lsay m ws v<=1000000000:=by
 have tb:=o.tb
 have hv0:0<v.length:=List.length_pos_iff.mpr hne
 obtain⟨k,k1,k2⟩:=Tz tb g hv (v.length-1)
 have hlt:v.length-1<v.length:=by omega
 have hx:=Cg.mp hv _ (List.getElem_mem hlt)
 obtain⟨x,hxe⟩:∃x:Nat,v[v.length-1]=(x:Int):=⟨(v[v.length-1]).toNat,by omega⟩
 obtain⟨row,y,y1,y2,y3⟩:=g.m k _ x k2 (by omega)
 have e:lsay m ws v=KD m (Fp ws (v.take (v.length-1))) (v.getD (v.length-1) 0):=by
  unfold lsay sayW
  rw[List.getD_eq_getElem?_getD,List.getElem?_map,List.getElem?_range hlt];rfl
 have e2:lsay m ws v=y:=by
  rw[e,k1,List.getD_eq_getElem?_getD,List.getElem?_eq_getElem hlt]
  show KD m (k:Int) v[v.length-1]=y
  rw[hxe,SA (by rw[show ((k:Int)).toNat=k by omega];exact y1) (by rw[show ((x:Int)).toNat=x by omega];exact y2)]
 rw[e2]
 exact (tb.bW _ (Bk_ y3)).2
theorem CO_ (ns:List Int)(turn n:Nat){L:Nat}(l1:1<=L):isW (L:Int) (O4 ns L turn++List.replicate n 0)=true/\O4 ns L turn++List.replicate n 0 ≠ []/\(O4 ns L turn++List.replicate n 0).length<=5+n:=by
 have c0:=Int.emod_nonneg (cell ns (3+turn)) (show (5:Int)≠0 by decide)
 have c1:=Int.emod_lt_of_pos (cell ns (3+turn)) (show (0:Int)<5 by decide)
 have hb:(O4 ns L turn).length=(1+cell ns (3+turn)%5).toNat:=O2 ..
 refine⟨Cg.mpr fun x hx=>?_,fun z=>?_,?_⟩
 ·rcases List.mem_append.mp hx with h|h
  ·exact Cg.mp (Zn ns _ _ l1) x h
  ·rw[(List.mem_replicate.mp h).2];omega
 ·have:=congrArg List.length z
  rw[List.length_append,hb]at this
  simp at this
  omega
 ·rw[List.length_append,hb,List.length_replicate];omega
theorem FC_     (l1:1<=L)(hn:n<=90)(r:R57 L most n s x)(st:NJ ns turn s x s' x'):R57 L most (n+1) s' x':=by
 have hn':=r.e
 cases x with
 |ask c=>
  obtain⟨okc,hno,hc,hlen,hg⟩:=id r.ok
  have hnk:c∉s.es.map (·.1):=fun z=>by
   obtain⟨n,hn'⟩:=Bl_.mp z
   rw[hno]at hn';cases hn'
  obtain⟨m0,m9⟩:=CN_ (bigF ns (3+turn))
  have ok1:=okc.told (m:=Bt_ (bigF ns (3+turn))) (fun b hb=>(Option.some.inj hb).symm) hnk hc m0 m9 hlen hg
  obtain⟨ok2,kp⟩:=Goes.ok st ok1
  exact⟨ok2,kp.l.trans r.l,kp.m.trans r.m,by rw[kp.e];simp;omega⟩
 |shown mm ws=>
  rcases st with ⟨_,rfl,rfl⟩|⟨_,k,h1,h2,st⟩
  ·exact⟨r.ok,r.l,r.m,by omega⟩
  ·obtain⟨ok0,hG,hwr,hgs,gu,hall⟩:=id r.ok
   obtain⟨b1,b2,b3⟩:=CO_ ns turn k (L:=s.L) (by rw[r.l];exact l1)
   have hk:=FA_ h1
   rw[List.length_map]at hk
   have ok1:=ok0.told (m:=(lsay mm ws (O4 ns s.L turn++List.replicate k 0)+1)%1000000001) (fun b hb=>(by cases hb)) h2 ⟨b1,b2⟩ (Int.emod_nonneg _ (by decide)) (by have:=Int.emod_lt_of_pos (lsay mm ws (O4 ns s.L turn++List.replicate k 0)+1) (show (0:Int)<1000000001 by decide);omega) (by omega) (by rw[hG];simp)
   obtain⟨ok2,kp⟩:=Goes.ok st ok1
   exact⟨ok2,kp.l.trans r.l,kp.m.trans r.m,by rw[kp.e];simp;omega⟩
 |done mm ws=>obtain⟨rfl,rfl⟩:=st;exact⟨r.ok,r.l,r.m,by omega⟩
 |spent c=>obtain⟨rfl,rfl⟩:=st;exact⟨r.ok,r.l,r.m,by omega⟩
theorem DRun.ok     (l1:1<=L)(l6:L<=6)(m1:1<=most)(m12:most<=12)(hn:n<=90)(g:DRun ns L most n s x):R57 L most n s x:=by
 induction g with
 |zero e=>
  obtain⟨ok,kp⟩:=e.ok (Fx_ 100 (by omega) l1 l6 m1 m12)
  exact⟨ok,kp.l,kp.m,by rw[kp.e];exact Nat.zero_le _⟩
 |succ _ st ih=>exact FC_ l1 (by omega) (ih (by omega)) st
def Bu_ (K:PySem.W.Frag):Sp:=fun vs H Q _=>∃(h a:Addr) (L:Int) (says ways:List (List Int)) (ws:List Int),vs=[.ref h,.ref a]/\Vc K H h L says ways/\WfS L says ways/\SqT K H a (ws.map V.int)/\ws.length<=600/\isW L ws=true/\∀p H',Same H H'->H' p=some (.lst ((sayW says ways ws).map V.int))->Q (.ref p) H'
theorem Zr   (F:Fun K "_law_talk" "_law_talk" ES f fd)(T:Txt mg)
  (W:Own K mg C_j7 C_j9 C_jj C_ja C_j1 C_j4)
  (Z:Exs K mg C_j8 C_j5 C_j6 C_j3 C_j2 C_j0)
  : FnOk P w K mg base CX0 1 f fd ["house","word"] (Bu_ K):=by
 refine F.ok Hq (fun vs H Q E h=>?_) (fun cdv A outer s H vs Q E hr h=>?_)
 ·obtain⟨h,a,L,says,ways,ws,rfl,_⟩:=h;rfl
 ·obtain⟨h,a,L,says,ways,ws,rfl,hh,wf,hw,hz,hv,k⟩:=h
  have hl:=Ao
  refine⟨_,(Ad (AB (i:=2) Hq.nd Ai)
   (Ad (AB (i:=3) Hq.nd (Rq Af))
   (Ad (Hm PassesOwn.never rfl (DV_ (pvD 1)) (B3 (i:=4) Hq.nd rfl (Or.inl rfl))
   (Ad (A9 (Da_ PySem.F.plainAttrs_list PySem.F.slot_list_append PySem.F.type_list_append Ll (pvD 3) (Aa (BF (ixTD CY) (BF (ixTD CY) (BF (ixTD CY) (pvD 0) Ai) (pvD 2)) (pvD 4)) Af)))
   (Ac (AB (i:=2) Hq.nd (BF (ixTD CY) (BF (ixTD CY) (BF (ixTD CY) (pvD 0) Ai) (pvD 2)) (pvD 4))))))
   (Ac (Ar (pvD 3)))))),?_⟩
  walk_at "rd"
  refine⟨by omega,fun p hp=>?_⟩
  have s0:=Same.new hp (o:=.lst [])
  obtain⟨Pv,hPv⟩:∃Pv:Nat->St->Hp->Prop,∀i σ2 H2,Pv i σ2 H2↔(Same H H2/\H2 p=some (.lst (((List.range i).map fun j=>KD says (Fp ways (ws.take j)) (ws.getD j 0)).map V.int))/\∃o,σ2=[some (.ref h),some (.ref a),some (.int (Fp ways (ws.take i))),some (.ref p),o]):=⟨_,fun _ _ _=>Iff.rfl⟩
  refine⟨⟨_,s0.seqT hw⟩,forT (xs:=ws.map V.int) Pv ((hPv _ _ _).mpr ⟨s0,by rw[Ae];rfl,none,rfl⟩) (fun i σ2 H2 _ h=>((hPv _ _ _).mp h).1.seqT hw) (fun i x σ2 H2 hx h=>?_) (fun σ2 H2 h=>?_)⟩
  ·obtain⟨s3,hp3,o,rfl⟩:=(hPv _ _ _).mp h
   obtain⟨n,hn,rfl⟩:=Sx hx
   have hi:=(List.getElem?_eq_some_iff.mp hn).1
   have hx:=Cg.mp hv n (List.mem_of_getElem? hn)
   have hwk:=wf.walk hv i
   obtain⟨row,g,r1,r2,r3,r4,r5⟩:=wf.wf.step hwk.1 (by rw[List.length_replicate];exact hwk.2) hx.1 hx.2
   obtain⟨srow,s1,s2⟩:=wf.at hwk.1 hwk.2 hx.1 hx.2
   obtain⟨m,wv,h1,h2,h3⟩:=hh.mono s3
   obtain⟨xs,t,q1,q2,q3⟩:=h2.atZ hwk.1 s1
   walk_at "rd"
   refine⟨.inl ⟨rfl,_,SqL.of hp3⟩,_,h1,_,rfl,?_⟩
   walk_at "rd"
   refine⟨_,q1,_,q2,?_⟩
   walk_at "rd"
   refine⟨_,q3,_,S6 hx.1 s2,_,hp3,by simp;omega,?_⟩
   have s4:Same H (upd H2 p (.lst ((((List.range i).map fun j=>KD says (Fp ways (ws.take j)) (ws.getD j 0)).map V.int)++[V.int (KD says (Fp ways (ws.take i)) n)]))):=s3.over hp
   obtain⟨m,wv,h1,h2,h3⟩:=hh.mono s4
   obtain⟨xs,t,q1,q2,q3⟩:=h3.atZ hwk.1 r1
   refine⟨_,h1,_,rfl,?_⟩
   walk_at "rd"
   refine⟨_,q1,_,q2,?_⟩
   walk_at "rd"
   refine⟨_,q3,_,S6 hx.1 r2,(hPv _ _ _).mpr ⟨s4,?_,some (.int n),?_⟩⟩
   ·rw[Ae,List.range_succ,List.map_append,List.map_append,List.map_singleton,List.map_singleton,show ws.getD i 0=n from by rw[List.getD_eq_getElem?_getD,hn];rfl]
   ·rw[<-r3,<-M5 hn]
  ·obtain⟨s3,hp3,o,rfl⟩:=(hPv _ _ _).mp h
   walk_at "rd"
   rw[List.length_map]at hp3
   exact k p H2 s3 hp3
def KP (P:Hp->Prop)(H:Hp)(a:Addr)(ad:AD):Prop:=∀H',Frm H H' a ad->P H'
theorem KP.now {P:Hp->Prop}{H:Hp}{a:Addr}{ad:AD}(k:KP P H a ad):P H:=k H (Frm.of (Same.refl _) a ad)
theorem HT_   (h:v ≠ []):atI ((sayW mm ws v).map V.int) (-1)=some (V.int (lsay mm ws v)):=by
 have hv0:0<v.length:=List.length_pos_iff.mpr h
 have hl:((sayW mm ws v).map V.int).length=v.length:=by rw[List.length_map,IC]
 have hlt:v.length-1<(sayW mm ws v).length:=by rw[IC];omega
 unfold lsay
 rw[List.getD_eq_getElem?_getD,List.getElem?_eq_getElem hlt]
 refine AT_ ?_
 rw[List.length_map,IC,List.getElem?_map,List.getElem?_eq_getElem hlt];rfl
def TX (K:PySem.W.Frag)(CS CA CB:Addr):Sp:=fun vs H Q _=>∃(p a q:Addr) (ns:List Int) (L most n turn:Nat) (ad:AD) (s:AS) (wv:V) (x:Wish),vs=[.ref p,.ref q,.int L,.int turn]/\SAt K CS CA CB H p a ad s wv/\Cf K H s.L wv x/\R57 L most n s x/\Bd 100 s/\n<=90/\turn<=90/\1<=L/\KP (fun H'=>SqL K H' q (ns.map V.int)) H a ad/\ns.length<=63/\∀ad' H' s' x' wv',NJ ns turn s x s' x'->SAt K CS CA CB H' p a ad' s' wv'->Cf K H' s.L wv' x'->Frm H H' a ad->AdOk H ad ad'->Q .non H'
theorem Zs   (F:Fun K "_law_deed" "_law_deed" EU f fd)(T:Txt mg)
  (W:Own K mg C_j7 C_j9 C_jj C_ja C_j1 C_j4)
  (Z:Exs K mg C_j8 C_j5 C_j6 C_j3 C_j2 C_j0)
   (A4:FnOk P w K mg base CX0 2 Aq Bb ["self"] (LV K C_j4 C_j1 C_j7)) (By:Fun K "wants" "SayAsker.wants" Bx Aq Bb) (A7:Binds K Bb ["self"] []) (A8:Meth K C_j4 "wants" Aq)
   (Au:FnOk P w K mg base CX0 1 AI AK ["script","k"] (Md K)) (Ap:Fun K "_law_cell" "_law_cell" Ci AI AK) (Av:Binds K AK ["script","k"] []) (Aw:mg "_law_cell"=some (.ref AI))
   (DU:FnOk P w K mg base (CXe P w) 14 Bw Es ["self","mark"] (Xg K C_j4 C_j1 C_j7 C_j3 C_j6)) (DV:Fun K "hear" "SayAsker.hear" Co Bw Es) (DW:Binds K Es ["self","mark"] []) (DX:Meth K C_j4 "hear" Bw)
   (De:FnOk P w K mg base (CXe P w) 3 Bj DY ["self"] (TQ K C_j4 C_j1 C_j7 C_j3)) (Df:Fun K "agree" "SayAsker.agree" Cc Bj DY) (Dh:Binds K DY ["self"] []) (Di:Meth K C_j4 "agree" Bj)
   (CT:FnOk P w K mg base (CXe P w) 14 Ba Dy ["self","word","mark"] (Xh K C_j4 C_j1 C_j7 C_j3 C_j5 C_j6 C_j2 C_j0)) (CU:Fun K "differ" "SayAsker.differ" BV Ba Dy) (CV:Binds K Dy ["self","word","mark"] []) (CW:Meth K C_j4 "differ" Ba)
   (BO:FnOk P w K mg base CX0 3 AJ BZ ["self"] (OW K C_j4 C_j1 C_j7)) (Ce:Fun K "heard" "SayAsker.heard" BJ AJ BZ) (BP:Binds K BZ ["self"] []) (BQ:Meth K C_j4 "heard" AJ)
   (Qv:FnOk P w K mg base CX0 2 Ip TY ["script","k"] (CM_ K)) (JV:Fun K "_law_big" "_law_big" G0 Ip TY) (Qw:Binds K TY ["script","k"] []) (Qx:mg "_law_big"=some (.ref Ip))
   (Of:FnOk P w K mg base CX0 1 G8 RA ["cell"] (Zl)) (II:Fun K "_law_mark" "_law_mark" FU G8 RA) (Og:Binds K RA ["cell"] []) (Oh:mg "_law_mark"=some (.ref G8))
   (G9:FnOk P w K mg base CX0 1 Eo HD ["house","word"] (Bu_ K)) (Fc:Fun K "_law_talk" "_law_talk" ES Eo HD) (Ha:Binds K HD ["house","word"] []) (Hb:mg "_law_talk"=some (.ref Eo))
   (IJ:FnOk P w K mg base CX0 3 DZ Kw ["script","at","letters","heard"] (Wn K)) (Fd:Fun K "_law_new_word" "_law_new_word" C1 DZ Kw) (IK:Binds K Kw ["script","at","letters","heard"] []) (IL:mg "_law_new_word"=some (.ref DZ))
  : FnOk P w K mg base CX0 15 f fd ["asker","script","letters","turn"] (TX K C_j4 C_j1 C_j7):=by
 refine F.ok Lx (fun vs H Q E h=>?_) (fun cdv A outer s H vs Q E hr h=>?_)
 ·obtain⟨p,a,q,ns,L,most,n,turn,ad,s,wv,x,rfl,_⟩:=h;rfl
 ·obtain⟨p,a,q,ns,L,most,n,turn,ad,s,wv,y,rfl,S,hw,r,bd,hn,ht,l1,hq,hz,k⟩:=h
  obtain⟨⟨dx,L',hp⟩,gv,rv,zs,ys,us,x⟩:=id S
  have hl:=Ao
  have hq0:=hq.now
  have hre:=r.e
  have hL:=r.l
  subst hL
  refine⟨_,(Ad (AB (i:=4) Lx.nd (Bl (pvD 0) W.cl_j4 A8 A4 (hr.mono (by decide)) A7 .nil Ax))
   (Ac (Cu (ptT (Ay (opE NU) (BF (ixTD CY) (pvD 4) Ai) Bm (Bg _)))
   (Ac (A9 (DE (pvD 0) W.cl_j4 DX DU (hr.mono (by decide)) DW .nil (P5 (P:=P) (w:=w)) (Aa (Aj Of (hr.mono (by decide)) rfl Oh II.kp Og .nil Ax (Aa (Aj Qv (hr.mono (by decide)) rfl Qx JV.kp Qw .nil Ax (Aa (pvD 1) (Aa (Bt (opD0 FE) Ai (pvD 3)) Af))) Af)) Af))))
   (Ac (Cu (PW.pt (Jh_ (ptT (Ay (opE NU) (BF (ixTD CY) (pvD 4) Ai) Bm (Bg _))) (Ic_ (ptT (Ay (opE NU) (Bt (opD Fn) (Aj Au (hr.mono (by decide)) rfl Aw Ap.kp Av .nil Ax (Aa (pvD 1) (Aa (Bt (opD0 FE) Ai (pvD 3)) Af))) Ai) Ai (Bg _))))))
   (Ac (A9 (Bl (pvD 0) W.cl_j4 Di De (hr.mono (by decide)) Dh .nil (P5 (P:=P) (w:=w)))))
   (Ac (Cu (ptT (Ay (opE NU) (BF (ixTD CY) (pvD 4) Ai) Bm (Bg _)))
   (Ad (AB (i:=5) Lx.nd (Aj IJ (hr.mono (by decide)) rfl IL Fd.kp IK .nil Ax (Aa (pvD 1) (Aa (Bt (opD0 FE) Ai (pvD 3)) (Aa (pvD 2) (Aa (Bl (pvD 0) W.cl_j4 BQ BO (hr.mono (by decide)) BP .nil Ax) Af))))))
   (Ac (A9 (DE (pvD 0) W.cl_j4 CW CT (hr.mono (by decide)) CV .nil (P5 (P:=P) (w:=w)) (Aa (pvD 5) (Aa (Bt (opD Fn) (Bt (opD0 FE) (BF (ixLD Jk) (Aj G9 (hr.mono (by decide)) rfl Hb Fc.kp Ha .nil Ax (Aa (BF (ixTD CY) (pvD 4) Ai) (Aa (pvD 5) Af))) (AL_ SN Ai)) Ai) Ai) Af))))))
   AQ))))))),?_⟩
  walk_at "rd"
  refine⟨_,_,hp,by kernel_rfl,p,a,ad,s,wv,rfl,S,?_⟩
  cases y with
  |ask c=>
   obtain⟨t,u,rfl,ht',hu⟩:=id hw
   have ht':H t=some (.tup [.str ("ask" : Str),.ref u]):=ht'
   refine⟨t,rfl,_,SqT.of ht',_,rfl,rfl,?_⟩
   rw[if_pos rfl]
   refine⟨_,_,hp,by kernel_rfl,q,ns,3+(turn:Int),rfl,hq0,hz,by omega,by omega,_,rfl,p,a,ad,s,_,.ask c,100,_,rfl,S,hw,r.ok,bd,by omega,fun hx=>absurd rfl hx,fun c' hc=>⟨fun hno=>absurd (CN_ _) hno,fun h0 h9 ad' H' s' x' wv' go S' hw' f o=>k ad' H' s' x' wv' ?_ S' hw' f o⟩⟩
   cases hc
   exact go
  |shown mm ws=>
   obtain⟨t,u,rfl,ht',hu⟩:=id hw
   have ht':H t=some (.tup [.str ("show" : Str),.ref u]):=ht'
   obtain⟨ok0,hG,hwr,hgs,gu,hall⟩:=id r.ok
   have wf:=ok0.tb.wf gu
   refine⟨t,rfl,_,SqT.of ht',_,rfl,rfl,?_⟩
   rw[if_neg (fun z=>absurd (V.str.inj z) (by decide +kernel))]
   refine⟨t,rfl,_,SqT.of ht',_,rfl,rfl,?_⟩
   rw[if_pos rfl]
   refine⟨q,ns,4+turn,by push_cast;rfl,hq0,_,rfl,by decide,?_⟩
   by_cases hc:cell ns (4+turn)%9=4
   ·rw[if_pos hc]
    refine⟨_,_,hp,by kernel_rfl,p,a,ad,s,_,_,rfl,S,hw,fun hx=>absurd rfl hx,fun mm' ws' e H' wv' S' hw' f=>?_⟩
    cases e
    exact k ad H' s _ wv' (.inl ⟨hc,rfl,rfl⟩) S' hw' f (AdOk.refl H ad)
   ·rw[if_neg hc]
    refine⟨t,rfl,_,SqT.of ht',_,rfl,rfl,?_⟩
    rw[if_pos rfl]
    refine⟨_,_,hp,by kernel_rfl,p,a,ad,s,_,rfl,S,fun l rs H1 s1 hl0 hl1 htr=>?_⟩
    refine⟨q,l,ns,3+turn,s.L,rs,s.es,by push_cast;rfl,s1.seq hq0,l1,hl1,htr,by omega,fun t2 m H2 s2 h1 h2 hm ht2=>?_⟩
    have s12:=s1.trans s2
    obtain⟨b1,b2,b3⟩:=CO_ ns turn m l1
    have lr:=Zq ok0 gu b1 b2
    have h1:∀j,j<m->O4 ns s.L turn++List.replicate j 0∈s.es.map (·.1):=h1
    have h2:O4 ns s.L turn++List.replicate m 0∉s.es.map (·.1):=h2
    have ht2:H2 t2=some (.tup ((O4 ns s.L turn++List.replicate m 0).map V.int)):=ht2
    have e0:NJ ns turn s (.shown mm ws)=NJ ns turn s (.shown mm ws):=rfl
    refine⟨_,_,s12 _ _ hp,by kernel_rfl,t,rfl,_,SqT.of (s12 _ _ ht'),_,rfl,u,t2,s.L,mm,ws,_,rfl,(HouT.house hu).mono s12,wf,SqT.of ht2,by omega,b1,fun pl H3 s3 hpl=>?_⟩
    have s123:=s12.trans s3
    refine⟨pl,rfl,_,SqL.of hpl,_,HT_ b2,_,rfl,by decide,p,a,t2,ad,s,_,.shown mm ws,100,_,_,rfl,S.same s123,hw.mono (TK.of s123),r.ok,bd,by omega,s3 _ _ ht2,by omega,fun hx=>absurd rfl hx,fun mm' ws' e=>?_⟩
    cases e
    refine⟨fun hb=>?_,fun _ _ hm'=>?_,fun _ _ h0 h9=>⟨fun he=>?_,fun _ hin=>absurd hin h2,fun _ _=>⟨by omega,fun ad' H' s' x' wv' go S' hw' f o=>k ad' H' s' x' wv' (.inr ⟨hc,m,h1,h2,go⟩) S' hw' ((Frm.of s123 a ad).seq f) (AdOk.trans (Frm.of s123 a ad) (AdOk.refl H ad) o)⟩⟩⟩
    ·rcases hb with hb|hb
     ·exact absurd hb b2
     ·rw[b1]at hb;cases hb
    ·exact absurd ⟨Int.emod_nonneg _ (by decide),by have:=Int.emod_lt_of_pos (lsay mm ws (O4 ns s.L turn++List.replicate m 0)+1) (show (0:Int)<1000000001 by decide);omega⟩ hm'
    ·omega
  |done mm ws=>
   obtain⟨t,u,rfl,ht',hu⟩:=id hw
   have ht':H t=some (.tup [.str ("done" : Str),.ref u]):=ht'
   refine⟨t,rfl,_,SqT.of ht',_,rfl,rfl,?_⟩
   rw[if_neg (fun z=>absurd (V.str.inj z) (by decide +kernel))]
   refine⟨t,rfl,_,SqT.of ht',_,rfl,rfl,?_⟩
   rw[if_neg (fun z=>absurd (V.str.inj z) (by decide +kernel))]
   refine⟨t,rfl,_,SqT.of ht',_,rfl,rfl,?_⟩
   rw[if_neg (fun z=>absurd (V.str.inj z) (by decide +kernel))]
   exact k ad H s _ _ ⟨rfl,rfl⟩ S hw (Frm.of (Same.refl _) a ad) (AdOk.refl H ad)
  |spent c=>
   obtain⟨t,u,rfl,ht',hu⟩:=id hw
   have ht':H t=some (.tup [.str ("spent" : Str),.ref u]):=ht'
   refine⟨t,rfl,_,SqT.of ht',_,rfl,rfl,?_⟩
   rw[if_neg (fun z=>absurd (V.str.inj z) (by decide +kernel))]
   refine⟨t,rfl,_,SqT.of ht',_,rfl,rfl,?_⟩
   rw[if_neg (fun z=>absurd (V.str.inj z) (by decide +kernel))]
   refine⟨t,rfl,_,SqT.of ht',_,rfl,rfl,?_⟩
   rw[if_neg (fun z=>absurd (V.str.inj z) (by decide +kernel))]
   exact k ad H s _ _ ⟨rfl,rfl⟩ S hw (Frm.of (Same.refl _) a ad) (AdOk.refl H ad)
def Vi (K:PySem.W.Frag)(H:Hp)(l:Addr)(s:AS)(x:Wish):Prop:=∃wv l1 l2 l3 xs ys rs,H l=some (.lst [wv,.ref l1,.ref l2,.ref l3])/\Cf K H s.L wv x/\H l1=some (.lst xs)/\As K H xs s.W/\H l2=some (.lst ys)/\As K H ys s.E/\H l3=some (.lst rs)/\G1 H rs s.es
theorem Vi.mono {K:PySem.W.Frag}     (h:Vi K H l s x)(e:Same H H'):Vi K H' l s x:=by
 obtain⟨wv,l1,l2,l3,xs,ys,rs,a,b,c,d,f,g,i,j⟩:=h
 exact⟨wv,l1,l2,l3,xs,ys,rs,e _ _ a,b.mono (TK.of e),e _ _ c,d.mono (TK.of e),e _ _ f,g.mono (TK.of e),e _ _ i,j.mono (TK.of e)⟩
def Xj (K:PySem.W.Frag)(CS CA CB:Addr):Sp:=fun vs H Q _=>∃(p a:Addr) (ad:AD) (s:AS) (wv:V) (x:Wish),vs=[.ref p]/\SAt K CS CA CB H p a ad s wv/\Cf K H s.L wv x/\∀l H',Same H H'->Vi K H' l s x->Q (.ref l) H'
theorem Bv_   (F:Fun K "_law_all" "_law_all" F8 f fd)(T:Txt mg)
  (W:Own K mg C_j7 C_j9 C_jj C_ja C_j1 C_j4)
  (Z:Exs K mg C_j8 C_j5 C_j6 C_j3 C_j2 C_j0)
   (A4:FnOk P w K mg base CX0 2 Aq Bb ["self"] (LV K C_j4 C_j1 C_j7)) (By:Fun K "wants" "SayAsker.wants" Bx Aq Bb) (A7:Binds K Bb ["self"] []) (A8:Meth K C_j4 "wants" Aq)
   (BO:FnOk P w K mg base CX0 3 AJ BZ ["self"] (OW K C_j4 C_j1 C_j7)) (Ce:Fun K "heard" "SayAsker.heard" BJ AJ BZ) (BP:Binds K BZ ["self"] []) (BQ:Meth K C_j4 "heard" AJ)
   (Hc:FnOk P w K mg base CX0 2 B0 Jf ["self"] (SK K C_j4 C_j1 C_j7 AS.W)) (Ff:Fun K "access" "SayAsker.access" Cj B0 Jf) (Hd:Binds K Jf ["self"] []) (He:Meth K C_j4 "access" B0)
   (GD:FnOk P w K mg base CX0 2 BH IM ["self"] (SK K C_j4 C_j1 C_j7 AS.E)) (ED:Fun K "tellers" "SayAsker.tellers" B6 BH IM) (GF:Binds K IM ["self"] []) (GG:Meth K C_j4 "tellers" BH)
  : FnOk P w K mg base CX0 4 f fd ["asker"] (Xj K C_j4 C_j1 C_j7):=by
 refine F.ok Bd_ (fun vs H Q E h=>?_) (fun cdv A outer s H vs Q E hr h=>?_)
 ·obtain⟨p,a,ad,s,wv,x,rfl,_⟩:=h;rfl
 ·obtain⟨p,a,ad,s,wv,y,rfl,S,hw,k⟩:=h
  obtain⟨⟨dx,L',hp⟩,_⟩:=id S
  have hl:=Ao
  refine⟨_,(Ac (Ar (Rq (Aa (Bl (pvD 0) W.cl_j4 A8 A4 (hr.mono (by decide)) A7 .nil Ax) (Aa (Bl (pvD 0) W.cl_j4 He Hc (hr.mono (by decide)) Hd .nil Ax) (Aa (Bl (pvD 0) W.cl_j4 GG GD (hr.mono (by decide)) GF .nil Ax) (Aa (Bl (pvD 0) W.cl_j4 BQ BO (hr.mono (by decide)) BP .nil Ax) Af))))))),?_⟩
  walk_at "rd"
  refine⟨_,_,hp,by kernel_rfl,p,a,ad,s,wv,rfl,S,_,_,hp,by kernel_rfl,p,a,ad,s,wv,rfl,S,fun l1 xs H1 s1 h10 h1 w1=>?_⟩
  refine⟨_,_,s1 _ _ hp,by kernel_rfl,p,a,ad,s,wv,rfl,S.same s1,fun l2 ys H2 s2 h20 h2 w2=>?_⟩
  have s12:=s1.trans s2
  refine⟨_,_,s12 _ _ hp,by kernel_rfl,p,a,ad,s,wv,rfl,S.same s12,fun l3 rs H3 s3 h30 h3 w3=>⟨by omega,fun l hl'=>?_⟩⟩
  have s4:=Same.new hl' (o:=.lst [wv,.ref l1,.ref l2,.ref l3])
  have s34:=s3.trans s4
  have s24:=s2.trans s34
  exact k l _ (s12.trans s34) ⟨wv,l1,l2,l3,xs,ys,rs,Ae,hw.mono (TK.of (s12.trans s34)),s24 _ _ h1,w1.mono (TK.of s24),s34 _ _ h2,w2.mono (TK.of s34),s4 _ _ h3,w3.mono (TK.of s4)⟩
theorem KO_ {K:PySem.W.Frag}{H H1:Hp}   {ad:AD}(h:SqL K H q xs)(e:∀y o,H y=some o->H1 y=some o)(fr:H a=none/\H ad.d=none/\H ad.pw=none/\H ad.pe=none/\H ad.pg=none):KP (fun H'=>SqL K H' q xs) H1 a ad:=fun H2 f=>by
 have g:∀o,H q=some o->H2 q=some o:=fun o hy=>f.1 q o (e _ _ hy) (fun z=>by rw[z,fr.1]at hy;cases hy) (fun z=>by rw[z,fr.2.1]at hy;cases hy) (fun z=>by rw[z,fr.2.2.1]at hy;cases hy) (fun z=>by rw[z,fr.2.2.2.1]at hy;cases hy) (fun z=>by rw[z,fr.2.2.2.2]at hy;cases hy)
 rcases h with (h|⟨o,h⟩)|h
 ·exact .inl (.inl (g _ h))
 ·exact .inl (.inr ⟨o,g _ h⟩)
 ·exact .inr h
def Oi (K:PySem.W.Frag)(CS CA CB:Addr):Sp:=fun vs H Q _=>∃(q:Addr) (ns:List Int) (L n:Nat),vs=[.ref q,.int L,.int n]/\SqL K H q (ns.map V.int)/\ns.length<=63/\1<=L/\L<=6/\n<=80/\∀p a ad H' most s x wv,most=(if L > 3 then 1+(1+cell ns 1%4)%2 else 1+cell ns 1%4).toNat->DRun ns L most n s x->SAt K CS CA CB H' p a ad s wv->Cf K H' L wv x->(∀y o,H y=some o->H' y=some o)->(∀y,H' y=none->H y=none)->(H p=none/\H a=none/\H ad.d=none/\H ad.pw=none/\H ad.pe=none/\H ad.pg=none)->Q (.ref p) H'
theorem Vj   (F:Fun K "_law_driven" "_law_driven" Dm f fd)(T:Txt mg)
  (W:Own K mg C_j7 C_j9 C_jj C_ja C_j1 C_j4)
  (Z:Exs K mg C_j8 C_j5 C_j6 C_j3 C_j2 C_j0)
   (Au:FnOk P w K mg base CX0 1 AI AK ["script","k"] (Md K)) (Ap:Fun K "_law_cell" "_law_cell" Ci AI AK) (Av:Binds K AK ["script","k"] []) (Aw:mg "_law_cell"=some (.ref AI))
   (IP:FnOk P w K mg base CX0 14 Cr Kx ["self","letters","most"] (CL_ K C_j4 C_j1 C_j7)) (GH:Fun K "__init__" "SayAsker.__init__" C0 Cr Kx) (IQ:Binds K Kx ["self","letters","most"] []) (IS:Mk K C_j4 Cr)
   (FX:FnOk P w K mg base CX0 15 Ep HE ["asker","script","letters","turn"] (TX K C_j4 C_j1 C_j7)) (Er:Fun K "_law_deed" "_law_deed" EU Ep HE) (FY:Binds K HE ["asker","script","letters","turn"] []) (FZ:mg "_law_deed"=some (.ref Ep))
  : FnOk P w K mg base CX0 16 f fd ["script","letters","turns"] (Oi K C_j4 C_j1 C_j7):=by
 refine F.ok FF (fun vs H Q E h=>?_) (fun cdv A outer s H vs Q E hr h=>?_)
 ·obtain⟨q,ns,L,n,rfl,_⟩:=h;rfl
 ·obtain⟨q,ns,L,n,rfl,hq,hz,l1,l6,hn,k⟩:=h
  have hl:=Ao
  refine⟨_,(Ad (AB (i:=3) FF.nd (Bt (opD0 FE) Ai (Bt (opD Fn) (Aj Au (hr.mono (by decide)) rfl Aw Ap.kp Av .nil Ax (Aa (pvD 0) (Aa Ai Af))) Ai)))
   (Ir (Cu (ptT (Ay (opD0 Ig_) (pvD 1) Ai (Bg _)))
   (Ac (AB (i:=3) FF.nd (Bt (opD0 FE) Ai (Bt (opD Fn) (pvD 3) Ai))))
   AQ)
   (Ad (AB (i:=4) FF.nd (AM_ IS IP (hr.mono (by decide)) rfl W.m_j4 IQ .nil Ax (Aa (pvD 1) (Aa (pvD 3) Af))))
   (Ad (Hm PassesOwn.never rfl (Lj rfl T.range (Aa (pvD 2) Af)) (B3 (i:=5) FF.nd rfl (Or.inl rfl))
   (Ac (A9 (Aj FX (hr.mono (by decide)) rfl FZ Er.kp FY .nil Ax (Aa (pvD 4) (Aa (pvD 0) (Aa (pvD 1) (Aa (pvD 5) Af))))))))
   (Ac (Ar (pvD 4))))))),?_⟩
  walk_at "rd"
  have c0:=Int.emod_nonneg (cell ns 1) (show (4:Int)≠0 by decide)
  have c1:=Int.emod_lt_of_pos (cell ns 1) (show (0:Int)<4 by decide)
  refine⟨q,ns,1,rfl,hq,_,rfl,by decide,?_⟩
  obtain⟨most,hm⟩:∃most:Nat,most=(if L > 3 then 1+(1+cell ns 1%4)%2 else 1+cell ns 1%4).toNat:=⟨_,rfl⟩
  have hm2:(most:Int)=if L > 3 then 1+(1+cell ns 1%4)%2 else 1+cell ns 1%4:=by rw[hm];split<;>omega
  have m1:1<=most:=by split at hm2<;>omega
  have m4:most<=4:=by split at hm2<;>omega
  have m2:L > 3->most<=2:=fun z=>by rw[if_pos z]at hm2;omega
  refine⟨fun σ' H'=>σ'=[some (.ref q),some (.int L),some (.int n),some (.int most),none,none]/\H'=H,?_,fun σ' H' hh=>?_⟩
  ·walk_at "rd"
   refine ite2 (fun e=>⟨by decide,?_⟩) (fun e=>?_)
   ·rw[hm2,if_pos (by omega)]
   ·rw[hm2,if_neg (by omega)]
  obtain⟨rfl,hH⟩:=hh
  have hH:=hH.symm
  subst hH
  walk_at "rd"
  intro p dx hpN hdN hne
  refine⟨p,dx,L,most,rfl,Ae,l1,l6,m1,by omega,fun a ad H1 s x wv go S hw hf hno hfr=>⟨rfl,by omega,by omega,?_⟩⟩
  rw[Int.toNat_natCast]
  have hb:(most+1)*(most+L)<=5*10:=Nat.mul_le_mul (by omega) (by omega)
  have nz:∀y,upd (upd H dx (HO.own p)) p (HO.ins C_j4 dx []) y=none->H y=none:=fun y hy=>by
   by_cases z1:y=p
   ·rw[z1,Ae]at hy;cases hy
   ·by_cases z2:y=dx
    ·rw[z2,Ah (by rw[<-z2];exact z1),Ae]at hy;cases hy
    ·rw[Ah z1,Ah z2]at hy;exact hy
  have hfr':H a=none/\H ad.d=none/\H ad.pw=none/\H ad.pe=none/\H ad.pg=none:=⟨nz _ hfr.1,nz _ hfr.2.1,nz _ hfr.2.2.1,nz _ hfr.2.2.2.1,nz _ hfr.2.2.2.2⟩
  have hk1:∀y o,H y=some o->H1 y=some o:=fun y o hy=>by
   have y1:y≠p:=fun z=>by rw[z,hpN]at hy;cases hy
   have y2:y≠dx:=fun z=>by rw[z,hdN]at hy;cases hy
   exact hf _ _ (by rw[Ah y1,Ah y2];exact hy) y1
  obtain⟨Pv,hPv⟩:∃Pv:Nat->St->Hp->Prop,∀i σ' H',Pv i σ' H'↔(∃(ad':AD) (s':AS) (x':Wish) (wv':V) (o:Option V),DRun ns L most i s' x'/\SAt K C_j4 C_j1 C_j7 H' p a ad' s' wv'/\Cf K H' L wv' x'/\(∀y o,H y=some o->H' y=some o)/\(∀y,H' y=none->H y=none)/\(H a=none/\H ad'.d=none/\H ad'.pw=none/\H ad'.pe=none/\H ad'.pg=none)/\σ'=[some (.ref q),some (.int L),some (.int n),some (.int most),some (.ref p),o]):=⟨_,fun _ _ _=>Iff.rfl⟩
  refine forR Pv ((hPv _ _ _).mpr ⟨ad,s,x,wv,none,.zero go,S,hw,hk1,fun y hy=>nz y (hno y hy),hfr',rfl⟩) (fun i σ' H' hi h'=>?_) (fun σ' H' h'=>?_)
  ·obtain⟨ad',s',x',wv',o,dr,S',hw',hk',hn',fr',rfl⟩:=(hPv _ _ _).mp h'
   have r:=dr.ok l1 l6 m1 (by omega) (by omega)
   have hsL:=r.l
   have hsm:=r.m
   walk_at "rd"
   refine⟨p,a,q,ns,L,most,i,i,ad',s',wv',x',by rw[Int.zero_add],S',by rw[hsL];exact hw',r,by unfold Bd;rw[hsL,hsm];omega,by omega,by omega,l1,KO_ hq hk' fr',hz,fun ad2 H2 s2 x2 wv2 st S2 hw2 f2 o2=>(hPv _ _ _).mpr ⟨ad2,s2,x2,wv2,_,.succ dr st,S2,by rw[hsL]at hw2;exact hw2,fun y oo hy=>?_,fun y hy=>hn' y (f2.2 y hy),?_,rfl⟩⟩
   ·exact f2.1 y oo (hk' y oo hy) (fun z=>by rw[z,fr'.1]at hy;cases hy) (fun z=>by rw[z,fr'.2.1]at hy;cases hy) (fun z=>by rw[z,fr'.2.2.1]at hy;cases hy) (fun z=>by rw[z,fr'.2.2.2.1]at hy;cases hy) (fun z=>by rw[z,fr'.2.2.2.2]at hy;cases hy)
   ·obtain⟨_,_,q3,q4,q5,q6⟩:=o2
    refine⟨fr'.1,by rw[q3];exact fr'.2.1,by rw[q4];exact fr'.2.2.1,by rw[q5];exact fr'.2.2.2.1,?_⟩
    rcases q6 with q6|q6
    ·rw[q6];exact fr'.2.2.2.2
    ·exact hn' _ q6
  ·obtain⟨ad',s',x',wv',o,dr,S',hw',hk',hn',fr',rfl⟩:=(hPv _ _ _).mp h'
   walk_at "rd"
   exact k p a ad' H' most s' x' wv' hm dr S' hw' hk' hn' ⟨hpN,fr'⟩
theorem EqD.all43 {K:PySem.W.Frag}     (hq:(SqL K H a xs/\SqL K H c ys)\/(SqT K H a xs/\SqT K H c ys))(hl:xs.length=ys.length)(h:∀(i:Nat) (x y:V),xs[i]?=some x->ys[i]?=some y->EqD K H n x y true):EqD K H (n+1) (.ref a) (.ref c) true:=
 .inr ⟨a,c,xs,ys,rfl,rfl,hq,fun _=>true,h,by simp[hl]⟩
theorem EqD.int43 {K:PySem.W.Frag}  (n:Nat)(i:Int):EqD K H n (.int i) (.int i) true:=by
 cases n with
 |zero=>exact⟨rfl,rfl,by simp[eqV]⟩
 |succ n=>exact .inl ⟨rfl,rfl,by simp[eqV]⟩
theorem EqD.str43 {K:PySem.W.Frag}  (n:Nat)(i:Str):EqD K H n (.str i) (.str i) true:=by
 cases n with
 |zero=>exact⟨rfl,rfl,by simp[eqV]⟩
 |succ n=>exact .inl ⟨rfl,rfl,by simp[eqV]⟩
theorem EqD.word43 {K:PySem.W.Frag}{H:Hp}(n:Nat){a b:Addr}{w:List Int}(h:SqT K H a (w.map V.int))(g:SqT K H b (w.map V.int)):EqD K H (n+1) (.ref a) (.ref b) true:=by
 have:=EqD.ints (K:=K) (H:=H) (a:=a) (c:=b) (xs:=w) (ys:=w) (.inr ⟨h,g⟩) n
 rw[decide_eq_true rfl]at this
 exact this
theorem Kv_ {α:Type}{P:Nat->α->α->Prop}{a b c d:α}(h0:P 0 a c)(h1:P 1 b d):∀i x y,[a,b][i]?=some x->[c,d][i]?=some y->P i x y:=by
 intro i x y hx hy
 match i with
 |0=>simp at hx hy;subst hx hy;exact h0
 |1=>simp at hx hy;subst hx hy;exact h1
 |i+2=>simp at hx
theorem IS_ {α:Type}{P:Nat->α->α->Prop}{a b e c d f:α}(h0:P 0 a c)(h1:P 1 b d)(h2:P 2 e f):∀i x y,[a,b,e][i]?=some x->[c,d,f][i]?=some y->P i x y:=by
 intro i x y hx hy
 match i with
 |0=>simp at hx hy;subst hx hy;exact h0
 |1=>simp at hx hy;subst hx hy;exact h1
 |2=>simp at hx hy;subst hx hy;exact h2
 |i+3=>simp at hx
theorem As.eqT57 {K:PySem.W.Frag}     (h3:SqT K H a zs)(h4:As K H zs ws)(g3:SqT K H b zs')(g4:As K H zs' ws)(n:Nat):EqD K H (n+2) (.ref a) (.ref b) true:=by
 refine EqD.all43 (.inr ⟨h3,g3⟩) (by rw[h4.1,g4.1]) fun i x y hx hy=>?_
 obtain⟨t,w,e1,rfl,e2⟩:=h4.at hx
 obtain⟨u,w',f1,rfl,f2⟩:=g4.at hy
 rw[e1]at f1
 cases f1
 exact EqD.word43 _ (SqT.of e2) (SqT.of f2)
theorem HouT.eq57 {K:PySem.W.Frag}     (h:HouT K H a L m ws)(g:HouT K H b L m ws)(n:Nat):EqD K H (n+3) (.ref a) (.ref b) true:=by
 obtain⟨tm,tw,us,zs,h1,h2,h2',h3,h4⟩:=h
 obtain⟨tm',tw',us',zs',g1,g2,g2',g3,g4⟩:=g
 exact EqD.all43 (.inr ⟨SqT.of h1,SqT.of g1⟩) rfl (IS_ (P:=fun _ x y=>EqD K H (n+2) x y true) (EqD.int43 _ _) (As.eqT57 (SqT.of h2) h2' (SqT.of g2) g2' n) (As.eqT57 (SqT.of h3) h4 (SqT.of g3) g4 n))
theorem Cf.eq57 {K:PySem.W.Frag}     (h:Cf K H L v x)(g:Cf K H L v' x)(n:Nat):EqD K H (n+4) v v' true:=by
 obtain⟨t,u,rfl,h1,h2⟩:=h
 obtain⟨t',u',rfl,g1,g2⟩:=g
 refine EqD.all43 (.inr ⟨SqT.of h1,SqT.of g1⟩) rfl (Kv_ (P:=fun _ x y=>EqD K H (n+3) x y true) (EqD.str43 _ _) ?_)
 cases x with
 |ask c=>exact EqD.word43 _ (SqT.of h2) (SqT.of g2)
 |spent c=>exact EqD.word43 _ (SqT.of h2) (SqT.of g2)
 |shown m ws=>exact HouT.eq57 h2 g2 n
 |done m ws=>exact HouT.eq57 h2 g2 n
theorem G1.eq43 {K:PySem.W.Frag}     (h:G1 H xs es)(g:G1 H ys es)(ha:H a=some (.lst xs))(hb:H b=some (.lst ys))(n:Nat):EqD K H (n+3) (.ref a) (.ref b) true:=by
 refine EqD.all43 (.inl ⟨SqL.of ha,SqL.of hb⟩) (by rw[h.1,g.1]) fun i x y hx hy=>?_
 have hi:i<es.length:=by rw[<-h.1];exact (List.getElem?_eq_some_iff.mp hx).1
 obtain⟨t,wt,e1,e2,e3⟩:=h.2 i es[i] (by simp[hi])
 obtain⟨u,wu,f1,f2,f3⟩:=g.2 i es[i] (by simp[hi])
 rw[hx]at e1
 cases e1
 rw[hy]at f1
 cases f1
 exact EqD.all43 (.inr ⟨SqT.of e2,SqT.of f2⟩) rfl (Kv_ (P:=fun _ x y=>EqD K H (n+1) x y true) (EqD.word43 _ (SqT.of e3) (SqT.of f3)) (EqD.int43 _ _))
theorem Kw_ {α:Type}{P:Nat->α->α->Prop}{a b e k c d f l:α}(h0:P 0 a c)(h1:P 1 b d)(h2:P 2 e f)(h3:P 3 k l):∀i x y,[a,b,e,k][i]?=some x->[c,d,f,l][i]?=some y->P i x y:=by
 intro i x y hx hy
 match i with
 |0=>simp at hx hy;subst hx hy;exact h0
 |1=>simp at hx hy;subst hx hy;exact h1
 |2=>simp at hx hy;subst hx hy;exact h2
 |3=>simp at hx hy;subst hx hy;exact h3
 |i+4=>simp at hx
theorem Vi.eq57 {K:PySem.W.Frag}     (h:Vi K H l s x)(g:Vi K H l' s x):EqD K H 8 (.ref l) (.ref l') true:=by
 obtain⟨wv,l1,l2,l3,xs,ys,rs,h0,hw,h2,h3,h4,h5,h6,h7⟩:=h
 obtain⟨wv',l1',l2',l3',xs',ys',rs',g0,gw,g2,g3,g4,g5,g6,g7⟩:=g
 exact EqD.all43 (.inl ⟨SqL.of h0,SqL.of g0⟩) rfl (Kw_ (P:=fun _ x y=>EqD K H 7 x y true) (hw.eq57 gw 3) (As.eq h3 g3 (SqL.of h2) (SqL.of g2) 5) (As.eq h5 g5 (SqL.of h4) (SqL.of g4) 5) (G1.eq43 h7 g7 h6 g6 4))
def Fps (a:Addr)(ad:AD)(y:Addr):Prop:=y=a\/y=ad.d\/y=ad.pw\/y=ad.pe\/y=ad.pg
def Dis (a:Addr)(ad:AD)(a':Addr)(ad':AD):Prop:=∀y,Fps a ad y->¬ Fps a' ad' y
theorem AskAt.tkF {K:PySem.W.Frag}    {ad:AD}  {wv gv rv:V}  (x:AskAt K CA CB H a ad s wv gv rv zs ys us)(f:Frm H H' a ad):TK H H':=fun t ts h=>f.1 _ _ h (fun z=>by rw[z,x.ob]at h;cases h) (fun z=>by rw[z,x.bk.dc]at h;cases h) (fun z=>by rw[z,x.w]at h;cases h) (fun z=>by rw[z,x.e]at h;cases h) (fun z=>by rw[z,x.g]at h;cases h)
theorem SAt.other {K:PySem.W.Frag}    {ad ad':AD}  {wv wv':V}(x:SAt K CS CA CB H p a ad s wv)(y:SAt K CS CA CB H p' a' ad' s' wv')(d:Dis a ad a' ad')(f:Frm H H' a ad):SAt K CS CA CB H' p' a' ad' s' wv':=by
 obtain⟨_,gv,rv,zs,ys,us,X⟩:=x
 obtain⟨⟨dx,L,hp⟩,gv',rv',zs',ys',us',Y⟩:=y
 have nf:∀y,Fps a' ad' y->∀o,H y=some o->H' y=some o:=fun y hy o ho=>by
  have h:¬ Fps a ad y:=fun z=>d y z hy
  exact f.1 y o ho (fun z=>h (.inl z)) (fun z=>h (.inr (.inl z))) (fun z=>h (.inr (.inr (.inl z)))) (fun z=>h (.inr (.inr (.inr (.inl z))))) (fun z=>h (.inr (.inr (.inr (.inr z)))))
 refine⟨⟨dx,L,f.1 _ _ hp (fun z=>?_) (fun z=>by rw[z,X.bk.dc]at hp;cases hp) (fun z=>by rw[z,X.w]at hp;cases hp) (fun z=>by rw[z,X.e]at hp;cases hp) (fun z=>by rw[z,X.g]at hp;cases hp)⟩,_,_,_,_,_,Y.keep (fun y o ho hc=>?_) (X.tkF f)⟩
 ·rw[z,X.ob]at hp
  injection hp with hp
  injection hp with _ _ hp
  have:=congrArg List.length hp
  simp[afl,sfl]at this
 ·rcases hc with hc|hc|hc|hc|hc|hc
  ·exact nf y (.inl hc) o ho
  ·obtain⟨dxb,hb⟩:=Y.bk.ob
   rw[<-hc]at hb
   refine f.1 y o ho (fun z=>?_) (fun z=>by rw[z,X.bk.dc]at hb;cases hb) (fun z=>by rw[z,X.w]at hb;cases hb) (fun z=>by rw[z,X.e]at hb;cases hb) (fun z=>by rw[z,X.g]at hb;cases hb)
   rw[z,X.ob]at hb
   injection hb with hb
   injection hb with _ _ hb
   have:=congrArg List.length hb
   rw[show (YY (s'.L:Int) ad'.d).length=2 from by kernel_rfl]at this
   simp[afl]at this
  ·exact nf y (.inr (.inl hc)) o ho
  ·exact nf y (.inr (.inr (.inl hc))) o ho
  ·exact nf y (.inr (.inr (.inr (.inl hc)))) o ho
  ·exact nf y (.inr (.inr (.inr (.inr hc)))) o ho
def Scr (K:PySem.W.Frag)(H:Hp)(q:Addr)(xs:List V)(a:Addr)(ad:AD):Prop:=(Rd H q (.lst xs)/\¬ Fps a ad q) \/ ∀H',SqL K H' q xs
theorem Rd.frm57    {ad:AD}(h:Rd H q (.lst xs))(n:¬ Fps a ad q)(f:Frm H H' a ad):Rd H' q (.lst xs):=by
 have g:∀o,H q=some o->H' q=some o:=fun o ho=>f.1 q o ho (fun z=>n (.inl z)) (fun z=>n (.inr (.inl z))) (fun z=>n (.inr (.inr (.inl z)))) (fun z=>n (.inr (.inr (.inr (.inl z))))) (fun z=>n (.inr (.inr (.inr (.inr z)))))
 rcases h with h|⟨o,h⟩
 ·exact .inl (g _ h)
 ·exact .inr ⟨o,g _ h⟩
theorem Scr.kp {K:PySem.W.Frag}    {ad:AD}(h:Scr K H q xs a ad):KP (fun H'=>SqL K H' q xs) H a ad:=fun H' f=>by
 rcases h with ⟨h,n⟩|h
 ·exact .inl (Rd.frm57 h n f)
 ·exact h H'
theorem Scr.of {K:PySem.W.Frag}{H H1:Hp}   {ad:AD}(h:SqL K H q xs)(e:Same H H1)(fr:H a=none/\H ad.d=none/\H ad.pw=none/\H ad.pe=none/\H ad.pg=none):Scr K H1 q xs a ad:=by
 rcases h with h|h
 ·have hs:∃o,H q=some o:=by
   rcases h with h|⟨o,h⟩
   ·exact⟨_,h⟩
   ·exact⟨_,h⟩
  obtain⟨o,ho⟩:=hs
  refine .inl ⟨?_,fun z=>?_⟩
  ·rcases h with h|⟨o,h⟩
   ·exact .inl (e _ _ h)
   ·exact .inr ⟨o,e _ _ h⟩
  ·rcases z with z|z|z|z|z
   ·rw[z,fr.1]at ho;cases ho
   ·rw[z,fr.2.1]at ho;cases ho
   ·rw[z,fr.2.2.1]at ho;cases ho
   ·rw[z,fr.2.2.2.1]at ho;cases ho
   ·rw[z,fr.2.2.2.2]at ho;cases ho
 ·exact .inr fun H'=>.inr h
theorem Fps.next   {ad ad':AD}(n:¬ Fps a ad q)(o:AdOk H ad ad')(h:H q≠none):¬ Fps a ad' q:=by
 obtain⟨_,_,q3,q4,q5,q6⟩:=o
 rintro (z|z|z|z|z)
 ·exact n (.inl z)
 ·exact n (.inr (.inl (z.trans q3)))
 ·exact n (.inr (.inr (.inl (z.trans q4))))
 ·exact n (.inr (.inr (.inr (.inl (z.trans q5)))))
 ·rcases q6 with q6|q6
  ·exact n (.inr (.inr (.inr (.inr (z.trans q6)))))
  ·rw[z]at h;exact h q6
theorem Scr.next {K:PySem.W.Frag}    {ad ad':AD}(h:Scr K H q xs a ad)(f:Frm H H' a ad)(o:AdOk H ad ad'):Scr K H' q xs a ad':=by
 rcases h with ⟨h,n⟩|h
 ·exact .inl ⟨Rd.frm57 h n f,Fps.next n o (by rcases h with h|⟨o,h⟩<;>rw[h]<;>simp)⟩
 ·exact .inr h
theorem Scr.other {K:PySem.W.Frag}    {ad ad':AD}(h:Scr K H q xs a' ad')(g:Scr K H q xs a ad)(f:Frm H H' a ad):Scr K H' q xs a' ad':=by
 rcases h with ⟨h,n⟩|h
 ·rcases g with ⟨_,m⟩|g
  ·exact .inl ⟨Rd.frm57 h m f,n⟩
  ·exact .inr g
 ·exact .inr h
theorem SAt.fps {K:PySem.W.Frag}    {ad:AD}  {wv:V}(x:SAt K CS CA CB H p a ad s wv)  (h:Fps a ad y):H y≠none:=by
 obtain⟨_,gv,rv,zs,ys,us,X⟩:=x
 rcases h with rfl|rfl|rfl|rfl|rfl
 ·rw[X.ob];simp
 ·rw[X.bk.dc];simp
 ·rw[X.w];simp
 ·rw[X.e];simp
 ·rw[X.g];simp
theorem Dis.next {K:PySem.W.Frag}    {ad ad1 ad':AD}   (d:Dis a ad a' ad')(y:SAt K CS CA CB H p' a' ad' s' wv')(o:AdOk H ad ad1):Dis a ad1 a' ad':=fun z hz hz'=>Fps.next (fun w=>d z w hz') o (y.fps hz') hz
theorem Dis.symm  {ad ad':AD}(d:Dis a ad a' ad'):Dis a' ad' a ad:=fun y h g=>d y g h
theorem SAt.tk {K:PySem.W.Frag}    {ad:AD}  {wv:V}(x:SAt K CS CA CB H p a ad s wv)(f:Frm H H' a ad):TK H H':=by
 obtain⟨_,gv,rv,zs,ys,us,X⟩:=x
 exact X.tkF f
def Zt (K:PySem.W.Frag)(CS CA CB:Addr):Sp:=fun vs H Q _=>∃(p a q:Addr) (ns:List Int) (L most n:Nat) (ad:AD) (s:AS) (wv:V) (x:Wish),vs=[.ref p,.ref q,.int L,.int n]/\SAt K CS CA CB H p a ad s wv/\Cf K H s.L wv x/\most=(if L > 3 then 1+(1+cell ns 1%4)%2 else 1+cell ns 1%4).toNat/\DRun ns L most n s x/\1<=L/\L<=6/\n<=60/\Scr K H q (ns.map V.int) a ad/\ns.length<=63/\∀H',Q (.bl true) H'
theorem TZ   (F:Fun K "_law_goes_on" "_law_goes_on" DJ f fd)(T:Txt mg)
  (W:Own K mg C_j7 C_j9 C_jj C_ja C_j1 C_j4)
  (Z:Exs K mg C_j8 C_j5 C_j6 C_j3 C_j2 C_j0)
   (FX:FnOk P w K mg base CX0 15 Ep HE ["asker","script","letters","turn"] (TX K C_j4 C_j1 C_j7)) (Er:Fun K "_law_deed" "_law_deed" EU Ep HE) (FY:Binds K HE ["asker","script","letters","turn"] []) (FZ:mg "_law_deed"=some (.ref Ep))
   (Fg:FnOk P w K mg base CX0 16 CC FH ["script","letters","turns"] (Oi K C_j4 C_j1 C_j7)) (Dz:Fun K "_law_driven" "_law_driven" Dm CC FH) (Fh:Binds K FH ["script","letters","turns"] []) (Fi:mg "_law_driven"=some (.ref CC))
   (Ey:FnOk P w K mg base CX0 4 Fj IT ["asker"] (Xj K C_j4 C_j1 C_j7)) (Dj:Fun K "_law_all" "_law_all" F8 Fj IT) (Ez:Binds K IT ["asker"] []) (EA:mg "_law_all"=some (.ref Fj))
  : FnOk P w K mg base CX0 17 f fd ["asker","script","letters","turns"] (Zt K C_j4 C_j1 C_j7):=by
 refine F.ok IB (fun vs H Q E h=>?_) (fun cdv A outer s H vs Q E hr h=>?_)
 ·obtain⟨p,a,q,ns,L,most,n,ad,s,wv,x,rfl,_⟩:=h;rfl
 ·obtain⟨p,a,q,ns,L,most,n,ad,s,wv,y,rfl,S,hw,hm,dr,l1,l6,hn,hkq,hz,k⟩:=h
  have hq:=hkq.kp.now
  have hl:=Ao
  refine⟨_,(Ad (AB (i:=4) IB.nd (Aj Fg (hr.mono (by decide)) rfl Fi Dz.kp Fh .nil Ax (Aa (pvD 1) (Aa (pvD 2) (Aa (pvD 3) Af)))))
   (Ad (Hm PassesOwn.never rfl (DW_ rfl T.range (Aa (pvD 3) (Aa (Bt (opD0 FE) (pvD 3) Ai) Af))) (B3 (i:=5) IB.nd rfl (Or.inl rfl))
   (Ad (Cu (ptT (Ay (JZ_ 8 (hu9 hr)) (Aj Ey (hr.mono (by decide)) rfl EA Dj.kp Ez .nil Ax (Aa (pvD 0) Af)) (Aj Ey (hr.mono (by decide)) rfl EA Dj.kp Ez .nil Ax (Aa (pvD 4) Af)) (Bg _)))
   (Ac (Ar Jj))
   AQ)
   (Ad (A9 (Aj FX (hr.mono (by decide)) rfl FZ Er.kp FY .nil Ax (Aa (pvD 0) (Aa (pvD 1) (Aa (pvD 2) (Aa (pvD 5) Af))))))
   (Ac (A9 (Aj FX (hr.mono (by decide)) rfl FZ Er.kp FY .nil Ax (Aa (pvD 4) (Aa (pvD 1) (Aa (pvD 2) (Aa (pvD 5) Af))))))))))
   (Ac (Ar (Ed_ (Hd_ 8 (hu9 hr)) (Aj Ey (hr.mono (by decide)) rfl EA Dj.kp Ez .nil Ax (Aa (pvD 0) Af)) (Aj Ey (hr.mono (by decide)) rfl EA Dj.kp Ez .nil Ax (Aa (pvD 4) Af)) (Bg _)))))),?_⟩
  walk_at "rd"
  refine⟨q,ns,L,n,rfl,hq,hz,l1,l6,by omega,fun p2 a2 ad2 H1 most2 s2 x2 wv2 hm2 dr2 S2 hw2 hk1 hn1 fr=>?_⟩
  have em:most2=most:=hm2.trans hm.symm
  subst em
  obtain⟨rfl,rfl⟩:=dr.det dr2
  have e01:Same H H1:=hk1
  have r:=dr.ok l1 l6 (by rw[hm];have:=Int.emod_nonneg (cell ns 1) (show (4:Int)≠0 by decide);split<;>omega) (by rw[hm];have:=Int.emod_nonneg (cell ns 1) (show (4:Int)≠0 by decide);have:=Int.emod_lt_of_pos (cell ns 1) (show (0:Int)<4 by decide);split<;>omega) (by omega)
  have m1:1<=most2:=by rw[hm];have:=Int.emod_nonneg (cell ns 1) (show (4:Int)≠0 by decide);split<;>omega
  have m4:most2<=4:=by rw[hm];have:=Int.emod_nonneg (cell ns 1) (show (4:Int)≠0 by decide);have:=Int.emod_lt_of_pos (cell ns 1) (show (0:Int)<4 by decide);split<;>omega
  have hb:(most2+1)*(most2+L)<=5*10:=Nat.mul_le_mul (by omega) (by omega)
  have d0:Dis a ad a2 ad2:=fun y h1 h2=>S.fps h1 (by rcases h2 with z|z|z|z|z;(rw[z];exact fr.2.1);(rw[z];exact fr.2.2.1);(rw[z];exact fr.2.2.2.1);(rw[z];exact fr.2.2.2.2.1);(rw[z];exact fr.2.2.2.2.2))
  walk_at "rd"
  refine⟨by omega,by omega,by omega,by omega,?_⟩
  rw[show ((n:Int)+6-n).toNat=6 by omega]
  obtain⟨Pv,hPv⟩:∃Pv:Nat->St->Hp->Prop,∀i σ' H',Pv i σ' H'↔(∃(d1 d2:AD) (s:AS) (x:Wish) (v1 v2:V) (o:Option V),DRun ns L most2 (n+i) s x/\SAt K C_j4 C_j1 C_j7 H' p a d1 s v1/\SAt K C_j4 C_j1 C_j7 H' p2 a2 d2 s v2/\Cf K H' s.L v1 x/\Cf K H' s.L v2 x/\Dis a d1 a2 d2/\Scr K H' q (ns.map V.int) a d1/\Scr K H' q (ns.map V.int) a2 d2/\σ'=[some (.ref p),some (.ref q),some (.int L),some (.int n),some (.ref p2),o]):=⟨_,fun _ _ _=>Iff.rfl⟩
  refine forR Pv ((hPv _ _ _).mpr ⟨ad,ad2,s,y,wv,wv2,none,dr,S.same e01,S2,hw.mono (TK.of e01),by rw[r.l];exact hw2,d0,hkq.next (Frm.of e01 a ad) (AdOk.refl H ad),Scr.of hq e01 fr.2,rfl⟩) (fun i σ' H' hi h'=>?_) (fun σ' H' h'=>?_)
  ·obtain⟨d1,d2,s,x,v1,v2,o,dr,A1,A2,w1,w2,d,c1,c2,rfl⟩:=(hPv _ _ _).mp h'
   have r:=dr.ok l1 l6 m1 (by omega) (by omega)
   have bd:Bd 100 s:=by unfold Bd;rw[r.l,r.m];omega
   walk_at "rd"
   refine⟨p,a,d1,s,v1,x,rfl,A1,w1,fun q1 H3 s3 B1=>⟨p2,a2,d2,s,v2,x,rfl,A2.same s3,w2.mono (TK.of s3),fun q2 H4 s4 B2=>⟨_,rfl,_,rfl,_,Vi.eq57 (B1.mono s4) B2,?_⟩⟩⟩
   rw[if_neg (by simp)]
   have s34:=s3.trans s4
   have A1':=A1.same s34
   have A2':=A2.same s34
   have c1':=c1.next (Frm.of s34 a d1) (AdOk.refl H' d1)
   have c2':=c2.next (Frm.of s34 a2 d2) (AdOk.refl H' d2)
   refine⟨p,a,q,ns,L,most2,n+i,n+i,d1,s,v1,x,by push_cast;rfl,A1',w1.mono (TK.of s34),r,bd,by omega,by omega,l1,c1'.kp,hz,fun e1 H5 s5 x5 v5 st1 A5 w5 f5 o5=>?_⟩
   have A2'':=A1'.other A2' d f5
   have d5:=d.next A2' o5
   have tk5:=A1'.tk f5
   have c2'':=c2'.other c1' f5
   have c1'':=c1'.next f5 o5
   refine⟨p2,a2,q,ns,L,most2,n+i,n+i,d2,s,v2,x,by push_cast;rfl,A2'',(w2.mono (TK.of s34)).mono tk5,r,bd,by omega,by omega,l1,c2''.kp,hz,fun e2 H6 s6 x6 v6 st2 A6 w6 f6 o6=>?_⟩
   obtain⟨rfl,rfl⟩:=NJ.det st1 st2
   have dr':DRun ns L most2 (n+i+1) s5 x5:=.succ dr st1
   have r':=dr'.ok l1 l6 m1 (by omega) (by omega)
   refine (hPv _ _ _).mpr ⟨e1,e2,s5,x5,v5,v6,_,dr',A2''.other A5 d5.symm f6,A6,?_,?_,?_,c1''.other c2'' f6,c2''.next f6 o6,rfl⟩
   ·rw[r'.l,<-r.l];exact w5.mono (A2''.tk f6)
   ·rw[r'.l,<-r.l];exact w6
   ·exact (Dis.next d5.symm A5 o6).symm
  ·obtain⟨d1,d2,s,x,v1,v2,o,dr,A1,A2,w1,w2,d,c1,c2,rfl⟩:=(hPv _ _ _).mp h'
   walk_at "rd"
   exact⟨p,a,d1,s,v1,x,rfl,A1,w1,fun q1 H3 s3 B1=>⟨p2,a2,d2,s,v2,x,rfl,A2.same s3,w2.mono (TK.of s3),fun q2 H4 s4 B2=>⟨_,rfl,_,rfl,_,Vi.eq57 (B1.mono s4) B2,k _⟩⟩⟩
theorem W7.ofD {K:PySem.W.Frag}{a:Addr}{xs:List V}{m:Nat}{H:Hp}{Q:VK}(ha:H a=some (.tup xs))(q:∀p H',Same H H'->H' p=some (.tup (xs.drop m))->Q (.ref p) H'):W7 K (.ref a) (some (m:Int)) none H Q:=by
 refine⟨a,xs,rfl,ha,fun p H' s' h=>q p H' s' ?_⟩
 rw[h]
 unfold cutV
 rw[HT.sIx_nat,HT.sIx_none]
 congr 2
 rcases Nat.le_total m xs.length with h|h
 ·rw[Nat.min_eq_left h]
  exact List.take_of_length_le (by rw[List.length_drop];exact Nat.le_refl _)
 ·rw[Nat.min_eq_right h,List.drop_of_length_le h,List.drop_length,List.take_nil]
def T1 (K:PySem.W.Frag)(CS CA CB:Addr):Sp:=fun vs H Q _=>∃(p a q:Addr) (ns:List Int) (L:Nat) (odd:Int) (ad:AD) (s:AS) (wv:V) (mm ws:List (List Int)),vs=[.ref p,.ref q,.int L,.int odd]/\SAt K CS CA CB H p a ad s wv/\Cf K H s.L wv (.shown mm ws)/\WOk 100 s (.shown mm ws)/\Bd 100 s/\s.L=L/\1<=L/\s.es.length<=100/\SqL K H q (ns.map V.int)/\ns.length<=63/\¬ (0<=odd/\odd<=1000000000)/\∀H',Same H H'->Q (.bl true) H'
theorem Ni   (F:Fun K "_law_show_refuses" "_law_show_refuses" BR f fd)(T:Txt mg)
  (W:Own K mg C_j7 C_j9 C_jj C_ja C_j1 C_j4)
  (Z:Exs K mg C_j8 C_j5 C_j6 C_j3 C_j2 C_j0)
   (A4:FnOk P w K mg base CX0 2 Aq Bb ["self"] (LV K C_j4 C_j1 C_j7)) (By:Fun K "wants" "SayAsker.wants" Bx Aq Bb) (A7:Binds K Bb ["self"] []) (A8:Meth K C_j4 "wants" Aq)
   (Au:FnOk P w K mg base CX0 1 AI AK ["script","k"] (Md K)) (Ap:Fun K "_law_cell" "_law_cell" Ci AI AK) (Av:Binds K AK ["script","k"] []) (Aw:mg "_law_cell"=some (.ref AI))
   (DA:FnOk P w K mg base CX0 15 DB GI ["asker","mark"] (JU K C_j4 C_j1 C_j7)) (Cs:Fun K "_law_hears" "_law_hears" D3 DB GI) (DC:Binds K GI ["asker","mark"] []) (DD:mg "_law_hears"=some (.ref DB))
   (AL:FnOk P w K mg base CX0 15 Cn Fe ["asker","word","mark"] (Hz K C_j4 C_j1 C_j7)) (AA:Fun K "_law_differs" "_law_differs" CG Cn Fe) (AM:Binds K Fe ["asker","word","mark"] []) (AN:mg "_law_differs"=some (.ref Cn))
   (BO:FnOk P w K mg base CX0 3 AJ BZ ["self"] (OW K C_j4 C_j1 C_j7)) (Ce:Fun K "heard" "SayAsker.heard" BJ AJ BZ) (BP:Binds K BZ ["self"] []) (BQ:Meth K C_j4 "heard" AJ)
   (G9:FnOk P w K mg base CX0 1 Eo HD ["house","word"] (Bu_ K)) (Fc:Fun K "_law_talk" "_law_talk" ES Eo HD) (Ha:Binds K HD ["house","word"] []) (Hb:mg "_law_talk"=some (.ref Eo))
   (G2:FnOk P w K mg base CX0 2 Em Hy ["script","at","letters","many"] (TR K)) (Fb:Fun K "_law_word" "_law_word" ET Em Hy) (G3:Binds K Hy ["script","at","letters","many"] []) (G4:mg "_law_word"=some (.ref Em))
  : FnOk P w K mg base CX0 16 f fd ["asker","script","letters","odd"] (T1 K C_j4 C_j1 C_j7):=by
 refine F.ok B9 (fun vs H Q E h=>?_) (fun cdv A outer s H vs Q E hr h=>?_)
 ·obtain⟨p,a,q,ns,L,odd,ad,s,wv,mm,ws,rfl,_⟩:=h;rfl
 ·obtain⟨p,a,q,ns,L,odd,ad,s,wv,mm,ws,rfl,S,hw,ok,bd,hL,l1,he,hq,hz,hodd,k⟩:=h
  have hl:=Ao
  have D:∀{H':Hp} {t:Addr} {w:List Int} {m:Int} {Q':VK} {E':XK},Same H H'->H' t=some (.tup (w.map V.int))->w.length<=600->((w=[]\/isW s.L w=false->QS H' Q' "word value")/\(w ≠ []->isW s.L w=true->¬ (0<=m/\m<=1000000000)->QS H' Q' "mark value")/\(w ≠ []->isW s.L w=true->0<=m->m<=1000000000->(lsay mm ws w=m->QS H' Q' "alike value")/\(lsay mm ws w≠m->w∈s.es.map (·.1)/\QS H' Q' "twice value")))->Hz K C_j4 C_j1 C_j7 [.ref p,.ref t,.int m] H' Q' E':=fun {H'} {t} {w} {m} {Q'} {E'} e ht hw6 hk=>⟨p,a,t,ad,s,wv,_,100,w,m,rfl,S.same e,hw.mono (TK.of e),ok,bd,by omega,ht,hw6,fun hx=>absurd rfl hx,fun mm' ws' e=>by cases e;exact hk⟩
  have Hh:∀{H':Hp} {m:Int} {Q':VK} {E':XK},Same H H'->QS H' Q' "turn value" -> JU K C_j4 C_j1 C_j7 [.ref p,.int m] H' Q' E':=fun {H'} {m} {Q'} {E'} e hk=>⟨p,a,ad,s,wv,_,100,m,rfl,S.same e,hw.mono (TK.of e),ok,bd,by omega,fun _=>hk,fun c hc=>by cases hc⟩
  have c0:=Int.emod_nonneg (cell ns 4) (show (6:Int)≠0 by decide)
  have c1:=Int.emod_lt_of_pos (cell ns 4) (show (0:Int)<6 by decide)
  obtain⟨n0,hn0⟩:∃n0:Nat,1+cell ns 4%6=(n0:Int):=⟨(1+cell ns 4%6).toNat,by omega⟩
  have c9:CPow 10 9:=⟨by omega,by omega,by decide⟩
  have hWl:=O2 ns 4 L n0
  have hWw:=Zn ns 4 n0 l1
  refine⟨_,(Ad (Cu (PW.pt (YH (ptT (Ay (opN IW) (Aj DA (hr.mono (by decide)) rfl DD Cs.kp DC .nil Ax (Aa (pvD 0) (Aa Ai Af))) Bm (Bg _))) (Ro (ptT (Ay (opN IW) (Aj DA (hr.mono (by decide)) rfl DD Cs.kp DC .nil Ax (Aa (pvD 0) (Aa (pvD 3) Af))) Bm (Bg _))))))
   (Ac (Ar Jj))
   AQ)
   (Ad (Cu (PW.pt (YH (ptT (Ay (opN IW) (Aj AL (hr.mono (by decide)) rfl AN AA.kp AM .nil Ax (Aa (pvD 0) (Aa (GJ Af) (Aa (pvD 3) Af)))) Bm (Bg _))) (Ro (ptT (Ay (opN IW) (Aj AL (hr.mono (by decide)) rfl AN AA.kp AM .nil Ax (Aa (pvD 0) (Aa (GJ Af) (Aa Ai Af)))) Bm (Bg _))))))
   (Ac (Ar Jj))
   AQ)
   (Ad (AB (i:=4) B9.nd (Aj G2 (hr.mono (by decide)) rfl G4 Fb.kp G3 .nil Ax (Aa (pvD 1) (Aa Ai (Aa (pvD 2) (Aa (Bt (opD0 FE) Ai (Bt (opD Fn) (Aj Au (hr.mono (by decide)) rfl Aw Ap.kp Av .nil Ax (Aa (pvD 1) (Aa Ai Af))) Ai)) Af))))))
   (Ad (AB (i:=5) B9.nd (Bt (opD Fn) (Aj Au (hr.mono (by decide)) rfl Aw Ap.kp Av .nil Ax (Aa (pvD 1) (Aa Ai Af))) (Bt (opD0 FE) (C3 (lenD Dk) (by rfl) T.len PySem.boot_len (Aa (pvD 4) Af)) Ai)))
   (Ad (Hm PassesOwn.never rfl (Gq (Rq (Aa (pvD 2) (Aa (AL_ SN Ai) (Aa (Bt (opD0 FE) (Bt (opD0 FE) (pvD 2) Ai) (Bt (opD Fn) (Aj Au (hr.mono (by decide)) rfl Aw Ap.kp Av .nil Ax (Aa (pvD 1) (Aa Ai Af))) (Bt (opD GU_) Ai Ai))) Af))))) (B3 (i:=6) B9.nd rfl (Or.inl rfl))
   (Ad (AB (i:=7) B9.nd (Bt J4 (Bt J4 (OE Br_ (pvD 4) SU (SV (pvD 5))) (GJ (Aa (pvD 6) Af))) (OE Br_ (pvD 4) (SV (pvD 5)) SU)))
   (Ac (Cu (PW.pt (YH (ptT (Ay (opN IW) (Aj AL (hr.mono (by decide)) rfl AN AA.kp AM .nil Ax (Aa (pvD 0) (Aa (pvD 7) (Aa (pvD 3) Af)))) Bm (Bg _))) (Ro (ptT (Ay (opN IW) (Aj AL (hr.mono (by decide)) rfl AN AA.kp AM .nil Ax (Aa (pvD 0) (Aa (pvD 7) (Aa Ai Af)))) Bm (Bg _))))))
   (Ac (Ar Jj))
   AQ))))
   (Ad (Cu (ptT (Ay (opN IW) (Aj AL (hr.mono (by decide)) rfl AN AA.kp AM .nil Ax (Aa (pvD 0) (Aa (pvD 4) (Aa (pvD 3) Af)))) Bm (Bg _)))
   (Ac (Ar Jj))
   AQ)
   (Ad (Cu (ptT (Ay (opN IW) (Aj AL (hr.mono (by decide)) rfl AN AA.kp AM .nil Ax (Aa (pvD 0) (Aa (pvD 4) (Aa (BF (ixLD Jk) (Aj G9 (hr.mono (by decide)) rfl Hb Fc.kp Ha .nil Ax (Aa (BF (ixTD CY) (Bl (pvD 0) W.cl_j4 A8 A4 (hr.mono (by decide)) A7 .nil Ax) Ai) (Aa (pvD 4) Af))) (AL_ SN Ai)) Af)))) Bm (Bg _)))
   (Ac (Ar Jj))
   AQ)
   (Ad (Hm PassesOwn.never rfl (Gq (Bl (pvD 0) W.cl_j4 BQ BO (hr.mono (by decide)) BP .nil Ax)) (B3 (i:=8) B9.nd rfl (Or.inl rfl))
   (Ad (Cu (ptT (Ay (opN IW) (Aj AL (hr.mono (by decide)) rfl AN AA.kp AM .nil Ax (Aa (pvD 0) (Aa (BF (ixTD CY) (pvD 8) Ai) (Aa (pvD 3) Af)))) Bm (Bg _)))
   (Ac (Ar Jj))
   AQ)
   (Ad (Cu (ptT (Ay (opN IW) (Aj AL (hr.mono (by decide)) rfl AN AA.kp AM .nil Ax (Aa (pvD 0) (Aa (BF (ixTD CY) (pvD 8) Ai) (Aa (BF (ixTD CY) (pvD 8) Ai) Af)))) Bm (Bg _)))
   (Ac (Ar Jj))
   AQ)
   (Ac (Cu (ptT (Ay (opN IW) (Aj AL (hr.mono (by decide)) rfl AN AA.kp AM .nil Ax (Aa (pvD 0) (Aa (BF (ixTD CY) (pvD 8) Ai) (Aa (Bt (opD Fn) (Bt (opD0 FE) (BF (ixTD CY) (pvD 8) Ai) Ai) Ai) Af)))) Bm (Bg _)))
   (Ac (Ar Jj))
   AQ)))))
   (Ac (Ar Jj)))))))))),?_⟩
  walk_at "rd"
  refine Hh (Same.refl _) fun H1 s1=>⟨rfl,?_⟩
  rw[if_neg (by simp)]
  refine Hh s1 fun H2 s2'=>⟨rfl,?_⟩
  have s2:=s1.trans s2'
  rw[if_neg (by simp)]
  refine⟨by omega,fun t0 ht0=>D (w:=[]) (s2.newT ht0) Ae (by simp) ⟨fun _ H3 s3'=>⟨rfl,?_⟩,fun z=>absurd rfl z,fun z=>absurd rfl z⟩⟩
  have s3:=(s2.newT ht0).trans s3'
  rw[if_neg (by simp)]
  refine⟨by omega,fun t1 ht1=>D (w:=[]) (s3.newT ht1) Ae (by simp) ⟨fun _ H4 s4'=>⟨rfl,?_⟩,fun z=>absurd rfl z,fun z=>absurd rfl z⟩⟩
  have s4:=(s3.newT ht1).trans s4'
  rw[if_neg (by simp)]
  refine⟨q,ns,4,rfl,s4.seq hq,_,rfl,by decide,q,ns,4,L,n0,by rw[hn0];rfl,s4.seq hq,l1,by omega,fun tw H5 s5' htw=>?_⟩
  have s5:=s4.trans s5'
  generalize Qt ns 4 L n0=v at hWl hWw htw
  refine⟨q,ns,5,rfl,s5.seq hq,tw,rfl,_,.inr (SqT.of htw),_,rfl,by omega,q,ns,6,rfl,s5.seq hq,c9,_,rfl,by decide,by omega,fun tl htl=>⟨⟨_,SqL.of Ae⟩,?_⟩⟩
  rw[List.length_map]
  obtain⟨j,hj,hj2⟩:∃j:Nat,cell ns 5%((v.length:Int)+1)=(j:Int)/\j<=v.length:=⟨(cell ns 5%((v.length:Int)+1)).toNat,by have:=Int.emod_nonneg (cell ns 5) (show (v.length:Int)+1≠0 by omega);omega,by have:=Int.emod_nonneg (cell ns 5) (show (v.length:Int)+1≠0 by omega);have:=Int.emod_lt_of_pos (cell ns 5) (show 0<(v.length:Int)+1 by omega);omega⟩
  rw[hj]
  obtain⟨far,hfar⟩:∃far:Int,far=(L:Int)+1+cell ns 6%10 ^ Int.toNat 9:=⟨_,rfl⟩
  have hfar0:(L:Int)<=far:=by have:=Int.emod_nonneg (cell ns 6) (show (10:Int) ^ Int.toNat 9≠0 by decide);omega
  rw[<-hfar]
  have s6:=s5.newT htl (o:=.lst [V.int L,V.int (-1),V.int far])
  obtain⟨Pv,hPv⟩:∃Pv:Nat->St->Hp->Prop,∀i σ' H',Pv i σ' H'↔(∃o6 o7:Option V,Same (upd H5 tl (.lst [V.int L,V.int (-1),V.int far])) H'/\σ'=[some (.ref p),some (.ref q),some (.int L),some (.int odd),some (.ref tw),some (.int j),o6,o7,none]):=⟨_,fun _ _ _=>Iff.rfl⟩
  refine forL (xs:=[V.int L,V.int (-1),V.int far]) Pv ((hPv _ _ _).mpr ⟨none,none,Same.refl _,rfl⟩) (fun i σ2 H' _ h2=>by obtain⟨_,_,s',_⟩:=(hPv _ _ _).mp h2;exact s'.seq (SqL.of Ae)) (fun i x σ2 H' hx h2=>?_) (fun σ2 H' h2=>?_)
  ·obtain⟨o6,o7,s7',rfl⟩:=(hPv _ _ _).mp h2
   obtain⟨b,rfl,hb⟩:∃b:Int,x=.int b/\¬ (0<=b/\b<L):=by
    match i with
    |0=>simp at hx;exact⟨_,hx.symm,by omega⟩
    |1=>simp at hx;exact⟨_,hx.symm,by omega⟩
    |2=>simp at hx;exact⟨_,hx.symm,by omega⟩
    |i+3=>simp at hx
   have s7:=s6.trans s7'
   have htw7:=((Same.new htl).trans s7') _ _ htw
   walk_at "rd"
   refine W7.of htw7 fun z1 H8 s8 hz1=>⟨by omega,fun z2 hz2=>?_⟩
   rw[<-List.map_take]at hz1
   have s9:=Same.new hz2 (o:=.tup [V.int b])
   refine Kq.ofS (s9 _ _ hz1) Ae (by simp;omega) fun z3 H10 s10 hz3=>?_
   refine W7.ofD ((s8.trans (s9.trans s10)) _ _ htw7) fun z4 H11 s11 hz4=>?_
   rw[<-List.map_drop]at hz4
   refine Kq.ofS (s11 _ _ hz3) hz4 (by simp;omega) fun z5 H12 s12 hz5=>?_
   have e:(v.take j).map V.int++[V.int b]++(v.drop j).map V.int=(v.take j++[b]++v.drop j).map V.int:=by simp
   rw[e]at hz5
   have hbad:isW s.L (v.take j++[b]++v.drop j)=false:=by
    cases hh:isW s.L (v.take j++[b]++v.drop j) with
    |false=>rfl
    |true=>
     have:=Cg.mp hh b (by simp)
     rw[hL]at this
     exact absurd this hb
   have s8_12:=s8.trans (s9.trans (s10.trans (s11.trans s12)))
   have sA:=s7.trans s8_12
   refine D sA hz5 (by simp;omega) ⟨fun _ H13 s13=>⟨rfl,?_⟩,fun _ z=>absurd z (by rw[hbad];simp),fun _ z=>absurd z (by rw[hbad];simp)⟩
   rw[if_neg (by simp)]
   refine D (sA.trans s13) (s13 _ _ hz5) (by simp;omega) ⟨fun _ H14 s14=>⟨rfl,?_⟩,fun _ z=>absurd z (by rw[hbad];simp),fun _ z=>absurd z (by rw[hbad];simp)⟩
   rw[if_neg (by simp)]
   exact (hPv _ _ _).mpr ⟨_,_,s7'.trans (s8_12.trans (s13.trans s14)),rfl⟩
  ·obtain⟨o6,o7,s7',rfl⟩:=(hPv _ _ _).mp h2
   have s7:=s6.trans s7'
   have htw7:=((Same.new htl).trans s7') _ _ htw
   have hvn:v ≠ []:=fun z=>by rw[z]at hWl;simp at hWl;omega
   have hvW:isW s.L v=true:=by rw[hL];exact hWw
   walk_at "rd"
   refine D s7 htw7 (by omega) ⟨fun z=>?_,fun _ _ _ H8 s8=>⟨rfl,?_⟩,fun _ _ h0 h9=>absurd ⟨h0,h9⟩ hodd⟩
   ·rcases z with z|z
    ·exact absurd z hvn
    ·rw[hvW]at z;cases z
   rw[if_neg (by simp)]
   obtain⟨t,u,hwv,ht,hu⟩:=id hw
   obtain⟨⟨dx,L',hp⟩,_⟩:=id S
   obtain⟨ok0,hG,hwr,hgs,gu,hall⟩:=id ok
   have wf:=ok0.tb.wf gu
   have sz:=ok0.sz bd
   have lr:=Zq ok0 gu hvW hvn
   have s78:=s7.trans s8
   have hv0:¬ (v=[]\/isW s.L v=false):=fun z=>by
    rcases z with z|z
    ·exact hvn z
    ·rw[hvW]at z;cases z
   refine⟨_,_,s78 _ _ hp,by kernel_rfl,p,a,ad,s,wv,rfl,S.same s78,t,hwv,_,SqT.of (s78 _ _ ht),_,rfl,u,tw,s.L,mm,ws,v,rfl,(HouT.house hu).mono s78,wf,SqT.of (s8 _ _ htw7),by omega,hvW,fun pl H9 s9 hpl=>⟨pl,rfl,_,SqL.of hpl,_,HT_ hvn,?_⟩⟩
   have s9':=s78.trans s9
   refine D s9' (s9 _ _ (s8 _ _ htw7)) (by omega) ⟨fun z=>absurd z hv0,fun _ _ hm=>absurd lr hm,fun _ _ _ _=>⟨fun _ H10 s10=>⟨rfl,?_⟩,fun z=>absurd rfl z⟩⟩
   rw[if_neg (by simp)]
   have s10':=s9'.trans s10
   refine⟨_,_,s10' _ _ hp,by kernel_rfl,p,a,ad,s,wv,rfl,S.same s10',fun lh rs H11 s11 hlN hlh htr=>⟨lh,rfl,⟨_,SqL.of hlh⟩,?_⟩⟩
   have s11':=s10'.trans s11
   obtain⟨Pw,hPw⟩:∃Pv:Nat->St->Hp->Prop,∀i σ' H',Pv i σ' H'↔(∃o:Option V,Same H11 H'/\σ'=[some (.ref p),some (.ref q),some (.int L),some (.int odd),some (.ref tw),some (.int j),o6,o7,o]):=⟨_,fun _ _ _=>Iff.rfl⟩
   refine forL (xs:=rs) Pw ((hPw _ _ _).mpr ⟨none,Same.refl _,rfl⟩) (fun i σ2 H' _ h2=>by obtain⟨_,s',_⟩:=(hPw _ _ _).mp h2;exact s'.seq (SqL.of hlh)) (fun i x σ2 H' hx h2=>?_) (fun σ2 H' h2=>?_)
   ·obtain⟨o8,s12,rfl⟩:=(hPw _ _ _).mp h2
    have hi:i<s.es.length:=by rw[<-htr.1];exact (List.getElem?_eq_some_iff.mp hx).1
    have hei:s.es[i]?=some s.es[i]:=by simp[hi]
    obtain⟨t8,wt,e1,e2,e3⟩:=htr.2 i _ hei
    rw[hx]at e1
    cases e1
    have hem:=List.mem_of_getElem? hei
    have hbw:=ok0.tb.bW _ hem
    have hbn:=ok0.ne _ hem
    have hbl:=sz.b _ hem
    have hbs:=hall _ hem
    generalize s.es[i]=e at hei e2 e3 hem hbw hbn hbl hbs
    have hb0:¬ (e.1=[]\/isW s.L e.1=false):=fun z=>by
     rcases z with z|z
     ·exact hbn z
     ·rw[hbw.1]at z;cases z
    have s12':=s11'.trans s12
    have f2:=s12 _ _ e2
    have f3:=s12 _ _ e3
    walk_at "rd"
    refine⟨_,SqT.of f2,_,rfl,D s12' f3 hbl ⟨fun z=>absurd z hb0,fun _ _ _ H13 s13=>⟨rfl,?_⟩,fun _ _ h0 h9=>absurd ⟨h0,h9⟩ hodd⟩⟩
    rw[if_neg (by simp)]
    refine⟨_,SqT.of (s13 _ _ f2),_,rfl,_,SqT.of (s13 _ _ f2),_,rfl,D (s12'.trans s13) (s13 _ _ f3) hbl ⟨fun z=>absurd z hb0,fun _ _ hm=>absurd hbw.2 hm,fun _ _ _ _=>⟨fun _ H14 s14=>⟨rfl,?_⟩,fun z=>absurd hbs z⟩⟩⟩
    rw[if_neg (by simp)]
    have s134:=s13.trans s14
    have hne:lsay mm ws e.1≠(e.2+1)%1000000001:=by rw[hbs];omega
    refine⟨_,SqT.of (s134 _ _ f2),_,rfl,_,SqT.of (s134 _ _ f2),_,rfl,_,rfl,by decide,D (s12'.trans s134) (s134 _ _ f3) hbl ⟨fun z=>absurd z hb0,fun _ _ hm=>?_,fun _ _ _ _=>⟨fun z=>absurd z hne,fun _=>⟨List.mem_map.mpr ⟨_,hem,rfl⟩,fun H15 s15=>⟨rfl,?_⟩⟩⟩⟩⟩
    ·omega
    ·rw[if_neg (by simp)]
     exact (hPw _ _ _).mpr ⟨_,s12.trans (s134.trans s15),rfl⟩
   ·obtain⟨o8,s12,rfl⟩:=(hPw _ _ _).mp h2
    walk_at "rd"
    exact k _ (s11'.trans s12)
def GC_ (K:PySem.W.Frag):Sp:=fun vs H Q _=>∃(a:Addr) (ns:List Int),vs=[.ref a]/\SqL K H a (ns.map V.int)/\ns.length<=63/\∀H',Q (.bl true) H'
theorem Kx_   (F:Fun K "law" "law" WW f fd)(T:Txt mg)
  (W:Own K mg C_j7 C_j9 C_jj C_ja C_j1 C_j4)
  (Z:Exs K mg C_j8 C_j5 C_j6 C_j3 C_j2 C_j0)
   (A4:FnOk P w K mg base CX0 2 Aq Bb ["self"] (LV K C_j4 C_j1 C_j7)) (By:Fun K "wants" "SayAsker.wants" Bx Aq Bb) (A7:Binds K Bb ["self"] []) (A8:Meth K C_j4 "wants" Aq)
   (Au:FnOk P w K mg base CX0 1 AI AK ["script","k"] (Md K)) (Ap:Fun K "_law_cell" "_law_cell" Ci AI AK) (Av:Binds K AK ["script","k"] []) (Aw:mg "_law_cell"=some (.ref AI))
   (DA:FnOk P w K mg base CX0 15 DB GI ["asker","mark"] (JU K C_j4 C_j1 C_j7)) (Cs:Fun K "_law_hears" "_law_hears" D3 DB GI) (DC:Binds K GI ["asker","mark"] []) (DD:mg "_law_hears"=some (.ref DB))
   (Ib:FnOk P w K mg base CX0 4 Fl NL ["asker"] (Oe K C_j4 C_j1 C_j7)) (Fm:Fun K "_law_agrees" "_law_agrees" Eh Fl NL) (Ic:Binds K NL ["asker"] []) (Ie:mg "_law_agrees"=some (.ref Fl))
   (AL:FnOk P w K mg base CX0 15 Cn Fe ["asker","word","mark"] (Hz K C_j4 C_j1 C_j7)) (AA:Fun K "_law_differs" "_law_differs" CG Cn Fe) (AM:Binds K Fe ["asker","word","mark"] []) (AN:mg "_law_differs"=some (.ref Cn))
   (Fg:FnOk P w K mg base CX0 16 CC FH ["script","letters","turns"] (Oi K C_j4 C_j1 C_j7)) (Dz:Fun K "_law_driven" "_law_driven" Dm CC FH) (Fh:Binds K FH ["script","letters","turns"] []) (Fi:mg "_law_driven"=some (.ref CC))
   (Ey:FnOk P w K mg base CX0 4 Fj IT ["asker"] (Xj K C_j4 C_j1 C_j7)) (Dj:Fun K "_law_all" "_law_all" F8 Fj IT) (Ez:Binds K IT ["asker"] []) (EA:mg "_law_all"=some (.ref Fj))
   (JA:FnOk P w K mg base CX0 17 EB Me ["asker","script","letters","turns"] (Zt K C_j4 C_j1 C_j7)) (FJ:Fun K "_law_goes_on" "_law_goes_on" DJ EB Me) (JC:Binds K Me ["asker","script","letters","turns"] []) (JD:mg "_law_goes_on"=some (.ref EB))
   (F0:FnOk P w K mg base CX0 16 Ck HS ["asker","script","letters","odd"] (T1 K C_j4 C_j1 C_j7)) (C2:Fun K "_law_show_refuses" "_law_show_refuses" BR Ck HS) (F1:Binds K HS ["asker","script","letters","odd"] []) (F2:mg "_law_show_refuses"=some (.ref Ck))
  : FnOk P w K mg base CX0 18 f fd ["script"] (GC_ K):=by
 refine F.ok Ru (fun vs H Q E h=>?_) (fun cdv A outer s H vs Q E hr h=>?_)
 ·obtain⟨a,ns,rfl,_⟩:=h;rfl
 ·obtain⟨q,ns,rfl,hq,hz,k⟩:=h
  have hl:=Ao
  have a0:=Int.emod_nonneg (cell ns 0) (show (3:Int)≠0 by decide)
  have a1:=Int.emod_lt_of_pos (cell ns 0) (show (0:Int)<3 by decide)
  obtain⟨L,hL,l1,l6⟩:∃L:Nat,1+cell ns 0%3+cell ns 0 / 3%4 / 3*3=(L:Int)/\1<=L/\L<=6:=⟨(1+cell ns 0%3+cell ns 0 / 3%4 / 3*3).toNat,by omega,by omega,by omega⟩
  obtain⟨n,hn,hn6⟩:∃n:Nat,cell ns 2%61=(n:Int)/\n<=60:=⟨(cell ns 2%61).toNat,by omega,by omega⟩
  have c9:CPow 10 9:=⟨by omega,by omega,by decide⟩
  refine⟨_,(Ad (AB (i:=1) Ru.nd (Bt (opD0 FE) (Bt (opD0 FE) Ai (Bt (opD Fn) (Aj Au (hr.mono (by decide)) rfl Aw Ap.kp Av .nil Ax (Aa (pvD 0) (Aa Ai Af))) Ai)) (Bt (opD YJ) (Bt (opD PZ) (Bt (opD Fn) (Bt (opD PZ) (Aj Au (hr.mono (by decide)) rfl Aw Ap.kp Av .nil Ax (Aa (pvD 0) (Aa Ai Af))) Ai) Ai) Ai) Ai)))
   (Ad (AB (i:=2) Ru.nd (Bt (opD Fn) (Aj Au (hr.mono (by decide)) rfl Aw Ap.kp Av .nil Ax (Aa (pvD 0) (Aa Ai Af))) Ai))
   (Ad (AB (i:=3) Ru.nd (Aj Fg (hr.mono (by decide)) rfl Fi Dz.kp Fh .nil Ax (Aa (pvD 0) (Aa (pvD 1) (Aa (pvD 2) Af)))))
   (Ad (Cu (ptB (NB (C3 Iq rfl T.isinstance PyProof.Rows.boot_isinstance (Aa (pvD 3) (Aa (Li (v:=.ref C_ja) rfl W.m_ja rfl) Af)))))
   (Ac (Ar Jj))
   AQ)
   (Ad (AB (i:=4) Ru.nd (Bl (pvD 3) W.cl_j4 A8 A4 (hr.mono (by decide)) A7 .nil Ax))
   (Ad (AB (i:=5) Ru.nd (Aj Ey (hr.mono (by decide)) rfl EA Dj.kp Ez .nil Ax (Aa (pvD 3) Af)))
   (Ad (AB (i:=6) Ru.nd (Bt (opD Fn) (Aj Au (hr.mono (by decide)) rfl Aw Ap.kp Av .nil Ax (Aa (pvD 0) (Aa Ai Af))) (Bt (opD GU_) Ai Ai)))
   (Ad (AB (i:=7) Ru.nd (BF (ixLD Jk) (Rq (Aa (AL_ SN Ai) (Aa Ai (Aa (Bt (opD0 FE) Ai (pvD 6)) (Aa (Bt (opD0 DZ_) (AL_ SN Ai) (pvD 6)) Af))))) (Bt (opD Fn) (Aj Au (hr.mono (by decide)) rfl Aw Ap.kp Av .nil Ax (Aa (pvD 0) (Aa Ai Af))) Ai)))
   (Ir (Cu (ptT (Ay (opE NU) (BF (ixTD CY) (pvD 4) Ai) Bm (Bg _)))
   (Ad (Cu (PW.pt (YH (ptT (Ay (opN IW) (Aj Ib (hr.mono (by decide)) rfl Ie Fm.kp Ic .nil Ax (Aa (pvD 3) Af)) Bm (Bg _))) (Ro (ptT (Ay (opN IW) (Aj DA (hr.mono (by decide)) rfl DD Cs.kp DC .nil Ax (Aa (pvD 3) (Aa (pvD 7) Af))) Bm (Bg _))))))
   (Ac (Ar Jj))
   AQ)
   (Ac (Cu (PW.pt (YH (ptT (Ay (opN IW) (Aj AL (hr.mono (by decide)) rfl AN AA.kp AM .nil Ax (Aa (pvD 3) (Aa (GJ (Aa (pvD 1) Af)) (Aa (pvD 7) Af)))) Bm (Bg _))) (Ro (ptT (Ay (opN IW) (Aj AL (hr.mono (by decide)) rfl AN AA.kp AM .nil Ax (Aa (pvD 3) (Aa (GJ Af) (Aa Ai Af)))) Bm (Bg _))))))
   (Ac (Ar Jj))
   AQ)))
   (Ac (Cu (ptT (Ay (opE NU) (BF (ixTD CY) (pvD 4) Ai) Bm (Bg _)))
   (Ac (Cu (DS_ (ptB (NB (Aj F0 (hr.mono (by decide)) rfl F2 C2.kp F1 .nil Ax (Aa (pvD 3) (Aa (pvD 0) (Aa (pvD 1) (Aa (pvD 7) Af))))))))
   (Ac (Ar Jj))
   AQ))
   (Ac (Cu (PW.pt (YH (ptT (Ay (opE NU) (BF (ixTD CY) (pvD 4) Ai) Bm (Bg _))) (Ro (ptT (Ay (opE NU) (BF (ixTD CY) (pvD 4) Ai) Bm (Bg _))))))
   (Ad (Cu (PW.pt (YH (ptT (Ay (opN IW) (Aj Ib (hr.mono (by decide)) rfl Ie Fm.kp Ic .nil Ax (Aa (pvD 3) Af)) Bm (Bg _))) (Ro (ptT (Ay (opN IW) (Aj DA (hr.mono (by decide)) rfl DD Cs.kp DC .nil Ax (Aa (pvD 3) (Aa Ai Af))) Bm (Bg _))))))
   (Ac (Ar Jj))
   AQ)
   (Ac (Cu (PW.pt (YH (ptT (Ay (opN IW) (Aj DA (hr.mono (by decide)) rfl DD Cs.kp DC .nil Ax (Aa (pvD 3) (Aa (pvD 7) Af))) Bm (Bg _))) (Ro (ptT (Ay (opN IW) (Aj AL (hr.mono (by decide)) rfl AN AA.kp AM .nil Ax (Aa (pvD 3) (Aa (GJ (Aa Ai Af)) (Aa Ai Af)))) Bm (Bg _))))))
   (Ac (Ar Jj))
   AQ)))
   (Ac (Ar Jj)))))))
   (Ac (Ar (Jk_ (Ed_ (Hd_ 8 (hu9 hr)) (Aj Ey (hr.mono (by decide)) rfl EA Dj.kp Ez .nil Ax (Aa (pvD 3) Af)) (pvD 5) (Bg _)) (Jj_ (Aj JA (hr.mono (by decide)) rfl JD FJ.kp JC .nil Ax (Aa (pvD 3) (Aa (pvD 0) (Aa (pvD 1) (Aa (pvD 2) Af)))))))))))))))))),?_⟩
  walk_at "rd"
  refine⟨q,ns,0,rfl,hq,_,rfl,by decide,q,ns,0,rfl,hq,_,rfl,⟨by decide,by decide⟩,by decide,⟨by decide,by decide⟩,.inr ⟨by decide,by decide⟩,q,ns,2,rfl,hq,_,rfl,by decide,q,ns,L,n,by rw[hL,hn],hq,hz,l1,l6,by omega,fun p a ad H1 most s x wv hm dr S hw hk1 hn1 fr=>?_⟩
  have e01:Same H H1:=hk1
  have b0:=Int.emod_nonneg (cell ns 1) (show (4:Int)≠0 by decide)
  have b1:=Int.emod_lt_of_pos (cell ns 1) (show (0:Int)<4 by decide)
  have m1:1<=most:=by rw[hm];split<;>omega
  have m4:most<=4:=by rw[hm];split<;>omega
  have hb:(most+1)*(most+L)<=5*10:=Nat.mul_le_mul (by omega) (by omega)
  have r:=dr.ok l1 l6 m1 (by omega) (by omega)
  have bd:Bd 100 s:=by unfold Bd;rw[r.l,r.m];omega
  have hre:=r.e
  have hw:Cf K H1 s.L wv x:=by rw[r.l];exact hw
  obtain⟨⟨dx,L',hp⟩,_⟩:=id S
  refine⟨_,_,.ins hp W.cl_j4 W.ka_SayAsker Z.c_j3.gs Z.c_j3.tk W.ko_SayAsker,P4,false,W.kk_SayAsker_Asker,?_⟩
  rw[if_neg (by simp)]
  refine⟨p,rfl,_,_,hp,by kernel_rfl,p,a,ad,s,wv,rfl,S,p,a,ad,s,wv,x,rfl,S,hw,fun lA H2 s2 A2=>?_⟩
  refine⟨q,ns,6,rfl,(e01.trans s2).seq hq,c9,_,rfl,by decide,by omega,fun lo hlo=>?_⟩
  obtain⟨far,hfar⟩:∃far:Int,far=cell ns 6%10 ^ Int.toNat 9:=⟨_,rfl⟩
  have hfar0:0<=far:=by rw[hfar];exact Int.emod_nonneg _ (by decide)
  rw[<-hfar]
  have s3:=s2.newT hlo (o:=.lst [V.int (-1),V.int 1000000001,V.int (1000000001+far),V.int (-2-far)])
  have A3:=A2.mono (Same.new hlo (o:=.lst [V.int (-1),V.int 1000000001,V.int (1000000001+far),V.int (-2-far)]))
  obtain⟨odd,ho,hodd⟩:∃odd:Int,atI [V.int (-1),V.int 1000000001,V.int (1000000001+far),V.int (-2-far)] (cell ns 7%4)=some (V.int odd)/\¬ (0<=odd/\odd<=1000000000):=by
   have d0:=Int.emod_nonneg (cell ns 7) (show (4:Int)≠0 by decide)
   have d1:=Int.emod_lt_of_pos (cell ns 7) (show (0:Int)<4 by decide)
   have d2:cell ns 7%4=0\/cell ns 7%4=1\/cell ns 7%4=2\/cell ns 7%4=3:=by omega
   rcases d2 with d|d|d|d<;>rw[d]
   ·exact⟨_,rfl,by omega⟩
   ·exact⟨_,rfl,by omega⟩
   ·exact⟨_,rfl,by omega⟩
   ·exact⟨_,rfl,by omega⟩
  refine⟨q,ns,7,rfl,(e01.trans s3).seq hq,_,rfl,by decide,_,SqL.of Ae,_,ho,?_⟩
  generalize upd H2 lo (.lst [V.int (-1),V.int 1000000001,V.int (1000000001+far),V.int (-2-far)])=H3 at s3 A3
  rw[hL,hn]
  have S3:=S.same s3
  have w3:=hw.mono (TK.of s3)
  refine⟨fun σ' H'=>σ'=[some (.ref q),some (.int L),some (.int n),some (.ref p),some wv,some (.ref lA),some (.int far),some (.int odd)]/\Same H3 H',?_,fun σ' H' hh=>?_⟩
  ·have Ag:∀{H':Hp} {Q':VK} {E':XK},Same H3 H'->x.tag ≠ "show" -> QS H' Q' "turn value" -> Oe K C_j4 C_j1 C_j7 [.ref p] H' Q' E':=fun {H'} {Q'} {E'} e htg hk=>⟨p,a,ad,s,wv,x,rfl,S3.same e,w3.mono (TK.of e),htg,hk⟩
   have Ht:∀{H':Hp} {m:Int} {Q':VK} {E':XK},Same H3 H'->x.tag ≠ "ask" -> QS H' Q' "turn value" -> JU K C_j4 C_j1 C_j7 [.ref p,.int m] H' Q' E':=fun {H'} {m} {Q'} {E'} e htg hk=>⟨p,a,ad,s,wv,x,100,m,rfl,S3.same e,w3.mono (TK.of e),r.ok,bd,by omega,fun _=>hk,fun c hc=>absurd (by rw[hc];rfl) htg⟩
   have Dt:∀{H':Hp} {t:Addr} {w:List Int} {m:Int} {Q':VK} {E':XK},Same H3 H'->H' t=some (.tup (w.map V.int))->w.length<=600->x.tag ≠ "show" -> QS H' Q' "turn value" -> Hz K C_j4 C_j1 C_j7 [.ref p,.ref t,.int m] H' Q' E':=fun {H'} {t} {w} {m} {Q'} {E'} e ht hw6 htg hk=>⟨p,a,t,ad,s,wv,x,100,w,m,rfl,S3.same e,w3.mono (TK.of e),r.ok,bd,by omega,ht,hw6,fun _=>hk,fun mm ws hx=>absurd (by rw[hx];rfl) htg⟩
   obtain⟨t,u,hwv,ht,hu⟩:=id w3
   rw[hwv]
   cases hx:x with
   |ask c=>
    rw[hx]at ht
    have ht:H3 t=some (.tup [.str ("ask" : Str),.ref u]):=ht
    have n1:x.tag ≠ "show" := by rw[hx];exact (by decide +kernel:¬ ("ask" : Str) = "show")
    walk_at "rd"
    refine⟨_,SqT.of ht,_,rfl,rfl,?_⟩
    rw[if_pos rfl]
    refine Ag (Same.refl _) n1 fun H4 s4=>⟨rfl,?_⟩
    rw[if_neg (by simp)]
    refine⟨p,a,ad,s,wv,x,100,odd,rfl,S3.same s4,w3.mono (TK.of s4),r.ok,bd,by omega,fun z=>absurd (by rw[hx];rfl) z,fun c hc=>⟨hodd,fun H5 s5'=>⟨rfl,?_⟩⟩⟩
    have s5:=s4.trans s5'
    rw[if_neg (by simp)]
    refine⟨by omega,fun t1 ht1=>Dt (w:=[(L:Int)]) (s5.newT ht1) Ae (by simp) n1 fun H6 s6'=>⟨rfl,?_⟩⟩
    have s6:=(s5.newT ht1).trans s6'
    rw[if_neg (by simp)]
    refine⟨by omega,fun t2 ht2=>Dt (w:=[]) (s6.newT ht2) Ae (by simp) n1 fun H7 s7'=>⟨rfl,?_⟩⟩
    rw[if_neg (by simp)]
    first|exact⟨rfl,(s6.newT ht2).trans s7'⟩|exact (s6.newT ht2).trans s7'
   |shown mm ws=>
    rw[hx]at ht
    have ht:H3 t=some (.tup [.str ("show" : Str),.ref u]):=ht
    have ok:=r.ok
    rw[hx]at ok
    have w3':=w3
    rw[hx]at w3'
    walk_at "rd"
    refine⟨_,SqT.of ht,_,rfl,rfl,?_⟩
    rw[if_neg (fun z=>absurd (V.str.inj z) (by decide +kernel))]
    refine⟨_,SqT.of ht,_,rfl,rfl,?_⟩
    rw[if_pos rfl]
    refine⟨p,a,q,ns,L,odd,ad,s,wv,mm,ws,rfl,S3,w3',ok,bd,r.l,l1,by omega,(e01.trans s3).seq hq,hz,hodd,fun H4 s4=>⟨true,rfl,?_⟩⟩
    rw[if_neg (by simp)]
    first|exact⟨rfl,s4⟩|exact s4
   |done mm ws=>
    rw[hx]at ht
    have ht:H3 t=some (.tup [.str ("done" : Str),.ref u]):=ht
    walk_at "rd"
    refine⟨_,SqT.of ht,_,rfl,rfl,?_⟩
    rw[if_neg (fun z=>absurd (V.str.inj z) (by decide +kernel))]
    refine⟨_,SqT.of ht,_,rfl,rfl,?_⟩
    rw[if_neg (fun z=>absurd (V.str.inj z) (by decide +kernel))]
    refine⟨_,SqT.of ht,_,rfl,rfl,?_⟩
    rw[if_pos rfl]
    have n1:x.tag ≠ "show" := by rw[hx];exact (by decide +kernel:¬ ("done" : Str) = "show")
    have n2:x.tag ≠ "ask" := by rw[hx];exact (by decide +kernel:¬ ("done" : Str) = "ask")
    refine Ag (Same.refl _) n1 fun H4 s4=>⟨rfl,?_⟩
    rw[if_neg (by simp)]
    refine Ht s4 n2 fun H5 s5'=>⟨rfl,?_⟩
    have s5:=s4.trans s5'
    rw[if_neg (by simp)]
    refine Ht s5 n2 fun H6 s6'=>⟨rfl,?_⟩
    have s6:=s5.trans s6'
    rw[if_neg (by simp)]
    refine⟨by omega,fun t1 ht1=>Dt (w:=[0]) (s6.newT ht1) Ae (by simp) n1 fun H7 s7'=>⟨rfl,?_⟩⟩
    rw[if_neg (by simp)]
    first|exact⟨rfl,(s6.newT ht1).trans s7'⟩|exact (s6.newT ht1).trans s7'
   |spent c=>
    rw[hx]at ht
    have ht:H3 t=some (.tup [.str ("spent" : Str),.ref u]):=ht
    walk_at "rd"
    refine⟨_,SqT.of ht,_,rfl,rfl,?_⟩
    rw[if_neg (fun z=>absurd (V.str.inj z) (by decide +kernel))]
    refine⟨_,SqT.of ht,_,rfl,rfl,?_⟩
    rw[if_neg (fun z=>absurd (V.str.inj z) (by decide +kernel))]
    refine⟨_,SqT.of ht,_,rfl,rfl,?_⟩
    rw[if_neg (fun z=>absurd (V.str.inj z) (by decide +kernel))]
    refine⟨_,SqT.of ht,_,rfl,rfl,?_⟩
    rw[if_pos rfl]
    have n1:x.tag ≠ "show" := by rw[hx];exact (by decide +kernel:¬ ("spent" : Str) = "show")
    have n2:x.tag ≠ "ask" := by rw[hx];exact (by decide +kernel:¬ ("spent" : Str) = "ask")
    refine Ag (Same.refl _) n1 fun H4 s4=>⟨rfl,?_⟩
    rw[if_neg (by simp)]
    refine Ht s4 n2 fun H5 s5'=>⟨rfl,?_⟩
    have s5:=s4.trans s5'
    rw[if_neg (by simp)]
    refine Ht s5 n2 fun H6 s6'=>⟨rfl,?_⟩
    have s6:=s5.trans s6'
    rw[if_neg (by simp)]
    refine⟨by omega,fun t1 ht1=>Dt (w:=[0]) (s6.newT ht1) Ae (by simp) n1 fun H7 s7'=>⟨rfl,?_⟩⟩
    rw[if_neg (by simp)]
    first|exact⟨rfl,(s6.newT ht1).trans s7'⟩|exact (s6.newT ht1).trans s7'
  ·obtain⟨rfl,s4⟩:=hh
   have S4:=S3.same s4
   have w4:=w3.mono (TK.of s4)
   have e04:=e01.trans (s3.trans s4)
   walk_at "rd"
   refine⟨p,a,ad,s,wv,x,rfl,S4,w4,fun lB H5 s5 B5=>⟨_,rfl,_,Vi.eq57 B5 (A3.mono (s4.trans s5)),?_⟩⟩
   rw[if_pos rfl]
   exact⟨p,a,q,ns,L,most,n,ad,s,wv,x,rfl,S4.same s5,w4.mono (TK.of s5),hm,dr,l1,l6,hn6,Scr.of hq (e04.trans s5) fr.2,hz,k⟩
end
theorem all_mk {l:PySem.W.OpenLaw}{w:World}{K:PySem.W.Frag}{h:Heap}{mg:Str->Option Value}{fa Dv Aq AI JJ Dn JK Gd Cp DT Am J8 B7 M9 CI Gx Qk An Bz Wi BE Bh Dq Ih Cm DR Bn Cq Ex Bo Bp Ij Be Cd Bs BG D8 Bw A0 DB D9 Bj Fl Bf CL Ba Cn E9 E1 FW Bq Ea Cr D7 AJ Ip G8 Eo Em DZ Ep CC Dx B0 CK BH Fj EB Ck IT_:Addr}(X:K.In h)(G:h.Ns mainGlobals mg)(hfa:mg "law"=some (.ref fa))
  {C_j8 C_j5 C_j6 C_j3 C_j2 C_j0 C_j7 C_j9 C_jj C_ja C_j1 C_j4:Addr}
  {Vk Vl:Option Addr} {Vm:Array (Option Value)} {Vn Vo Vp Vq NM Vr:Value}
  {Qy Qz:Option Addr} {QA:Array (Option Value)} {QB QC QD QE JW QF:Value}
  {Zu Zv:Option Addr} {Zw:Array (Option Value)} {Zx Zy Zz ZA RC ZC:Value}
  {Dr_ Ds_:Option Addr} {Dt_:Array (Option Value)} {Du_ Dv_ Dw_ Dx_ Wo Dy_:Value}
  {Xk Xl:Option Addr} {Xm:Array (Option Value)} {Xn Xo Xp Xq O5 Xr:Value}
  {Dz_ DA_:Option Addr} {DB_:Array (Option Value)} {DC_ DD_ DE_ DF_ Wq DG_:Value}
  {Xs Xt:Option Addr} {Xu:Array (Option Value)} {Xv Xw Xx Xy O6 Xz:Value}
  {XA XB:Option Addr} {XC:Array (Option Value)} {XD XE XF XG O7 XH:Value}
  {Bw_ Bx_:Option Addr} {By_:Array (Option Value)} {Bz_ BA_ BB_ BC_ T2 BD_:Value}
  {Nj Nk:Option Addr} {Nl:Array (Option Value)} {Nm Nn Np Nq HU Nr:Value}
  {GD_ GE_:Option Addr} {GF_:Array (Option Value)} {GG_ GH_ GI_ GJ_ CP_ GK_:Value}
  {ZD ZE:Option Addr} {ZF:Array (Option Value)} {ZH ZI ZJ ZK RD ZL:Value}
  {FD_ FE_:Option Addr} {FF_:Array (Option Value)} {FG_ FH_ FI_ FJ_ ZM FK_:Value}
  {T3 T4:Option Addr} {T5:Array (Option Value)} {T6 T7 T8 T9 Mf Ua:Value}
  {DH_ DI_:Option Addr} {DJ_:Array (Option Value)} {DK_ DL_ DM_ DN_ Wr DO_:Value}
  {GL_ GM_:Option Addr} {GN_:Array (Option Value)} {GO_ GP_ GQ_ GR_ CQ_ GS_:Value}
  {KR KS:Option Addr} {KU:Array (Option Value)} {KW KY KZ K0 GQ K1:Value}
  {O8 O9:Option Addr} {Pb:Array (Option Value)} {Pd Pe Pf Pg Jg Ph:Value}
  {IU_ IV_:Option Addr} {IW_:Array (Option Value)} {IX_ IY_ IZ_ Ja_ FL_ Jb_:Value}
  {ZN ZO:Option Addr} {ZP:Array (Option Value)} {ZQ ZR ZS ZT RE ZU:Value}
  {QG QH:Option Addr} {QI:Array (Option Value)} {QJ QK QL QM JX QN:Value}
  {Vs Vt:Option Addr} {Vu:Array (Option Value)} {Vv Vw Vx Vy NN Vz:Value}
  {BE_ BF_:Option Addr} {BG_:Array (Option Value)} {BH_ BI_ BJ_ BK_ Ub BL_:Value}
  {Uc Ud:Option Addr} {Ue:Array (Option Value)} {Ug Uh Ui Uj Mg Uk:Value}
  {RW RX:Option Addr} {RY:Array (Option Value)} {RZ R0 R1 R3 Ky R4:Value}
  {Mh Mi:Option Addr} {Mj:Array (Option Value)} {Ml Mm Mn Mo HG Mp:Value}
  {XI XJ:Option Addr} {XM:Array (Option Value)} {XN XO XQ XR Pj XS:Value}
  {Ul Um:Option Addr} {Uo:Array (Option Value)} {Uq Ur Us Ut Mq Uu:Value}
  {Mr Ms:Option Addr} {Mt:Array (Option Value)} {Mu Mv Mw Mx HH My:Value}
  {Mz MA:Option Addr} {MB:Array (Option Value)} {MC ME MF MG HI MK:Value}
  {BM_ BN_:Option Addr} {BO_:Array (Option Value)} {BP_ BQ_ BR_ BS_ Uv BT_:Value}
  {K2 K3:Option Addr} {K4:Array (Option Value)} {K5 K6 K7 K8 GR K9:Value}
  {QO QP:Option Addr} {QQ:Array (Option Value)} {QR QT QU QV JY QW:Value}
  {VA VB:Option Addr} {VC:Array (Option Value)} {VD VE VF VG NO VH:Value}
  {Oj Ol:Option Addr} {Om:Array (Option Value)} {Oo Oq Ot Ou IU Ov:Value}
  {XT XU:Option Addr} {XW:Array (Option Value)} {XX XY XZ X0 Pk X1:Value}
  {R5 R6:Option Addr} {R7:Array (Option Value)} {R8 R9 Sa Sb Kz Sd:Value}
  {QX QY:Option Addr} {QZ:Array (Option Value)} {Q0 Q1 Q2 Q3 JZ Q4:Value}
  {X2 X3:Option Addr} {X4:Array (Option Value)} {X5 X6 X7 X8 Pl X9:Value}
  {Ya Yb:Option Addr} {Yc:Array (Option Value)} {Yd Ye Yf Yg Pm Yh:Value}
  {Q5 Q6:Option Addr} {Q7:Array (Option Value)} {Q8 Q9 Ra Rb J1 Rc:Value}
  {VI VJ:Option Addr} {VL:Array (Option Value)} {VM VN VO VP NQ VQ:Value}
  {La Lb:Option Addr} {Lc:Array (Option Value)} {Ld Le Lf Lg GS Lh:Value}
  {Uw Ux:Option Addr} {Uy:Array (Option Value)} {Uz UA UB UC ML UD:Value}
  {Pn Po:Option Addr} {Pp:Array (Option Value)} {Pq Pt Pu Px Jh Pz:Value}
  {UE UG:Option Addr} {UH:Array (Option Value)} {UI UJ UK UL MM UM:Value}
  {ZV ZW:Option Addr} {ZX:Array (Option Value)} {ZY ZZ Z0 Z1 RF Z2:Value}
  {Yi Yj:Option Addr} {Yk:Array (Option Value)} {Yl Ym Yn Yo PD Yp:Value}
  {Z3 Z4:Option Addr} {Z5:Array (Option Value)} {Z6 Z7 Z8 Z9 RG Aa_:Value}
  {MN MO:Option Addr} {MQ:Array (Option Value)} {MR MS MT MU HJ MV:Value}
  {Yq Yr:Option Addr} {Ys:Array (Option Value)} {Yt Yu Yv Yw PH Yx:Value}
  {Se Sf:Option Addr} {Sg:Array (Option Value)} {Sh Si Sj Sk KA Sl:Value}
  {Yy Yz:Option Addr} {YA:Array (Option Value)} {YB YC YD YE PJ YF:Value}
  {Rf Rg:Option Addr} {Rh:Array (Option Value)} {Ri Rj Rk Rl J2 Rm:Value}
  {BU_ BV_:Option Addr} {BW_:Array (Option Value)} {BX_ BY_ BZ_ Ca_ UN Cb_:Value}
  {Ab_ Ac_:Option Addr} {Ad_:Array (Option Value)} {Ae_ Af_ Ag_ Ah_ RH Ai_:Value}
  {Aj_ Ak_:Option Addr} {Al_:Array (Option Value)} {Am_ An_ Ao_ Ap_ RI Aq_:Value}
  {Ar_ As_:Option Addr} {At_:Array (Option Value)} {Au_ Av_ Aw_ Ax_ RJ Ay_:Value}
  {Sm Sn:Option Addr} {So:Array (Option Value)} {Sq Sr Ss Su KC Sv:Value}
  {Az_ AA_:Option Addr} {AB_:Array (Option Value)} {AC_ AD_ AE_ AF_ RK AG_:Value}
  {VR VS:Option Addr} {VT:Array (Option Value)} {VU VW VX VY NR VZ:Value}
  {V0 V1:Option Addr} {V2:Array (Option Value)} {V3 V4 V5 V6 NS V7:Value}
  {PL PM:Option Addr} {PN:Array (Option Value)} {PQ PR PU PV Ji PX:Value}
  {UO UP:Option Addr} {UQ:Array (Option Value)} {UR US UT UU MW UW:Value}
  {Ow Ox:Option Addr} {Oy:Array (Option Value)} {Oz OA OB OC IV OD:Value}
  {Cc_ Cd_:Option Addr} {Ce_:Array (Option Value)} {Cf_ Cg_ Ch_ Ci_ UX Cj_:Value}
  {UY UZ:Option Addr} {U0:Array (Option Value)} {U1 U2 U3 U4 MX U5:Value}
  {Nt Nu:Option Addr} {Nv:Array (Option Value)} {Nw Nx Ny Nz HV NA:Value}
  {Ky_ HU_:Option Addr} {Kz_:Array (Option Value)} {KA_ HV_ HW_ HX_ FM_ HY_:Value}
  (aC_j7:PySem.W.nsIn K mainGlobals "Book"=some (some (.ref C_j7)))
  (pg_j7:PySem.W.plainGet K C_j7 Str.empty=true)
  (hd_j7:PySem.W.hasDictIn K C_j7=true)
  (po_j7:PySem.W.plainOver K C_j7=true)
  (sa_j7:PySem.W.findIn K (.ref C_j7) "__setattr__"=some (some (.builtin "object.__setattr__")))
  (mk_j7:PySem.W.makesIn K C_j7=true)
  (kc_j7:PySem.W.keepIn K (.ref C_j7)=true)
  (n_letters_Book:PySem.W.findIn K (.ref C_j7) "letters"=some none)
  (n_marks_Book:PySem.W.findIn K (.ref C_j7) "marks"=some none)
  (aC_j9:PySem.W.nsIn K mainGlobals "Turns"=some (some (.ref C_j9)))
  (aC_jj:PySem.W.nsIn K mainGlobals "Hunt"=some (some (.ref C_jj)))
  (aC_ja:PySem.W.nsIn K mainGlobals "Asker"=some (some (.ref C_ja)))
  (aC_j1:PySem.W.nsIn K mainGlobals "SayHunt"=some (some (.ref C_j1)))
  (pg_j1:PySem.W.plainGet K C_j1 Str.empty=true)
  (hd_j1:PySem.W.hasDictIn K C_j1=true)
  (po_j1:PySem.W.plainOver K C_j1=true)
  (sa_j1:PySem.W.findIn K (.ref C_j1) "__setattr__"=some (some (.builtin "object.__setattr__")))
  (mk_j1:PySem.W.makesIn K C_j1=true)
  (kc_j1:PySem.W.keepIn K (.ref C_j1)=true)
  (n_book_SayHunt:PySem.W.findIn K (.ref C_j1) "book"=some none)
  (n_ends_SayHunt:PySem.W.findIn K (.ref C_j1) "ends"=some none)
  (n_gaps_SayHunt:PySem.W.findIn K (.ref C_j1) "gaps"=some none)
  (n_guess_SayHunt:PySem.W.findIn K (.ref C_j1) "guess"=some none)
  (n_letters_SayHunt:PySem.W.findIn K (.ref C_j1) "letters"=some none)
  (n_most_SayHunt:PySem.W.findIn K (.ref C_j1) "most"=some none)
  (n_ways_SayHunt:PySem.W.findIn K (.ref C_j1) "ways"=some none)
  (n_wish_SayHunt:PySem.W.findIn K (.ref C_j1) "wish"=some none)
  (n_wrong_SayHunt:PySem.W.findIn K (.ref C_j1) "wrong"=some none)
  (aC_j4:PySem.W.nsIn K mainGlobals "SayAsker"=some (some (.ref C_j4)))
  (pg_j4:PySem.W.plainGet K C_j4 Str.empty=true)
  (hd_j4:PySem.W.hasDictIn K C_j4=true)
  (po_j4:PySem.W.plainOver K C_j4=true)
  (sa_j4:PySem.W.findIn K (.ref C_j4) "__setattr__"=some (some (.builtin "object.__setattr__")))
  (mk_j4:PySem.W.makesIn K C_j4=true)
  (kc_j4:PySem.W.keepIn K (.ref C_j4)=true)
  (n_hunt_SayAsker:PySem.W.findIn K (.ref C_j4) "hunt"=some none)
  (n_letters_SayAsker:PySem.W.findIn K (.ref C_j4) "letters"=some none)
  {tk_j28:Tok} (q_j28:PySem.W.nsIn K mainGlobals "MOST_MARK"=some (some (.int 1000000000 tk_j28)))
  (a_j11:PySem.W.findIn K (.ref C_j1) "wants"=some (some (.ref Dv)))
  (i_j11:PySem.W.isFn K (.ref Dv)=true)
  (l_j11:K.lookup Dv=some ⟨Vn,Vk,.func (PySem.W.fnOf "wants" "Turns.wants" (Al Ed) (Ak Ed) (Ab Ed) .none Vo Vp Vq Vl NM Vr),Vm⟩)
  (c_j11:PySem.W.codeIn K NM "Turns.wants"=true)
  (k_j11:PySem.W.keepIn K (.ref Dv)=true)
  (a_jq:PySem.W.findIn K (.ref C_j4) "wants"=some (some (.ref Aq)))
  (i_jq:PySem.W.isFn K (.ref Aq)=true)
  (l_jq:K.lookup Aq=some ⟨QB,Qy,.func (PySem.W.fnOf "wants" "SayAsker.wants" (Al Bx) (Ak Bx) (Ab Bx) .none QC QD QE Qz JW QF),QA⟩)
  (c_jq:PySem.W.codeIn K JW "SayAsker.wants"=true)
  (k_jq:PySem.W.keepIn K (.ref Aq)=true)
  (a_j1s:PySem.W.nsIn K mainGlobals "_law_cell"=some (some (.ref AI)))
  (l_j1s:K.lookup AI=some ⟨Zx,Zu,.func (PySem.W.fnOf "_law_cell" "_law_cell" (Al Ci) (Ak Ci) (Ab Ci) .none Zy Zz ZA Zv RC ZC),Zw⟩)
  (c_j1s:PySem.W.codeIn K RC "_law_cell"=true)
  (k_j1s:PySem.W.keepIn K (.ref AI)=true)
  (a_j21:PySem.W.nsIn K mainGlobals "is_word"=some (some (.ref JJ)))
  (l_j21:K.lookup JJ=some ⟨Du_,Dr_,.func (PySem.W.fnOf "is_word" "is_word" (Al Iv) (Ak Iv) (Ab Iv) .none Dv_ Dw_ Dx_ Ds_ Wo Dy_),Dt_⟩)
  (c_j21:PySem.W.codeIn K Wo "is_word"=true)
  (k_j21:PySem.W.keepIn K (.ref JJ)=true)
  (a_j1o:PySem.W.nsIn K mainGlobals "check_word"=some (some (.ref Dn)))
  (l_j1o:K.lookup Dn=some ⟨Xn,Xk,.func (PySem.W.fnOf "check_word" "check_word" (Al D0) (Ak D0) (Ab D0) .none Xo Xp Xq Xl O5 Xr),Xm⟩)
  (c_j1o:PySem.W.codeIn K O5 "check_word"=true)
  (k_j1o:PySem.W.keepIn K (.ref Dn)=true)
  (a_j22:PySem.W.nsIn K mainGlobals "is_mark"=some (some (.ref JK)))
  (l_j22:K.lookup JK=some ⟨DC_,Dz_,.func (PySem.W.fnOf "is_mark" "is_mark" (Al Iw) (Ak Iw) (Ab Iw) .none DD_ DE_ DF_ DA_ Wq DG_),DB_⟩)
  (c_j22:PySem.W.codeIn K Wq "is_mark"=true)
  (k_j22:PySem.W.keepIn K (.ref JK)=true)
  (a_j1p:PySem.W.nsIn K mainGlobals "check_mark"=some (some (.ref Gd)))
  (l_j1p:K.lookup Gd=some ⟨Xv,Xs,.func (PySem.W.fnOf "check_mark" "check_mark" (Al EI) (Ak EI) (Ab EI) .none Xw Xx Xy Xt O6 Xz),Xu⟩)
  (c_j1p:PySem.W.codeIn K O6 "check_mark"=true)
  (k_j1p:PySem.W.keepIn K (.ref Gd)=true)
  (a_j17:PySem.W.findIn K (.ref C_j7) "check"=some (some (.ref Cp)))
  (i_j17:PySem.W.isFn K (.ref Cp)=true)
  (l_j17:K.lookup Cp=some ⟨XD,XA,.func (PySem.W.fnOf "check" "Book.check" (Al D1) (Ak D1) (Ab D1) .none XE XF XG XB O7 XH),XC⟩)
  (c_j17:PySem.W.codeIn K O7 "Book.check"=true)
  (k_j17:PySem.W.keepIn K (.ref Cp)=true)
  (a_j1n:PySem.W.findIn K (.ref C_j7) "put"=some (some (.ref DT)))
  (i_j1n:PySem.W.isFn K (.ref DT)=true)
  (l_j1n:K.lookup DT=some ⟨Bz_,Bw_,.func (PySem.W.fnOf "put" "Book.put" (Al F7) (Ak F7) (Ab F7) .none BA_ BB_ BC_ Bx_ T2 BD_),By_⟩)
  (c_j1n:PySem.W.codeIn K T2 "Book.put"=true)
  (k_j1n:PySem.W.keepIn K (.ref DT)=true)
  (a_ji:PySem.W.findIn K (.ref C_j1) "check_wants"=some (some (.ref Am)))
  (i_ji:PySem.W.isFn K (.ref Am)=true)
  (l_ji:K.lookup Am=some ⟨Nm,Nj,.func (PySem.W.fnOf "check_wants" "Turns.check_wants" (Al AX) (Ak AX) (Ab AX) .none Nn Np Nq Nk HU Nr),Nl⟩)
  (c_ji:PySem.W.codeIn K HU "Turns.check_wants"=true)
  (k_ji:PySem.W.keepIn K (.ref Am)=true)
  (a_j25:PySem.W.nsIn K mainGlobals "trail"=some (some (.ref J8)))
  (l_j25:K.lookup J8=some ⟨GG_,GD_,.func (PySem.W.fnOf "trail" "trail" (Al Ls) (Ak Ls) (Ab Ls) .none GH_ GI_ GJ_ GE_ CP_ GK_),GF_⟩)
  (c_j25:PySem.W.codeIn K CP_ "trail"=true)
  (k_j25:PySem.W.keepIn K (.ref J8)=true)
  (a_j1j:PySem.W.findIn K (.ref C_j7) "told"=some (some (.ref B7)))
  (i_j1j:PySem.W.isFn K (.ref B7)=true)
  (l_j1j:K.lookup B7=some ⟨ZH,ZD,.func (PySem.W.fnOf "told" "Book.told" (Al Ee) (Ak Ee) (Ab Ee) .none ZI ZJ ZK ZE RD ZL),ZF⟩)
  (c_j1j:PySem.W.codeIn K RD "Book.told"=true)
  (k_j1j:PySem.W.keepIn K (.ref B7)=true)
  (a_j24:PySem.W.nsIn K mainGlobals "halved"=some (some (.ref M9)))
  (l_j24:K.lookup M9=some ⟨FG_,FD_,.func (PySem.W.fnOf "halved" "halved" (Al J6) (Ak J6) (Ab J6) .none FH_ FI_ FJ_ FE_ ZM FK_),FF_⟩)
  (c_j24:PySem.W.codeIn K ZM "halved"=true)
  (k_j24:PySem.W.keepIn K (.ref M9)=true)
  (a_jx:PySem.W.findIn K (.ref C_j1) "ask_for"=some (some (.ref CI)))
  (i_jx:PySem.W.isFn K (.ref CI)=true)
  (l_jx:K.lookup CI=some ⟨T6,T3,.func (PySem.W.fnOf "ask_for" "Hunt.ask_for" (Al DF) (Ak DF) (Ab DF) .none T7 T8 T9 T4 Mf Ua),T5⟩)
  (c_jx:PySem.W.codeIn K Mf "Hunt.ask_for"=true)
  (k_jx:PySem.W.keepIn K (.ref CI)=true)
  (a_j23:PySem.W.nsIn K mainGlobals "rows_of"=some (some (.ref Gx)))
  (l_j23:K.lookup Gx=some ⟨DK_,DH_,.func (PySem.W.fnOf "rows_of" "rows_of" (Al Ho) (Ak Ho) (Ab Ho) .none DL_ DM_ DN_ DI_ Wr DO_),DJ_⟩)
  (c_j23:PySem.W.codeIn K Wr "rows_of"=true)
  (k_j23:PySem.W.keepIn K (.ref Gx)=true)
  (a_j26:PySem.W.nsIn K mainGlobals "cells"=some (some (.ref Qk)))
  (l_j26:K.lookup Qk=some ⟨GO_,GL_,.func (PySem.W.fnOf "cells" "cells" (Al NY) (Ak NY) (Ab NY) .none GP_ GQ_ GR_ GM_ CQ_ GS_),GN_⟩)
  (c_j26:PySem.W.codeIn K CQ_ "cells"=true)
  (k_j26:PySem.W.keepIn K (.ref Qk)=true)
  (a_jc:PySem.W.findIn K (.ref C_j1) "look_for_gaps"=some (some (.ref An)))
  (i_jc:PySem.W.isFn K (.ref An)=true)
  (l_jc:K.lookup An=some ⟨KW,KR,.func (PySem.W.fnOf "look_for_gaps" "Asker.look_for_gaps" (Al AR) (Ak AR) (Ab AR) .none KY KZ K0 KS GQ K1),KU⟩)
  (c_jc:PySem.W.codeIn K GQ "Asker.look_for_gaps"=true)
  (k_jc:PySem.W.keepIn K (.ref An)=true)
  (a_j10:PySem.W.nsIn K mainGlobals "check_not_empty"=some (some (.ref Bz)))
  (l_j10:K.lookup Bz=some ⟨Pd,O8,.func (PySem.W.fnOf "check_not_empty" "check_not_empty" (Al BS) (Ak BS) (Ab BS) .none Pe Pf Pg O9 Jg Ph),Pb⟩)
  (c_j10:PySem.W.codeIn K Jg "check_not_empty"=true)
  (k_j10:PySem.W.keepIn K (.ref Bz)=true)
  (a_j27:PySem.W.nsIn K mainGlobals "said"=some (some (.ref Wi)))
  (l_j27:K.lookup Wi=some ⟨IX_,IU_,.func (PySem.W.fnOf "said" "said" (Al Ta) (Ak Ta) (Ab Ta) .none IY_ IZ_ Ja_ IV_ FL_ Jb_),IW_⟩)
  (c_j27:PySem.W.codeIn K FL_ "said"=true)
  (k_j27:PySem.W.keepIn K (.ref Wi)=true)
  (a_j1r:PySem.W.nsIn K mainGlobals "last_said"=some (some (.ref BE)))
  (l_j1r:K.lookup BE=some ⟨ZQ,ZN,.func (PySem.W.fnOf "last_said" "last_said" (Al Ef) (Ak Ef) (Ab Ef) .none ZR ZS ZT ZO RE ZU),ZP⟩)
  (c_j1r:PySem.W.codeIn K RE "last_said"=true)
  (k_j1r:PySem.W.keepIn K (.ref BE)=true)
  (a_jp:PySem.W.findIn K (.ref C_j1) "answer"=some (some (.ref Bh)))
  (i_jp:PySem.W.isFn K (.ref Bh)=true)
  (l_jp:K.lookup Bh=some ⟨QJ,QG,.func (PySem.W.fnOf "answer" "SayHunt.answer" (Al Cb) (Ak Cb) (Ab Cb) .none QK QL QM QH JX QN),QI⟩)
  (c_jp:PySem.W.codeIn K JX "SayHunt.answer"=true)
  (k_jp:PySem.W.keepIn K (.ref Bh)=true)
  (a_j14:PySem.W.findIn K (.ref C_j1) "halve"=some (some (.ref Dq)))
  (i_j14:PySem.W.isFn K (.ref Dq)=true)
  (l_j14:K.lookup Dq=some ⟨Vv,Vs,.func (PySem.W.fnOf "halve" "Asker.halve" (Al Eg) (Ak Eg) (Ab Eg) .none Vw Vx Vy Vt NN Vz),Vu⟩)
  (c_j14:PySem.W.codeIn K NN "Asker.halve"=true)
  (k_j14:PySem.W.keepIn K (.ref Dq)=true)
  (a_j1x:PySem.W.nsIn K mainGlobals "marks_of"=some (some (.ref Ih)))
  (l_j1x:K.lookup Ih=some ⟨BH_,BE_,.func (PySem.W.fnOf "marks_of" "marks_of" (Al GY) (Ak GY) (Ab GY) .none BI_ BJ_ BK_ BF_ Ub BL_),BG_⟩)
  (c_j1x:PySem.W.codeIn K Ub "marks_of"=true)
  (k_j1x:PySem.W.keepIn K (.ref Ih)=true)
  (a_j1f:PySem.W.nsIn K mainGlobals "marks_by_row"=some (some (.ref Cm)))
  (l_j1f:K.lookup Cm=some ⟨Ug,Uc,.func (PySem.W.fnOf "marks_by_row" "marks_by_row" (Al CF) (Ak CF) (Ab CF) .none Uh Ui Uj Ud Mg Uk),Ue⟩)
  (c_j1f:PySem.W.codeIn K Mg "marks_by_row"=true)
  (k_j1f:PySem.W.keepIn K (.ref Cm)=true)
  (a_j1c:PySem.W.nsIn K mainGlobals "ways_by_marks"=some (some (.ref DR)))
  (l_j1c:K.lookup DR=some ⟨RZ,RW,.func (PySem.W.fnOf "ways_by_marks" "ways_by_marks" (Al CZ) (Ak CZ) (Ab CZ) .none R0 R1 R3 RX Ky R4),RY⟩)
  (c_j1c:PySem.W.codeIn K Ky "ways_by_marks"=true)
  (k_j1c:PySem.W.keepIn K (.ref DR)=true)
  (a_jg:PySem.W.findIn K (.ref C_j1) "make_guess"=some (some (.ref Bn)))
  (i_jg:PySem.W.isFn K (.ref Bn)=true)
  (l_jg:K.lookup Bn=some ⟨Ml,Mh,.func (PySem.W.fnOf "make_guess" "SayHunt.make_guess" (Al BA) (Ak BA) (Ab BA) .none Mm Mn Mo Mi HG Mp),Mj⟩)
  (c_jg:PySem.W.codeIn K HG "SayHunt.make_guess"=true)
  (k_jg:PySem.W.keepIn K (.ref Bn)=true)
  (a_j18:PySem.W.findIn K (.ref C_j7) "heard"=some (some (.ref Cq)))
  (i_j18:PySem.W.isFn K (.ref Cq)=true)
  (l_j18:K.lookup Cq=some ⟨XN,XI,.func (PySem.W.fnOf "heard" "Book.heard" (Al D2) (Ak D2) (Ab D2) .none XO XQ XR XJ Pj XS),XM⟩)
  (c_j18:PySem.W.codeIn K Pj "Book.heard"=true)
  (k_j18:PySem.W.keepIn K (.ref Cq)=true)
  (a_j1g:PySem.W.nsIn K mainGlobals "first_unlike"=some (some (.ref Ex)))
  (l_j1g:K.lookup Ex=some ⟨Uq,Ul,.func (PySem.W.fnOf "first_unlike" "first_unlike" (Al DG) (Ak DG) (Ab DG) .none Ur Us Ut Um Mq Uu),Uo⟩)
  (c_j1g:PySem.W.codeIn K Mq "first_unlike"=true)
  (k_j1g:PySem.W.keepIn K (.ref Ex)=true)
  (a_jh:PySem.W.findIn K (.ref C_j1) "wrong_word"=some (some (.ref Bo)))
  (i_jh:PySem.W.isFn K (.ref Bo)=true)
  (l_jh:K.lookup Bo=some ⟨Mu,Mr,.func (PySem.W.fnOf "wrong_word" "SayHunt.wrong_word" (Al BB) (Ak BB) (Ab BB) .none Mv Mw Mx Ms HH My),Mt⟩)
  (c_jh:PySem.W.codeIn K HH "SayHunt.wrong_word"=true)
  (k_jh:PySem.W.keepIn K (.ref Bo)=true)
  (a_je:PySem.W.findIn K (.ref C_j1) "look_at_guess"=some (some (.ref Bp)))
  (i_je:PySem.W.isFn K (.ref Bp)=true)
  (l_je:K.lookup Bp=some ⟨MC,Mz,.func (PySem.W.fnOf "look_at_guess" "Hunt.look_at_guess" (Al BC) (Ak BC) (Ab BC) .none ME MF MG MA HI MK),MB⟩)
  (c_je:PySem.W.codeIn K HI "Hunt.look_at_guess"=true)
  (k_je:PySem.W.keepIn K (.ref Bp)=true)
  (a_j1y:PySem.W.nsIn K mainGlobals "stranger"=some (some (.ref Ij)))
  (l_j1y:K.lookup Ij=some ⟨BP_,BM_,.func (PySem.W.fnOf "stranger" "stranger" (Al GZ) (Ak GZ) (Ab GZ) .none BQ_ BR_ BS_ BN_ Uv BT_),BO_⟩)
  (c_j1y:PySem.W.codeIn K Uv "stranger"=true)
  (k_j1y:PySem.W.keepIn K (.ref Ij)=true)
  (a_jd:PySem.W.findIn K (.ref C_j1) "look_at_words"=some (some (.ref Be)))
  (i_jd:PySem.W.isFn K (.ref Be)=true)
  (l_jd:K.lookup Be=some ⟨K5,K2,.func (PySem.W.fnOf "look_at_words" "Asker.look_at_words" (Al Bu) (Ak Bu) (Ab Bu) .none K6 K7 K8 K3 GR K9),K4⟩)
  (c_jd:PySem.W.codeIn K GR "Asker.look_at_words"=true)
  (k_jd:PySem.W.keepIn K (.ref Be)=true)
  (a_jo:PySem.W.findIn K (.ref C_j1) "next_wish"=some (some (.ref Cd)))
  (i_jo:PySem.W.isFn K (.ref Cd)=true)
  (l_jo:K.lookup Cd=some ⟨QR,QO,.func (PySem.W.fnOf "next_wish" "Hunt.next_wish" (Al Ct) (Ak Ct) (Ab Ct) .none QT QU QV QP JY QW),QQ⟩)
  (c_jo:PySem.W.codeIn K JY "Hunt.next_wish"=true)
  (k_jo:PySem.W.keepIn K (.ref Cd)=true)
  (a_j12:PySem.W.findIn K (.ref C_j1) "go_on"=some (some (.ref Bs)))
  (i_j12:PySem.W.isFn K (.ref Bs)=true)
  (l_j12:K.lookup Bs=some ⟨VD,VA,.func (PySem.W.fnOf "go_on" "Turns.go_on" (Al Cv) (Ak Cv) (Ab Cv) .none VE VF VG VB NO VH),VC⟩)
  (c_j12:PySem.W.codeIn K NO "Turns.go_on"=true)
  (k_j12:PySem.W.keepIn K (.ref Bs)=true)
  (a_jk:PySem.W.findIn K (.ref C_j1) "keep_answer"=some (some (.ref BG)))
  (i_jk:PySem.W.isFn K (.ref BG)=true)
  (l_jk:K.lookup BG=some ⟨Oo,Oj,.func (PySem.W.fnOf "keep_answer" "Hunt.keep_answer" (Al B4) (Ak B4) (Ab B4) .none Oq Ot Ou Ol IU Ov),Om⟩)
  (c_jk:PySem.W.codeIn K IU "Hunt.keep_answer"=true)
  (k_jk:PySem.W.keepIn K (.ref BG)=true)
  (a_j1b:PySem.W.findIn K (.ref C_j1) "hear"=some (some (.ref D8)))
  (i_j1b:PySem.W.isFn K (.ref D8)=true)
  (l_j1b:K.lookup D8=some ⟨XX,XT,.func (PySem.W.fnOf "hear" "Asker.hear" (Al EK) (Ak EK) (Ab EK) .none XY XZ X0 XU Pk X1),XW⟩)
  (c_j1b:PySem.W.codeIn K Pk "Asker.hear"=true)
  (k_j1b:PySem.W.keepIn K (.ref D8)=true)
  (a_jt:PySem.W.findIn K (.ref C_j4) "hear"=some (some (.ref Bw)))
  (i_jt:PySem.W.isFn K (.ref Bw)=true)
  (l_jt:K.lookup Bw=some ⟨R8,R5,.func (PySem.W.fnOf "hear" "SayAsker.hear" (Al Co) (Ak Co) (Ab Co) .none R9 Sa Sb R6 Kz Sd),R7⟩)
  (c_jt:PySem.W.codeIn K Kz "SayAsker.hear"=true)
  (k_jt:PySem.W.keepIn K (.ref Bw)=true)
  (a_j16:PySem.W.nsIn K mainGlobals "_law_told_kind"=some (some (.ref A0)))
  (l_j16:K.lookup A0=some ⟨Q0,QX,.func (PySem.W.fnOf "_law_told_kind" "_law_told_kind" (Al BI) (Ak BI) (Ab BI) .none Q1 Q2 Q3 QY JZ Q4),QZ⟩)
  (c_j16:PySem.W.codeIn K JZ "_law_told_kind"=true)
  (k_j16:PySem.W.keepIn K (.ref A0)=true)
  (a_j1q:PySem.W.nsIn K mainGlobals "_law_hears"=some (some (.ref DB)))
  (l_j1q:K.lookup DB=some ⟨X5,X2,.func (PySem.W.fnOf "_law_hears" "_law_hears" (Al D3) (Ak D3) (Ab D3) .none X6 X7 X8 X3 Pl X9),X4⟩)
  (c_j1q:PySem.W.codeIn K Pl "_law_hears"=true)
  (k_j1q:PySem.W.keepIn K (.ref DB)=true)
  (a_j19:PySem.W.findIn K (.ref C_j1) "agree"=some (some (.ref D9)))
  (i_j19:PySem.W.isFn K (.ref D9)=true)
  (l_j19:K.lookup D9=some ⟨Yd,Ya,.func (PySem.W.fnOf "agree" "Hunt.agree" (Al EL) (Ak EL) (Ab EL) .none Ye Yf Yg Yb Pm Yh),Yc⟩)
  (c_j19:PySem.W.codeIn K Pm "Hunt.agree"=true)
  (k_j19:PySem.W.keepIn K (.ref D9)=true)
  (a_jr:PySem.W.findIn K (.ref C_j4) "agree"=some (some (.ref Bj)))
  (i_jr:PySem.W.isFn K (.ref Bj)=true)
  (l_jr:K.lookup Bj=some ⟨Q8,Q5,.func (PySem.W.fnOf "agree" "SayAsker.agree" (Al Cc) (Ak Cc) (Ab Cc) .none Q9 Ra Rb Q6 J1 Rc),Q7⟩)
  (c_jr:PySem.W.codeIn K J1 "SayAsker.agree"=true)
  (k_jr:PySem.W.keepIn K (.ref Bj)=true)
  (a_j1l:PySem.W.nsIn K mainGlobals "_law_agrees"=some (some (.ref Fl)))
  (l_j1l:K.lookup Fl=some ⟨VM,VI,.func (PySem.W.fnOf "_law_agrees" "_law_agrees" (Al Eh) (Ak Eh) (Ab Eh) .none VN VO VP VJ NQ VQ),VL⟩)
  (c_j1l:PySem.W.codeIn K NQ "_law_agrees"=true)
  (k_j1l:PySem.W.keepIn K (.ref Fl)=true)
  (a_jb:PySem.W.findIn K (.ref C_j1) "keep_objection"=some (some (.ref Bf)))
  (i_jb:PySem.W.isFn K (.ref Bf)=true)
  (l_jb:K.lookup Bf=some ⟨Ld,La,.func (PySem.W.fnOf "keep_objection" "Hunt.keep_objection" (Al Bv) (Ak Bv) (Ab Bv) .none Le Lf Lg Lb GS Lh),Lc⟩)
  (c_jb:PySem.W.codeIn K GS "Hunt.keep_objection"=true)
  (k_jb:PySem.W.keepIn K (.ref Bf)=true)
  (a_jy:PySem.W.findIn K (.ref C_j1) "differ"=some (some (.ref CL)))
  (i_jy:PySem.W.isFn K (.ref CL)=true)
  (l_jy:K.lookup CL=some ⟨Uz,Uw,.func (PySem.W.fnOf "differ" "Asker.differ" (Al DH) (Ak DH) (Ab DH) .none UA UB UC Ux ML UD),Uy⟩)
  (c_jy:PySem.W.codeIn K ML "Asker.differ"=true)
  (k_jy:PySem.W.keepIn K (.ref CL)=true)
  (a_jm:PySem.W.findIn K (.ref C_j4) "differ"=some (some (.ref Ba)))
  (i_jm:PySem.W.isFn K (.ref Ba)=true)
  (l_jm:K.lookup Ba=some ⟨Pq,Pn,.func (PySem.W.fnOf "differ" "SayAsker.differ" (Al BV) (Ak BV) (Ab BV) .none Pt Pu Px Po Jh Pz),Pp⟩)
  (c_jm:PySem.W.codeIn K Jh "SayAsker.differ"=true)
  (k_jm:PySem.W.keepIn K (.ref Ba)=true)
  (a_j1h:PySem.W.nsIn K mainGlobals "_law_differs"=some (some (.ref Cn)))
  (l_j1h:K.lookup Cn=some ⟨UI,UE,.func (PySem.W.fnOf "_law_differs" "_law_differs" (Al CG) (Ak CG) (Ab CG) .none UJ UK UL UG MM UM),UH⟩)
  (c_j1h:PySem.W.codeIn K MM "_law_differs"=true)
  (k_j1h:PySem.W.keepIn K (.ref Cn)=true)
  (a_j1k:PySem.W.findIn K (.ref C_j7) "__init__"=some (some (.ref E9)))
  (i_j1k:PySem.W.isFn K (.ref E9)=true)
  (l_j1k:K.lookup E9=some ⟨ZY,ZV,.func (PySem.W.fnOf "__init__" "Book.__init__" (Al FQ) (Ak FQ) (Ab FQ) .none ZZ Z0 Z1 ZW RF Z2),ZX⟩)
  (c_j1k:PySem.W.codeIn K RF "Book.__init__"=true)
  (k_j1k:PySem.W.keepIn K (.ref E9)=true)
  (sg_jz:PySem.W.specialIn K (.ref C_j9) "__getattribute__"=some (some (.builtin "type.__getattribute__")))
  (rd_jz:PySem.W.readsIn K C_j9 (.type "type")=true)
  (a_jz:PySem.W.findCls K (.ref C_j9) (.type "type") "__init__"=some (.val (.ref E1)))
  (l_jz:K.lookup E1=some ⟨Yl,Yi,.func (PySem.W.fnOf "__init__" "Turns.__init__" (Al EM) (Ak EM) (Ab EM) .none Ym Yn Yo Yj PD Yp),Yk⟩)
  (c_jz:PySem.W.codeIn K PD "Turns.__init__"=true)
  (k_jz:PySem.W.keepIn K (.ref E1)=true)
  (sg_j15:PySem.W.specialIn K (.ref C_jj) "__getattribute__"=some (some (.builtin "type.__getattribute__")))
  (rd_j15:PySem.W.readsIn K C_jj (.type "type")=true)
  (a_j15:PySem.W.findCls K (.ref C_jj) (.type "type") "__init__"=some (.val (.ref FW)))
  (l_j15:K.lookup FW=some ⟨Z6,Z3,.func (PySem.W.fnOf "__init__" "Hunt.__init__" (Al FT) (Ak FT) (Ab FT) .none Z7 Z8 Z9 Z4 RG Aa_),Z5⟩)
  (c_j15:PySem.W.codeIn K RG "Hunt.__init__"=true)
  (k_j15:PySem.W.keepIn K (.ref FW)=true)
  (a_jf:PySem.W.findIn K (.ref C_j1) "first_ends"=some (some (.ref Bq)))
  (i_jf:PySem.W.isFn K (.ref Bq)=true)
  (l_jf:K.lookup Bq=some ⟨MR,MN,.func (PySem.W.fnOf "first_ends" "SayHunt.first_ends" (Al BD) (Ak BD) (Ab BD) .none MS MT MU MO HJ MV),MQ⟩)
  (c_jf:PySem.W.codeIn K HJ "SayHunt.first_ends"=true)
  (k_jf:PySem.W.keepIn K (.ref Bq)=true)
  (a_j1e:PySem.W.findIn K (.ref C_j1) "__init__"=some (some (.ref Ea)))
  (i_j1e:PySem.W.isFn K (.ref Ea)=true)
  (l_j1e:K.lookup Ea=some ⟨Yt,Yq,.func (PySem.W.fnOf "__init__" "Asker.__init__" (Al EO) (Ak EO) (Ab EO) .none Yu Yv Yw Yr PH Yx),Ys⟩)
  (c_j1e:PySem.W.codeIn K PH "Asker.__init__"=true)
  (k_j1e:PySem.W.keepIn K (.ref Ea)=true)
  (a_jv:PySem.W.findIn K (.ref C_j4) "__init__"=some (some (.ref Cr)))
  (i_jv:PySem.W.isFn K (.ref Cr)=true)
  (l_jv:K.lookup Cr=some ⟨Sh,Se,.func (PySem.W.fnOf "__init__" "SayAsker.__init__" (Al C0) (Ak C0) (Ab C0) .none Si Sj Sk Sf KA Sl),Sg⟩)
  (c_jv:PySem.W.codeIn K KA "SayAsker.__init__"=true)
  (k_jv:PySem.W.keepIn K (.ref Cr)=true)
  (a_j1a:PySem.W.findIn K (.ref C_j1) "heard"=some (some (.ref D7)))
  (i_j1a:PySem.W.isFn K (.ref D7)=true)
  (l_j1a:K.lookup D7=some ⟨YB,Yy,.func (PySem.W.fnOf "heard" "Hunt.heard" (Al ER) (Ak ER) (Ab ER) .none YC YD YE Yz PJ YF),YA⟩)
  (c_j1a:PySem.W.codeIn K PJ "Hunt.heard"=true)
  (k_j1a:PySem.W.keepIn K (.ref D7)=true)
  (a_js:PySem.W.findIn K (.ref C_j4) "heard"=some (some (.ref AJ)))
  (i_js:PySem.W.isFn K (.ref AJ)=true)
  (l_js:K.lookup AJ=some ⟨Ri,Rf,.func (PySem.W.fnOf "heard" "SayAsker.heard" (Al BJ) (Ak BJ) (Ab BJ) .none Rj Rk Rl Rg J2 Rm),Rh⟩)
  (c_js:PySem.W.codeIn K J2 "SayAsker.heard"=true)
  (k_js:PySem.W.keepIn K (.ref AJ)=true)
  (a_j1z:PySem.W.nsIn K mainGlobals "_law_big"=some (some (.ref Ip)))
  (l_j1z:K.lookup Ip=some ⟨BX_,BU_,.func (PySem.W.fnOf "_law_big" "_law_big" (Al G0) (Ak G0) (Ab G0) .none BY_ BZ_ Ca_ BV_ UN Cb_),BW_⟩)
  (c_j1z:PySem.W.codeIn K UN "_law_big"=true)
  (k_j1z:PySem.W.keepIn K (.ref Ip)=true)
  (a_j1t:PySem.W.nsIn K mainGlobals "_law_mark"=some (some (.ref G8)))
  (l_j1t:K.lookup G8=some ⟨Ae_,Ab_,.func (PySem.W.fnOf "_law_mark" "_law_mark" (Al FU) (Ak FU) (Ab FU) .none Af_ Ag_ Ah_ Ac_ RH Ai_),Ad_⟩)
  (c_j1t:PySem.W.codeIn K RH "_law_mark"=true)
  (k_j1t:PySem.W.keepIn K (.ref G8)=true)
  (a_j1u:PySem.W.nsIn K mainGlobals "_law_talk"=some (some (.ref Eo)))
  (l_j1u:K.lookup Eo=some ⟨Am_,Aj_,.func (PySem.W.fnOf "_law_talk" "_law_talk" (Al ES) (Ak ES) (Ab ES) .none An_ Ao_ Ap_ Ak_ RI Aq_),Al_⟩)
  (c_j1u:PySem.W.codeIn K RI "_law_talk"=true)
  (k_j1u:PySem.W.keepIn K (.ref Eo)=true)
  (a_j1v:PySem.W.nsIn K mainGlobals "_law_word"=some (some (.ref Em)))
  (l_j1v:K.lookup Em=some ⟨Au_,Ar_,.func (PySem.W.fnOf "_law_word" "_law_word" (Al ET) (Ak ET) (Ab ET) .none Av_ Aw_ Ax_ As_ RJ Ay_),At_⟩)
  (c_j1v:PySem.W.codeIn K RJ "_law_word"=true)
  (k_j1v:PySem.W.keepIn K (.ref Em)=true)
  (a_j1d:PySem.W.nsIn K mainGlobals "_law_new_word"=some (some (.ref DZ)))
  (l_j1d:K.lookup DZ=some ⟨Sq,Sm,.func (PySem.W.fnOf "_law_new_word" "_law_new_word" (Al C1) (Ak C1) (Ab C1) .none Sr Ss Su Sn KC Sv),So⟩)
  (c_j1d:PySem.W.codeIn K KC "_law_new_word"=true)
  (k_j1d:PySem.W.keepIn K (.ref DZ)=true)
  (a_j1w:PySem.W.nsIn K mainGlobals "_law_deed"=some (some (.ref Ep)))
  (l_j1w:K.lookup Ep=some ⟨AC_,Az_,.func (PySem.W.fnOf "_law_deed" "_law_deed" (Al EU) (Ak EU) (Ab EU) .none AD_ AE_ AF_ AA_ RK AG_),AB_⟩)
  (c_j1w:PySem.W.codeIn K RK "_law_deed"=true)
  (k_j1w:PySem.W.keepIn K (.ref Ep)=true)
  (a_j1m:PySem.W.nsIn K mainGlobals "_law_driven"=some (some (.ref CC)))
  (l_j1m:K.lookup CC=some ⟨VU,VR,.func (PySem.W.fnOf "_law_driven" "_law_driven" (Al Dm) (Ak Dm) (Ab Dm) .none VW VX VY VS NR VZ),VT⟩)
  (c_j1m:PySem.W.codeIn K NR "_law_driven"=true)
  (k_j1m:PySem.W.keepIn K (.ref CC)=true)
  (a_j13:PySem.W.findIn K (.ref C_j1) "access"=some (some (.ref Dx)))
  (i_j13:PySem.W.isFn K (.ref Dx)=true)
  (l_j13:K.lookup Dx=some ⟨V3,V0,.func (PySem.W.fnOf "access" "Hunt.access" (Al Ei) (Ak Ei) (Ab Ei) .none V4 V5 V6 V1 NS V7),V2⟩)
  (c_j13:PySem.W.codeIn K NS "Hunt.access"=true)
  (k_j13:PySem.W.keepIn K (.ref Dx)=true)
  (a_jn:PySem.W.findIn K (.ref C_j4) "access"=some (some (.ref B0)))
  (i_jn:PySem.W.isFn K (.ref B0)=true)
  (l_jn:K.lookup B0=some ⟨PQ,PL,.func (PySem.W.fnOf "access" "SayAsker.access" (Al Cj) (Ak Cj) (Ab Cj) .none PR PU PV PM Ji PX),PN⟩)
  (c_jn:PySem.W.codeIn K Ji "SayAsker.access"=true)
  (k_jn:PySem.W.keepIn K (.ref B0)=true)
  (a_jw:PySem.W.findIn K (.ref C_j1) "tellers"=some (some (.ref CK)))
  (i_jw:PySem.W.isFn K (.ref CK)=true)
  (l_jw:K.lookup CK=some ⟨UR,UO,.func (PySem.W.fnOf "tellers" "Hunt.tellers" (Al DI) (Ak DI) (Ab DI) .none US UT UU UP MW UW),UQ⟩)
  (c_jw:PySem.W.codeIn K MW "Hunt.tellers"=true)
  (k_jw:PySem.W.keepIn K (.ref CK)=true)
  (a_jl:PySem.W.findIn K (.ref C_j4) "tellers"=some (some (.ref BH)))
  (i_jl:PySem.W.isFn K (.ref BH)=true)
  (l_jl:K.lookup BH=some ⟨Oz,Ow,.func (PySem.W.fnOf "tellers" "SayAsker.tellers" (Al B6) (Ak B6) (Ab B6) .none OA OB OC Ox IV OD),Oy⟩)
  (c_jl:PySem.W.codeIn K IV "SayAsker.tellers"=true)
  (k_jl:PySem.W.keepIn K (.ref BH)=true)
  (a_j20:PySem.W.nsIn K mainGlobals "_law_all"=some (some (.ref Fj)))
  (l_j20:K.lookup Fj=some ⟨Cf_,Cc_,.func (PySem.W.fnOf "_law_all" "_law_all" (Al F8) (Ak F8) (Ab F8) .none Cg_ Ch_ Ci_ Cd_ UX Cj_),Ce_⟩)
  (c_j20:PySem.W.codeIn K UX "_law_all"=true)
  (k_j20:PySem.W.keepIn K (.ref Fj)=true)
  (a_j1i:PySem.W.nsIn K mainGlobals "_law_goes_on"=some (some (.ref EB)))
  (l_j1i:K.lookup EB=some ⟨U1,UY,.func (PySem.W.fnOf "_law_goes_on" "_law_goes_on" (Al DJ) (Ak DJ) (Ab DJ) .none U2 U3 U4 UZ MX U5),U0⟩)
  (c_j1i:PySem.W.codeIn K MX "_law_goes_on"=true)
  (k_j1i:PySem.W.keepIn K (.ref EB)=true)
  (a_ju:PySem.W.nsIn K mainGlobals "_law_show_refuses"=some (some (.ref Ck)))
  (l_ju:K.lookup Ck=some ⟨Nw,Nt,.func (PySem.W.fnOf "_law_show_refuses" "_law_show_refuses" (Al BR) (Ak BR) (Ab BR) .none Nx Ny Nz Nu HV NA),Nv⟩)
  (c_ju:PySem.W.codeIn K HV "_law_show_refuses"=true)
  (k_ju:PySem.W.keepIn K (.ref Ck)=true)
  (a_j29:PySem.W.nsIn K mainGlobals "law"=some (some (.ref IT_)))
  (l_j29:K.lookup IT_=some ⟨KA_,Ky_,.func (PySem.W.fnOf "law" "law" (Al WW) (Ak WW) (Ab WW) .none HV_ HW_ HX_ HU_ FM_ HY_),Kz_⟩)
  (c_j29:PySem.W.codeIn K FM_ "law"=true)
  (k_j29:PySem.W.keepIn K (.ref IT_)=true)
  (z_ValueError:PySem.W.nsIn K mainGlobals "ValueError"=some none)
  (z_all:PySem.W.nsIn K mainGlobals "all"=some none)
  (z_enumerate:PySem.W.nsIn K mainGlobals "enumerate"=some none)
  (z_isinstance:PySem.W.nsIn K mainGlobals "isinstance"=some none)
  (z_len:PySem.W.nsIn K mainGlobals "len"=some none)
  (z_list:PySem.W.nsIn K mainGlobals "list"=some none)
  (z_max:PySem.W.nsIn K mainGlobals "max"=some none)
  (z_range:PySem.W.nsIn K mainGlobals "range"=some none)
  (z_tuple:PySem.W.nsIn K mainGlobals "tuple"=some none)
  (z_zip:PySem.W.nsIn K mainGlobals "zip"=some none)
  (m_j8:PySem.W.nsIn K mainGlobals "AskError"=some (some (.ref C_j8)))
  (m_j5:PySem.W.nsIn K mainGlobals "BadWord"=some (some (.ref C_j5)))
  (m_j6:PySem.W.nsIn K mainGlobals "BadMark"=some (some (.ref C_j6)))
  (m_j3:PySem.W.nsIn K mainGlobals "OutOfTurn"=some (some (.ref C_j3)))
  (m_j2:PySem.W.nsIn K mainGlobals "NoDifference"=some (some (.ref C_j2)))
  (m_j0:PySem.W.nsIn K mainGlobals "Contradiction"=some (some (.ref C_j0)))
  (x_j5:PySem.W.excIn K C_j5 bmV "ValueError.__new__"=true)
  (ga_j5:PySem.W.findIn K (.ref C_j5) "__getattribute__"=some (some (.builtin "BaseException.__getattribute__")))
  (hk_j5:PySem.W.findIn K (.ref C_j5) "__getattr__"=some none)
  {cd_j5:ClassData}
  (cl_j5:PySem.W.clsIn K C_j5=some cd_j5)
  (ca_j5:PySem.W.findIn K (.ref C_j5) "__class__"=some (some (.builtin "object.__class__")))
  (mo_j5:PySem.W.mroIn K C_j5 (.type "object")=some true)
  (mb_j5:PySem.W.mroIn K C_j5 (.type "BaseException")=some true)
  (e_j5:PySem.W.exmOne K (.ref C_j5) (.ref C_j8)=some true)
  (v_j5:PySem.W.kitOne K (.ref C_j5) (.type "ValueError")=some true)
  (ee_j5:PySem.W.exmOne K (.ref C_j5) (.ref C_j5)=some true)
  (k_j5_j8:PySem.W.kitOne K (.ref C_j5) (.ref C_j8)=some true)
  (k_j5_j5:PySem.W.kitOne K (.ref C_j5) (.ref C_j5)=some true)
  (k_j5_j6:PySem.W.kitOne K (.ref C_j5) (.ref C_j6)=some false)
  (k_j5_j3:PySem.W.kitOne K (.ref C_j5) (.ref C_j3)=some false)
  (k_j5_j2:PySem.W.kitOne K (.ref C_j5) (.ref C_j2)=some false)
  (k_j5_j0:PySem.W.kitOne K (.ref C_j5) (.ref C_j0)=some false)
  (x_j6:PySem.W.excIn K C_j6 bmV "ValueError.__new__"=true)
  (ga_j6:PySem.W.findIn K (.ref C_j6) "__getattribute__"=some (some (.builtin "BaseException.__getattribute__")))
  (hk_j6:PySem.W.findIn K (.ref C_j6) "__getattr__"=some none)
  {cd_j6:ClassData}
  (cl_j6:PySem.W.clsIn K C_j6=some cd_j6)
  (ca_j6:PySem.W.findIn K (.ref C_j6) "__class__"=some (some (.builtin "object.__class__")))
  (mo_j6:PySem.W.mroIn K C_j6 (.type "object")=some true)
  (mb_j6:PySem.W.mroIn K C_j6 (.type "BaseException")=some true)
  (e_j6:PySem.W.exmOne K (.ref C_j6) (.ref C_j8)=some true)
  (v_j6:PySem.W.kitOne K (.ref C_j6) (.type "ValueError")=some true)
  (ee_j6:PySem.W.exmOne K (.ref C_j6) (.ref C_j6)=some true)
  (k_j6_j8:PySem.W.kitOne K (.ref C_j6) (.ref C_j8)=some true)
  (k_j6_j5:PySem.W.kitOne K (.ref C_j6) (.ref C_j5)=some false)
  (k_j6_j6:PySem.W.kitOne K (.ref C_j6) (.ref C_j6)=some true)
  (k_j6_j3:PySem.W.kitOne K (.ref C_j6) (.ref C_j3)=some false)
  (k_j6_j2:PySem.W.kitOne K (.ref C_j6) (.ref C_j2)=some false)
  (k_j6_j0:PySem.W.kitOne K (.ref C_j6) (.ref C_j0)=some false)
  (x_j3:PySem.W.excIn K C_j3 bmV "ValueError.__new__"=true)
  (ga_j3:PySem.W.findIn K (.ref C_j3) "__getattribute__"=some (some (.builtin "BaseException.__getattribute__")))
  (hk_j3:PySem.W.findIn K (.ref C_j3) "__getattr__"=some none)
  {cd_j3:ClassData}
  (cl_j3:PySem.W.clsIn K C_j3=some cd_j3)
  (ca_j3:PySem.W.findIn K (.ref C_j3) "__class__"=some (some (.builtin "object.__class__")))
  (mo_j3:PySem.W.mroIn K C_j3 (.type "object")=some true)
  (mb_j3:PySem.W.mroIn K C_j3 (.type "BaseException")=some true)
  (e_j3:PySem.W.exmOne K (.ref C_j3) (.ref C_j8)=some true)
  (v_j3:PySem.W.kitOne K (.ref C_j3) (.type "ValueError")=some true)
  (ee_j3:PySem.W.exmOne K (.ref C_j3) (.ref C_j3)=some true)
  (k_j3_j8:PySem.W.kitOne K (.ref C_j3) (.ref C_j8)=some true)
  (k_j3_j5:PySem.W.kitOne K (.ref C_j3) (.ref C_j5)=some false)
  (k_j3_j6:PySem.W.kitOne K (.ref C_j3) (.ref C_j6)=some false)
  (k_j3_j3:PySem.W.kitOne K (.ref C_j3) (.ref C_j3)=some true)
  (k_j3_j2:PySem.W.kitOne K (.ref C_j3) (.ref C_j2)=some false)
  (k_j3_j0:PySem.W.kitOne K (.ref C_j3) (.ref C_j0)=some false)
  (x_j2:PySem.W.excIn K C_j2 bmV "ValueError.__new__"=true)
  (ga_j2:PySem.W.findIn K (.ref C_j2) "__getattribute__"=some (some (.builtin "BaseException.__getattribute__")))
  (hk_j2:PySem.W.findIn K (.ref C_j2) "__getattr__"=some none)
  {cd_j2:ClassData}
  (cl_j2:PySem.W.clsIn K C_j2=some cd_j2)
  (ca_j2:PySem.W.findIn K (.ref C_j2) "__class__"=some (some (.builtin "object.__class__")))
  (mo_j2:PySem.W.mroIn K C_j2 (.type "object")=some true)
  (mb_j2:PySem.W.mroIn K C_j2 (.type "BaseException")=some true)
  (e_j2:PySem.W.exmOne K (.ref C_j2) (.ref C_j8)=some true)
  (v_j2:PySem.W.kitOne K (.ref C_j2) (.type "ValueError")=some true)
  (ee_j2:PySem.W.exmOne K (.ref C_j2) (.ref C_j2)=some true)
  (k_j2_j8:PySem.W.kitOne K (.ref C_j2) (.ref C_j8)=some true)
  (k_j2_j5:PySem.W.kitOne K (.ref C_j2) (.ref C_j5)=some false)
  (k_j2_j6:PySem.W.kitOne K (.ref C_j2) (.ref C_j6)=some false)
  (k_j2_j3:PySem.W.kitOne K (.ref C_j2) (.ref C_j3)=some false)
  (k_j2_j2:PySem.W.kitOne K (.ref C_j2) (.ref C_j2)=some true)
  (k_j2_j0:PySem.W.kitOne K (.ref C_j2) (.ref C_j0)=some false)
  (x_j0:PySem.W.excIn K C_j0 bmV "ValueError.__new__"=true)
  (ga_j0:PySem.W.findIn K (.ref C_j0) "__getattribute__"=some (some (.builtin "BaseException.__getattribute__")))
  (hk_j0:PySem.W.findIn K (.ref C_j0) "__getattr__"=some none)
  {cd_j0:ClassData}
  (cl_j0:PySem.W.clsIn K C_j0=some cd_j0)
  (ca_j0:PySem.W.findIn K (.ref C_j0) "__class__"=some (some (.builtin "object.__class__")))
  (mo_j0:PySem.W.mroIn K C_j0 (.type "object")=some true)
  (mb_j0:PySem.W.mroIn K C_j0 (.type "BaseException")=some true)
  (e_j0:PySem.W.exmOne K (.ref C_j0) (.ref C_j8)=some true)
  (v_j0:PySem.W.kitOne K (.ref C_j0) (.type "ValueError")=some true)
  (ee_j0:PySem.W.exmOne K (.ref C_j0) (.ref C_j0)=some true)
  (k_j0_j8:PySem.W.kitOne K (.ref C_j0) (.ref C_j8)=some true)
  (k_j0_j5:PySem.W.kitOne K (.ref C_j0) (.ref C_j5)=some false)
  (k_j0_j6:PySem.W.kitOne K (.ref C_j0) (.ref C_j6)=some false)
  (k_j0_j3:PySem.W.kitOne K (.ref C_j0) (.ref C_j3)=some false)
  (k_j0_j2:PySem.W.kitOne K (.ref C_j0) (.ref C_j2)=some false)
  (k_j0_j0:PySem.W.kitOne K (.ref C_j0) (.ref C_j0)=some true)
  (kk_SayAsker_Asker:PySem.W.kitOne K (.ref C_j4) (.ref C_ja)=some false)
  (ka_SayAsker:PySem.W.findIn K (.ref C_j4) "__class__"=some (some (.builtin "object.__class__")))
  (ko_SayAsker:PySem.W.mroIn K C_j4 (.type "object")=some true)
  (gs:PySem.W.specialIn K (.builtin "object.__class__") "__get__"=some (some (.builtin "getset_descriptor.__get__")))
  (tk:PySem.W.takesIn K (.builtin "object.__class__")=some true)
  : ∃fd:FuncData,(∀(s:Shared) (v:Value),BindsTo s fd ⟨[v],[]⟩ [("script",v)])/\∀base:Heap,K.In base->base.Ns mainGlobals mg->FnOk l.prog w K mg base CX0 18 fa fd ["script"] (GC_ K):=by
 have e:=hfa.symm.trans (PySem.W.mg_of X G a_j29)
 cases e
 have T:Txt mg:=⟨PySem.W.mg_none_of X G z_ValueError,PySem.W.mg_none_of X G z_all,PySem.W.mg_none_of X G z_enumerate,PySem.W.mg_none_of X G z_isinstance,PySem.W.mg_none_of X G z_len,PySem.W.mg_none_of X G z_list,PySem.W.mg_none_of X G z_max,PySem.W.mg_none_of X G z_range,PySem.W.mg_none_of X G z_tuple,PySem.W.mg_none_of X G z_zip⟩
 have Z:Exs K mg C_j8 C_j5 C_j6 C_j3 C_j2 C_j0:=⟨PySem.W.mg_of X G m_j8,PySem.W.mg_of X G m_j5,PySem.W.mg_of X G m_j6,PySem.W.mg_of X G m_j3,PySem.W.mg_of X G m_j2,PySem.W.mg_of X G m_j0,x_j5,⟨ga_j5,hk_j5,by rw[cl_j5];rfl,ca_j5,gs,tk,mo_j5,mb_j5⟩,e_j5,v_j5,ee_j5,k_j5_j8,k_j5_j5,k_j5_j6,k_j5_j3,k_j5_j2,k_j5_j0,x_j6,⟨ga_j6,hk_j6,by rw[cl_j6];rfl,ca_j6,gs,tk,mo_j6,mb_j6⟩,e_j6,v_j6,ee_j6,k_j6_j8,k_j6_j5,k_j6_j6,k_j6_j3,k_j6_j2,k_j6_j0,x_j3,⟨ga_j3,hk_j3,by rw[cl_j3];rfl,ca_j3,gs,tk,mo_j3,mb_j3⟩,e_j3,v_j3,ee_j3,k_j3_j8,k_j3_j5,k_j3_j6,k_j3_j3,k_j3_j2,k_j3_j0,x_j2,⟨ga_j2,hk_j2,by rw[cl_j2];rfl,ca_j2,gs,tk,mo_j2,mb_j2⟩,e_j2,v_j2,ee_j2,k_j2_j8,k_j2_j5,k_j2_j6,k_j2_j3,k_j2_j2,k_j2_j0,x_j0,⟨ga_j0,hk_j0,by rw[cl_j0];rfl,ca_j0,gs,tk,mo_j0,mb_j0⟩,e_j0,v_j0,ee_j0,k_j0_j8,k_j0_j5,k_j0_j6,k_j0_j3,k_j0_j2,k_j0_j0⟩
 have W:Own K mg C_j7 C_j9 C_jj C_ja C_j1 C_j4:=⟨PySem.W.mg_of X G aC_j7,⟨pg_j7,hd_j7,po_j7,sa_j7⟩,n_letters_Book,n_marks_Book,PySem.W.mg_of X G aC_j9,PySem.W.mg_of X G aC_jj,PySem.W.mg_of X G aC_ja,PySem.W.mg_of X G aC_j1,⟨pg_j1,hd_j1,po_j1,sa_j1⟩,n_book_SayHunt,n_ends_SayHunt,n_gaps_SayHunt,n_guess_SayHunt,n_letters_SayHunt,n_most_SayHunt,n_ways_SayHunt,n_wish_SayHunt,n_wrong_SayHunt,PySem.W.mg_of X G aC_j4,⟨pg_j4,hd_j4,po_j4,sa_j4⟩,n_hunt_SayAsker,n_letters_SayAsker,kk_SayAsker_Asker,ka_SayAsker,ko_SayAsker,⟨_,PySem.W.mg_of X G q_j28⟩⟩
 have HZ:=Az (st:=Ed) l_j11 c_j11 k_j11
 have Kk:=HZ.binds (ps:=["self"]) fun _ _ _ _ _ _ us hl=>(by obtain⟨y0,rfl⟩:=len1 hl;rfl)
 have Kl:Meth K C_j1 "wants" Dv:=⟨a_j11,i_j11,k_j11⟩
 have By:=Az (st:=Bx) l_jq c_jq k_jq
 have A7:=By.binds (ps:=["self"]) fun _ _ _ _ _ _ us hl=>(by obtain⟨y0,rfl⟩:=len1 hl;rfl)
 have A8:Meth K C_j4 "wants" Aq:=⟨a_jq,i_jq,k_jq⟩
 have Ap:=Az (st:=Ci) l_j1s c_j1s k_j1s
 have Av:=Ap.binds (ps:=["script","k"]) fun _ _ _ _ _ _ us hl=>(by obtain⟨y0,y1,rfl⟩:=len2 hl;rfl)
 have Aw:=PySem.W.mg_of X G a_j1s
 have Lz:=Az (st:=Iv) l_j21 c_j21 k_j21
 have Tn:=Lz.binds (ps:=["letters","word"]) fun _ _ _ _ _ _ us hl=>(by obtain⟨y0,y1,rfl⟩:=len2 hl;rfl)
 have To:=PySem.W.mg_of X G a_j21
 have D4:=Az (st:=D0) l_j1o c_j1o k_j1o
 have Ga:=D4.binds (ps:=["letters","word"]) fun _ _ _ _ _ _ us hl=>(by obtain⟨y0,y1,rfl⟩:=len2 hl;rfl)
 have Gb:=PySem.W.mg_of X G a_j1o
 have LA:=Az (st:=Iw) l_j22 c_j22 k_j22
 have Tq:=LA.binds (ps:=["number"]) fun _ _ _ _ _ _ us hl=>(by obtain⟨y0,rfl⟩:=len1 hl;rfl)
 have Tr:=PySem.W.mg_of X G a_j22
 have Hr:=Az (st:=EI) l_j1p c_j1p k_j1p
 have LF:=Hr.binds (ps:=["mark"]) fun _ _ _ _ _ _ us hl=>(by obtain⟨y0,rfl⟩:=len1 hl;rfl)
 have LG:=PySem.W.mg_of X G a_j1p
 have Gf:=Az (st:=D1) l_j17 c_j17 k_j17
 have Gg:=Gf.binds (ps:=["self","word","mark"]) fun _ _ _ _ _ _ us hl=>(by obtain⟨y0,y1,y2,rfl⟩:=len3 hl;rfl)
 have Gh:Meth K C_j7 "check" Cp:=⟨a_j17,i_j17,k_j17⟩
 have Il:=Az (st:=F7) l_j1n c_j1n k_j1n
 have Im:=Il.binds (ps:=["self","word","mark"]) fun _ _ _ _ _ _ us hl=>(by obtain⟨y0,y1,y2,rfl⟩:=len3 hl;rfl)
 have Io:Meth K C_j7 "put" DT:=⟨a_j1n,i_j1n,k_j1n⟩
 have AY:=Az (st:=AX) l_ji c_ji k_ji
 have AF:=AY.binds (ps:=["self","deed"]) fun _ _ _ _ _ _ us hl=>(by obtain⟨y0,y1,rfl⟩:=len2 hl;rfl)
 have AG:Meth K C_j1 "check_wants" Am:=⟨a_ji,i_ji,k_ji⟩
 have LB:=Az (st:=Ls) l_j25 c_j25 k_j25
 have Qd:=LB.binds (ps:=["house","word"]) fun _ _ _ _ _ _ us hl=>(by obtain⟨y0,y1,rfl⟩:=len2 hl;rfl)
 have Qe:=PySem.W.mg_of X G a_j25
 have EV:=Az (st:=Ee) l_j1j c_j1j k_j1j
 have Ek:=EV.binds (ps:=["self","word"]) fun _ _ _ _ _ _ us hl=>(by obtain⟨y0,y1,rfl⟩:=len2 hl;rfl)
 have El:Meth K C_j7 "told" B7:=⟨a_j1j,i_j1j,k_j1j⟩
 have OU:=Az (st:=J6) l_j24 c_j24 k_j24
 have W9:=OU.binds (ps:=["book","access","guess","word","mark","last"]) fun _ _ _ _ _ _ us hl=>(by obtain⟨y0,y1,y2,y3,y4,y5,rfl⟩:=len6 hl;rfl)
 have Xa:=PySem.W.mg_of X G a_j24
 have Hj:=Az (st:=DF) l_jx c_jx k_jx
 have Jp:=Hj.binds (ps:=["self","words"]) fun _ _ _ _ _ _ us hl=>(by obtain⟨y0,y1,rfl⟩:=len2 hl;rfl)
 have Jq:Meth K C_j1 "ask_for" CI:=⟨a_jx,i_jx,k_jx⟩
 have Hs:=Az (st:=Ho) l_j23 c_j23 k_j23
 have JO:=Hs.binds (ps:=["letters","access"]) fun _ _ _ _ _ _ us hl=>(by obtain⟨y0,y1,rfl⟩:=len2 hl;rfl)
 have JQ:=PySem.W.mg_of X G a_j23
 have TL:=Az (st:=NY) l_j26 c_j26 k_j26
 have Bp_:=TL.binds (ps:=["letters","access","ends"]) fun _ _ _ _ _ _ us hl=>(by obtain⟨y0,y1,y2,rfl⟩:=len3 hl;rfl)
 have Bq_:=PySem.W.mg_of X G a_j26
 have Bc:=Az (st:=AR) l_jc c_jc k_jc
 have AV:=Bc.binds (ps:=["self"]) fun _ _ _ _ _ _ us hl=>(by obtain⟨y0,rfl⟩:=len1 hl;rfl)
 have AW:Meth K C_j1 "look_for_gaps" An:=⟨a_jc,i_jc,k_jc⟩
 have BX:=Az (st:=BS) l_j10 c_j10 k_j10
 have CP:=BX.binds (ps:=["word"]) fun _ _ _ _ _ _ us hl=>(by obtain⟨y0,rfl⟩:=len1 hl;rfl)
 have CQ:=PySem.W.mg_of X G a_j10
 have Y8:=Az (st:=Ta) l_j27 c_j27 k_j27
 have Fm_:=Y8.binds (ps:=["house","word"]) fun _ _ _ _ _ _ us hl=>(by obtain⟨y0,y1,rfl⟩:=len2 hl;rfl)
 have Fn_:=PySem.W.mg_of X G a_j27
 have DK:=Az (st:=Ef) l_j1r c_j1r k_j1r
 have EY:=DK.binds (ps:=["house","word"]) fun _ _ _ _ _ _ us hl=>(by obtain⟨y0,y1,rfl⟩:=len2 hl;rfl)
 have EZ:=PySem.W.mg_of X G a_j1r
 have C9:=Az (st:=Cb) l_jp c_jp k_jp
 have Dc:=C9.binds (ps:=["self","house","word"]) fun _ _ _ _ _ _ us hl=>(by obtain⟨y0,y1,y2,rfl⟩:=len3 hl;rfl)
 have Dd:Meth K C_j1 "answer" Bh:=⟨a_jp,i_jp,k_jp⟩
 have HY:=Az (st:=Eg) l_j14 c_j14 k_j14
 have Kf:=HY.binds (ps:=["self"]) fun _ _ _ _ _ _ us hl=>(by obtain⟨y0,rfl⟩:=len1 hl;rfl)
 have Kg:Meth K C_j1 "halve" Dq:=⟨a_j14,i_j14,k_j14⟩
 have JR:=Az (st:=GY) l_j1x c_j1x k_j1x
 have Qg:=JR.binds (ps:=["book","word","ends"]) fun _ _ _ _ _ _ us hl=>(by obtain⟨y0,y1,y2,rfl⟩:=len3 hl;rfl)
 have Qh:=PySem.W.mg_of X G a_j1x
 have CH:=Az (st:=CF) l_j1f c_j1f k_j1f
 have Eu:=CH.binds (ps:=["book","letters","access","ends"]) fun _ _ _ _ _ _ us hl=>(by obtain⟨y0,y1,y2,y3,rfl⟩:=len4 hl;rfl)
 have Ew:=PySem.W.mg_of X G a_j1f
 have E2:=Az (st:=CZ) l_j1c c_j1c k_j1c
 have IE:=E2.binds (ps:=["letters","access","marks"]) fun _ _ _ _ _ _ us hl=>(by obtain⟨y0,y1,y2,rfl⟩:=len3 hl;rfl)
 have IF:=PySem.W.mg_of X G a_j1c
 have DL:=Az (st:=BA) l_jg c_jg k_jg
 have Fs:=DL.binds (ps:=["self"]) fun _ _ _ _ _ _ us hl=>(by obtain⟨y0,rfl⟩:=len1 hl;rfl)
 have Ft:Meth K C_j1 "make_guess" Bn:=⟨a_jg,i_jg,k_jg⟩
 have Gk:=Az (st:=D2) l_j18 c_j18 k_j18
 have Gm:=Gk.binds (ps:=["self"]) fun _ _ _ _ _ _ us hl=>(by obtain⟨y0,rfl⟩:=len1 hl;rfl)
 have Gn:Meth K C_j7 "heard" Cq:=⟨a_j18,i_j18,k_j18⟩
 have FG:=Az (st:=DG) l_j1g c_j1g k_j1g
 have Js:=FG.binds (ps:=["heard","answer","house"]) fun _ _ _ _ _ _ us hl=>(by obtain⟨y0,y1,y2,rfl⟩:=len3 hl;rfl)
 have Jt:=PySem.W.mg_of X G a_j1g
 have DM:=Az (st:=BB) l_jh c_jh k_jh
 have Fv:=DM.binds (ps:=["self"]) fun _ _ _ _ _ _ us hl=>(by obtain⟨y0,rfl⟩:=len1 hl;rfl)
 have Fw:Meth K C_j1 "wrong_word" Bo:=⟨a_jh,i_jh,k_jh⟩
 have DO:=Az (st:=BC) l_je c_je k_je
 have Fy:=DO.binds (ps:=["self"]) fun _ _ _ _ _ _ us hl=>(by obtain⟨y0,rfl⟩:=len1 hl;rfl)
 have Fz:Meth K C_j1 "look_at_guess" Bp:=⟨a_je,i_je,k_je⟩
 have JS:=Az (st:=GZ) l_j1y c_j1y k_j1y
 have Qn:=JS.binds (ps:=["book","letters","access","ends"]) fun _ _ _ _ _ _ us hl=>(by obtain⟨y0,y1,y2,y3,rfl⟩:=len4 hl;rfl)
 have Qo:=PySem.W.mg_of X G a_j1y
 have Dr:=Az (st:=Bu) l_jd c_jd k_jd
 have E4:=Dr.binds (ps:=["self"]) fun _ _ _ _ _ _ us hl=>(by obtain⟨y0,rfl⟩:=len1 hl;rfl)
 have E5:Meth K C_j1 "look_at_words" Be:=⟨a_jd,i_jd,k_jd⟩
 have FL:=Az (st:=Ct) l_jo c_jo k_jo
 have FN:=FL.binds (ps:=["self"]) fun _ _ _ _ _ _ us hl=>(by obtain⟨y0,rfl⟩:=len1 hl;rfl)
 have FO:Meth K C_j1 "next_wish" Cd:=⟨a_jo,i_jo,k_jo⟩
 have Ds:=Az (st:=Cv) l_j12 c_j12 k_j12
 have Cy:=Ds.binds (ps:=["self"]) fun _ _ _ _ _ _ us hl=>(by obtain⟨y0,rfl⟩:=len1 hl;rfl)
 have Cz:Meth K C_j1 "go_on" Bs:=⟨a_j12,i_j12,k_j12⟩
 have EC:=Az (st:=B4) l_jk c_jk k_jk
 have GA:=EC.binds (ps:=["self","number"]) fun _ _ _ _ _ _ us hl=>(by obtain⟨y0,y1,rfl⟩:=len2 hl;rfl)
 have GC:Meth K C_j1 "keep_answer" BG:=⟨a_jk,i_jk,k_jk⟩
 have Jc:=Az (st:=EK) l_j1b c_j1b k_j1b
 have L4:=Jc.binds (ps:=["self","mark"]) fun _ _ _ _ _ _ us hl=>(by obtain⟨y0,y1,rfl⟩:=len2 hl;rfl)
 have L5:Meth K C_j1 "hear" D8:=⟨a_j1b,i_j1b,k_j1b⟩
 have DV:=Az (st:=Co) l_jt c_jt k_jt
 have DW:=DV.binds (ps:=["self","mark"]) fun _ _ _ _ _ _ us hl=>(by obtain⟨y0,y1,rfl⟩:=len2 hl;rfl)
 have DX:Meth K C_j4 "hear" Bw:=⟨a_jt,i_jt,k_jt⟩
 have Bi:=Az (st:=BI) l_j16 c_j16 k_j16
 have BL:=Bi.binds (ps:=["e"]) fun _ _ _ _ _ _ us hl=>(by obtain⟨y0,rfl⟩:=len1 hl;rfl)
 have BN:=PySem.W.mg_of X G a_j16
 have Cs:=Az (st:=D3) l_j1q c_j1q k_j1q
 have DC:=Cs.binds (ps:=["asker","mark"]) fun _ _ _ _ _ _ us hl=>(by obtain⟨y0,y1,rfl⟩:=len2 hl;rfl)
 have DD:=PySem.W.mg_of X G a_j1q
 have Jd:=Az (st:=EL) l_j19 c_j19 k_j19
 have L7:=Jd.binds (ps:=["self"]) fun _ _ _ _ _ _ us hl=>(by obtain⟨y0,rfl⟩:=len1 hl;rfl)
 have L8:Meth K C_j1 "agree" D9:=⟨a_j19,i_j19,k_j19⟩
 have Df:=Az (st:=Cc) l_jr c_jr k_jr
 have Dh:=Df.binds (ps:=["self"]) fun _ _ _ _ _ _ us hl=>(by obtain⟨y0,rfl⟩:=len1 hl;rfl)
 have Di:Meth K C_j4 "agree" Bj:=⟨a_jr,i_jr,k_jr⟩
 have Fm:=Az (st:=Eh) l_j1l c_j1l k_j1l
 have Ic:=Fm.binds (ps:=["asker"]) fun _ _ _ _ _ _ us hl=>(by obtain⟨y0,rfl⟩:=len1 hl;rfl)
 have Ie:=PySem.W.mg_of X G a_j1l
 have Du:=Az (st:=Bv) l_jb c_jb k_jb
 have E7:=Du.binds (ps:=["self","word","number"]) fun _ _ _ _ _ _ us hl=>(by obtain⟨y0,y1,y2,rfl⟩:=len3 hl;rfl)
 have E8:Meth K C_j1 "keep_objection" Bf:=⟨a_jb,i_jb,k_jb⟩
 have Hl:=Az (st:=DH) l_jy c_jy k_jy
 have Jy:=Hl.binds (ps:=["self","word","mark"]) fun _ _ _ _ _ _ us hl=>(by obtain⟨y0,y1,y2,rfl⟩:=len3 hl;rfl)
 have Jz:Meth K C_j1 "differ" CL:=⟨a_jy,i_jy,k_jy⟩
 have CU:=Az (st:=BV) l_jm c_jm k_jm
 have CV:=CU.binds (ps:=["self","word","mark"]) fun _ _ _ _ _ _ us hl=>(by obtain⟨y0,y1,y2,rfl⟩:=len3 hl;rfl)
 have CW:Meth K C_j4 "differ" Ba:=⟨a_jm,i_jm,k_jm⟩
 have AA:=Az (st:=CG) l_j1h c_j1h k_j1h
 have AM:=AA.binds (ps:=["asker","word","mark"]) fun _ _ _ _ _ _ us hl=>(by obtain⟨y0,y1,y2,rfl⟩:=len3 hl;rfl)
 have AN:=PySem.W.mg_of X G a_j1h
 have Kh:=Az (st:=FQ) l_j1k c_j1k k_j1k
 have N8:=Kh.binds (ps:=["self","letters"]) fun _ _ _ _ _ _ us hl=>(by obtain⟨y0,y1,rfl⟩:=len2 hl;rfl)
 have N9:Mk K C_j7 E9:=⟨mk_j7,a_j1k,i_j1k,kc_j7⟩
 have Ja:=Az (st:=EM) l_jz c_jz k_jz
 have LK:=Ja.binds (ps:=["self"]) fun _ _ _ _ _ _ us hl=>(by obtain⟨y0,rfl⟩:=len1 hl;rfl)
 have LL:CMeth K C_j9 "__init__" E1:=⟨sg_jz,rd_jz,a_jz,k_jz⟩
 have Ki:=Az (st:=FT) l_j15 c_j15 k_j15
 have Ob:=Ki.binds (ps:=["self","letters","most","book","ways","ends"]) fun _ _ _ _ _ _ us hl=>(by obtain⟨y0,y1,y2,y3,y4,y5,rfl⟩:=len6 hl;rfl)
 have Oc:CMeth K C_jj "__init__" FW:=⟨sg_j15,rd_j15,a_j15,k_j15⟩
 have DQ:=Az (st:=BD) l_jf c_jf k_jf
 have FC:=DQ.binds (ps:=["self","letters"]) fun _ _ _ _ _ _ us hl=>(by obtain⟨y0,y1,rfl⟩:=len2 hl;rfl)
 have FD:Meth K C_j1 "first_ends" Bq:=⟨a_jf,i_jf,k_jf⟩
 have Je:=Az (st:=EO) l_j1e c_j1e k_j1e
 have Mb:=Je.binds (ps:=["self","letters","most"]) fun _ _ _ _ _ _ us hl=>(by obtain⟨y0,y1,y2,rfl⟩:=len3 hl;rfl)
 have Mc:Mk K C_j1 Ea:=⟨mk_j1,a_j1e,i_j1e,kc_j1⟩
 have GH:=Az (st:=C0) l_jv c_jv k_jv
 have IQ:=GH.binds (ps:=["self","letters","most"]) fun _ _ _ _ _ _ us hl=>(by obtain⟨y0,y1,y2,rfl⟩:=len3 hl;rfl)
 have IS:Mk K C_j4 Cr:=⟨mk_j4,a_jv,i_jv,kc_j4⟩
 have Jb:=Az (st:=ER) l_j1a c_j1a k_j1a
 have LY:=Jb.binds (ps:=["self"]) fun _ _ _ _ _ _ us hl=>(by obtain⟨y0,rfl⟩:=len1 hl;rfl)
 have LZ:Meth K C_j1 "heard" D7:=⟨a_j1a,i_j1a,k_j1a⟩
 have Ce:=Az (st:=BJ) l_js c_js k_js
 have BP:=Ce.binds (ps:=["self"]) fun _ _ _ _ _ _ us hl=>(by obtain⟨y0,rfl⟩:=len1 hl;rfl)
 have BQ:Meth K C_j4 "heard" AJ:=⟨a_js,i_js,k_js⟩
 have JV:=Az (st:=G0) l_j1z c_j1z k_j1z
 have Qw:=JV.binds (ps:=["script","k"]) fun _ _ _ _ _ _ us hl=>(by obtain⟨y0,y1,rfl⟩:=len2 hl;rfl)
 have Qx:=PySem.W.mg_of X G a_j1z
 have II:=Az (st:=FU) l_j1t c_j1t k_j1t
 have Og:=II.binds (ps:=["cell"]) fun _ _ _ _ _ _ us hl=>(by obtain⟨y0,rfl⟩:=len1 hl;rfl)
 have Oh:=PySem.W.mg_of X G a_j1t
 have Fc:=Az (st:=ES) l_j1u c_j1u k_j1u
 have Ha:=Fc.binds (ps:=["house","word"]) fun _ _ _ _ _ _ us hl=>(by obtain⟨y0,y1,rfl⟩:=len2 hl;rfl)
 have Hb:=PySem.W.mg_of X G a_j1u
 have Fb:=Az (st:=ET) l_j1v c_j1v k_j1v
 have G3:=Fb.binds (ps:=["script","at","letters","many"]) fun _ _ _ _ _ _ us hl=>(by obtain⟨y0,y1,y2,y3,rfl⟩:=len4 hl;rfl)
 have G4:=PySem.W.mg_of X G a_j1v
 have Fd:=Az (st:=C1) l_j1d c_j1d k_j1d
 have IK:=Fd.binds (ps:=["script","at","letters","heard"]) fun _ _ _ _ _ _ us hl=>(by obtain⟨y0,y1,y2,y3,rfl⟩:=len4 hl;rfl)
 have IL:=PySem.W.mg_of X G a_j1d
 have Er:=Az (st:=EU) l_j1w c_j1w k_j1w
 have FY:=Er.binds (ps:=["asker","script","letters","turn"]) fun _ _ _ _ _ _ us hl=>(by obtain⟨y0,y1,y2,y3,rfl⟩:=len4 hl;rfl)
 have FZ:=PySem.W.mg_of X G a_j1w
 have Dz:=Az (st:=Dm) l_j1m c_j1m k_j1m
 have Fh:=Dz.binds (ps:=["script","letters","turns"]) fun _ _ _ _ _ _ us hl=>(by obtain⟨y0,y1,y2,rfl⟩:=len3 hl;rfl)
 have Fi:=PySem.W.mg_of X G a_j1m
 have Ia:=Az (st:=Ei) l_j13 c_j13 k_j13
 have Kn:=Ia.binds (ps:=["self"]) fun _ _ _ _ _ _ us hl=>(by obtain⟨y0,rfl⟩:=len1 hl;rfl)
 have Ko:Meth K C_j1 "access" Dx:=⟨a_j13,i_j13,k_j13⟩
 have Ff:=Az (st:=Cj) l_jn c_jn k_jn
 have Hd:=Ff.binds (ps:=["self"]) fun _ _ _ _ _ _ us hl=>(by obtain⟨y0,rfl⟩:=len1 hl;rfl)
 have He:Meth K C_j4 "access" B0:=⟨a_jn,i_jn,k_jn⟩
 have Hk:=Az (st:=DI) l_jw c_jw k_jw
 have Jv:=Hk.binds (ps:=["self"]) fun _ _ _ _ _ _ us hl=>(by obtain⟨y0,rfl⟩:=len1 hl;rfl)
 have Jw:Meth K C_j1 "tellers" CK:=⟨a_jw,i_jw,k_jw⟩
 have ED:=Az (st:=B6) l_jl c_jl k_jl
 have GF:=ED.binds (ps:=["self"]) fun _ _ _ _ _ _ us hl=>(by obtain⟨y0,rfl⟩:=len1 hl;rfl)
 have GG:Meth K C_j4 "tellers" BH:=⟨a_jl,i_jl,k_jl⟩
 have Dj:=Az (st:=F8) l_j20 c_j20 k_j20
 have Ez:=Dj.binds (ps:=["asker"]) fun _ _ _ _ _ _ us hl=>(by obtain⟨y0,rfl⟩:=len1 hl;rfl)
 have EA:=PySem.W.mg_of X G a_j20
 have FJ:=Az (st:=DJ) l_j1i c_j1i k_j1i
 have JC:=FJ.binds (ps:=["asker","script","letters","turns"]) fun _ _ _ _ _ _ us hl=>(by obtain⟨y0,y1,y2,y3,rfl⟩:=len4 hl;rfl)
 have JD:=PySem.W.mg_of X G a_j1i
 have C2:=Az (st:=BR) l_ju c_ju k_ju
 have F1:=C2.binds (ps:=["asker","script","letters","odd"]) fun _ _ _ _ _ _ us hl=>(by obtain⟨y0,y1,y2,y3,rfl⟩:=len4 hl;rfl)
 have F2:=PySem.W.mg_of X G a_ju
 have KB_:=Az (st:=WW) l_j29 c_j29 k_j29
 have KQ_:=KB_.binds (ps:=["script"]) fun _ _ _ _ _ _ us hl=>(by obtain⟨y0,rfl⟩:=len1 hl;rfl)
 have KR_:=PySem.W.mg_of X G a_j29
 refine⟨PySem.W.fnOf "law" "law" (Al WW) (Ak WW) (Ab WW) .none HV_ HW_ HX_ HU_ FM_ HY_,fun s v=>.of_eq rfl,fun base _ _=>?_⟩
 have Kj:=Vd (P:=l.prog) (w:=w) (base:=base) HZ T W Z
 have A4:=Qq (P:=l.prog) (w:=w) (base:=base) By T W Z Kj HZ Kk Kl
 have Au:=Zj (P:=l.prog) (w:=w) (base:=base) Ap T W Z
 have Tj:=Dl_ (P:=l.prog) (w:=w) (base:=base) Lz T W Z
 have F9:=WY (P:=l.prog) (w:=w) (base:=base) D4 T W Z Tj Lz Tn To
 have Tp:=Dm_ (P:=l.prog) (w:=w) (base:=base) LA T W Z
 have LD:=WZ (P:=l.prog) (w:=w) (base:=base) Hr T W Z Tp LA Tq Tr
 have Ge:=W0 (P:=l.prog) (w:=w) (base:=base) Gf T W Z F9 D4 Ga Gb LD Hr LF LG
 have Ik:=Be_ (P:=l.prog) (w:=w) (base:=base) Il T W Z Ge Gf Gg Gh
 have AE:=Nh (P:=l.prog) (w:=w) (base:=base) AY T W Z
 have Qc:=Gu_ (P:=l.prog) (w:=w) (base:=base) LB T W Z F9 D4 Ga Gb
 have Ej:=Za (P:=l.prog) (w:=w) (base:=base) EV T W Z
 have W8:=Fz_ (P:=l.prog) (w:=w) (base:=base) OU T W Z Qc LB Qd Qe Ej EV Ek El
 have Jo:=TJ (P:=l.prog) (w:=w) (base:=base) Hj T W Z Ej EV Ek El
 have JL:=Do_ (P:=l.prog) (w:=w) (base:=base) Hs T W Z
 have Bo_:=Gv_ (P:=l.prog) (w:=w) (base:=base) TL T W Z JL Hs JO JQ
 have AU:=KN (P:=l.prog) (w:=w) (base:=base) Bc T W Z Jo Hj Jp Jq Bo_ TL Bp_ Bq_
 have CN:=ON (P:=l.prog) (w:=w) (base:=base) BX T W Z
 have Fk_:=IO_ (P:=l.prog) (w:=w) (base:=base) Y8 T W Z Qc LB Qd Qe
 have EX:=Y7 (P:=l.prog) (w:=w) (base:=base) DK T W Z CN BX CP CQ Fk_ Y8 Fm_ Fn_
 have C8:=Ql (P:=l.prog) (w:=w) (base:=base) C9 T W Z EX DK EY EZ
 have Ke:=Vf (P:=l.prog) (w:=w) (base:=base) HY T W Z W8 OU W9 Xa AU Bc AV AW C8 C9 Dc Dd
 have Qf:=Bg_ (P:=l.prog) (w:=w) (base:=base) JR T W Z Ej EV Ek El
 have Et:=Tu (P:=l.prog) (w:=w) (base:=base) CH T W Z JL Hs JO JQ Qf JR Qg Qh
 have ID:=RP (P:=l.prog) (w:=w) (base:=base) E2 T W Z
 have Fq:=LP (P:=l.prog) (w:=w) (base:=base) DL T W Z Et CH Eu Ew ID E2 IE IF
 have Gj:=W2 (P:=l.prog) (w:=w) (base:=base) Gk T W Z
 have Jr:=TF (P:=l.prog) (w:=w) (base:=base) FG T W Z EX DK EY EZ
 have Fu:=LQ (P:=l.prog) (w:=w) (base:=base) DM T W Z EX DK EY EZ Gj Gk Gm Gn Jr FG Js Jt
 have Fx:=LS (P:=l.prog) (w:=w) (base:=base) DO T W Z Fq DL Fs Ft Fu DM Fv Fw
 have Qm:=Bi_ (P:=l.prog) (w:=w) (base:=base) JS T W Z Et CH Eu Ew
 have E3:=KO (P:=l.prog) (w:=w) (base:=base) Dr T W Z AU Bc AV AW Fx DO Fy Fz Qm JS Qn Qo
 have FK:=Qp (P:=l.prog) (w:=w) (base:=base) FL T W Z Ke HY Kf Kg E3 Dr E4 E5
 have Cw:=Vg (P:=l.prog) (w:=w) (base:=base) Ds T W Z FK FL FN FO
 have Gz:=N6 (P:=l.prog) (w:=w) (base:=base) EC T W Z Ik Il Im Io AE AY AF AG Cw Ds Cy Cz
 have L3:=Xe (P:=l.prog) (w:=w) (base:=base) Jc T W Z Gz EC GA GC
 have DU:=RS (P:=l.prog) (w:=w) (base:=base) DV T W Z L3 Jc L4 L5
 have BK:=Qu (P:=l.prog) (w:=w) (base:=base) Bi T W Z
 have DA:=Xi (P:=l.prog) (w:=w) (base:=base) Cs T W Z DU DV DW DX BK Bi BL BN
 have L6:=Xd (P:=l.prog) (w:=w) (base:=base) Jd T W Z AE AY AF AG
 have De:=Qs (P:=l.prog) (w:=w) (base:=base) Df T W Z L6 Jd L7 L8
 have Ib:=Vh (P:=l.prog) (w:=w) (base:=base) Fm T W Z BK Bi BL BN De Df Dh Di
 have E6:=KQ (P:=l.prog) (w:=w) (base:=base) Du T W Z Ge Gf Gg Gh Ik Il Im Io AE AY AF AG C8 C9 Dc Dd Cw Ds Cy Cz
 have Jx:=TN (P:=l.prog) (w:=w) (base:=base) Hl T W Z E6 Du E7 E8
 have CT:=O0 (P:=l.prog) (w:=w) (base:=base) CU T W Z AE AY AF AG CN BX CP CQ Jx Hl Jy Jz
 have AL:=TV (P:=l.prog) (w:=w) (base:=base) AA T W Z BK Bi BL BN CT CU CV CW
 have N7:=Y9 (P:=l.prog) (w:=w) (base:=base) Kh T W Z
 have LJ:=W5 (P:=l.prog) (w:=w) (base:=base) Ja T W Z
 have Oa:=Ze (P:=l.prog) (w:=w) (base:=base) Ki T W Z LJ Ja LK LL
 have FA:=LO (P:=l.prog) (w:=w) (base:=base) DQ T W Z
 have Ma:=Xf (P:=l.prog) (w:=w) (base:=base) Je T W Z AU Bc AV AW Cw Ds Cy Cz N7 Kh N8 N9 Oa Ki Ob Oc FA DQ FC FD
 have IP:=RT (P:=l.prog) (w:=w) (base:=base) GH T W Z Ma Je Mb Mc
 have LX:=W6 (P:=l.prog) (w:=w) (base:=base) Jb T W Z Gj Gk Gm Gn
 have BO:=Qr (P:=l.prog) (w:=w) (base:=base) Ce T W Z LX Jb LY LZ
 have Qv:=Bs_ (P:=l.prog) (w:=w) (base:=base) JV T W Z Au Ap Av Aw
 have Of:=Zm (P:=l.prog) (w:=w) (base:=base) II T W Z
 have G9:=Zr (P:=l.prog) (w:=w) (base:=base) Fc T W Z
 have G2:=Zo (P:=l.prog) (w:=w) (base:=base) Fb T W Z Au Ap Av Aw
 have IJ:=RU (P:=l.prog) (w:=w) (base:=base) Fd T W Z Au Ap Av Aw G2 Fb G3 G4
 have FX:=Zs (P:=l.prog) (w:=w) (base:=base) Er T W Z A4 By A7 A8 Au Ap Av Aw DU DV DW DX De Df Dh Di CT CU CV CW BO Ce BP BQ Qv JV Qw Qx Of II Og Oh G9 Fc Ha Hb IJ Fd IK IL
 have Fg:=Vj (P:=l.prog) (w:=w) (base:=base) Dz T W Z Au Ap Av Aw IP GH IQ IS FX Er FY FZ
 have Km:=Ve (P:=l.prog) (w:=w) (base:=base) Ia T W Z
 have Hc:=OV (P:=l.prog) (w:=w) (base:=base) Ff T W Z Km Ia Kn Ko
 have Ju:=TH (P:=l.prog) (w:=w) (base:=base) Hk T W Z
 have GD:=Od (P:=l.prog) (w:=w) (base:=base) ED T W Z Ju Hk Jv Jw
 have Ey:=Bv_ (P:=l.prog) (w:=w) (base:=base) Dj T W Z A4 By A7 A8 BO Ce BP BQ Hc Ff Hd He GD ED GF GG
 have JA:=TZ (P:=l.prog) (w:=w) (base:=base) FJ T W Z FX Er FY FZ Fg Dz Fh Fi Ey Dj Ez EA
 have F0:=Ni (P:=l.prog) (w:=w) (base:=base) C2 T W Z A4 By A7 A8 Au Ap Av Aw DA Cs DC DD AL AA AM AN BO Ce BP BQ G9 Fc Ha Hb G2 Fb G3 G4
 have KP_:=Kx_ (P:=l.prog) (w:=w) (base:=base) KB_ T W Z A4 By A7 A8 Au Ap Av Aw DA Cs DC DD Ib Fm Ic Ie AL AA AM AN Fg Dz Fh Fi Ey Dj Ez EA JA FJ JC JD F0 C2 F1 F2
 exact KP_
theorem walk {l:PySem.W.OpenLaw}{q:Program}{loose:List Str}{XP:(Str->Option Value)->Heap->Prop}{YP:World->Heap->Prop}{d:DefRec}{K:Params->PySem.W.Frag}(hn:l.most=some 63)(hdf:d.params.defaults=[])
  (hY:∀(w:World) (h:Heap),YP w h->(K w.params).In h)
  (F:∀(w:World) (mg:Str->Option Value) (fa:Addr) (h:Heap),(K w.params).In h->h.Ns mainGlobals mg->mg d.name=some (.ref fa) ->
   ∃fd:FuncData,(∀(s:Shared) (u:Value),BindsTo s fd ⟨[u],[]⟩ [("script",u)])/\∀base:Heap,(K w.params).In base->base.Ns mainGlobals mg->FnOk l.prog w (K w.params) mg base CX0 18 fa fd ["script"] (GC_ (K w.params))):
  PySem.W.WalkO q loose XP YP l.row.toRowW d [] (fun f vs=>PySem.call f vs):=
 L2.walk_of (n:=63) (k:=18) (x := "script") (CX:=fun _=>CX0) (sp:=fun w=>GC_ (K w.params)) hn (by decide) hdf ⟨rfl,by decide,by decide⟩ hY F (fun _ _ a ns hl _ hS=>⟨a,ns,rfl,hS,hl,fun _=>rfl⟩) fun _ _ _ _ _ z=>z
end Mine
namespace PySem.W.Fast
def tw2720472532033177400:=0
def tw16489317039771417505:=0
def tw930228170944093363:=0
def tw12193863189552626375:=0
def tw12272312439289474279:=0
def tw17764131124593132335:=0
def tw4145775327932248050:=0
def tw9133770287918018484:=0
def tw9491328458890241273:=0
def tw16963075738673260358:=0
def tw1201404497714897179:=0
def tw8169777957265793514:=0
def tw8551935699918234333:=0
def tw8725186577216629167:=0
def tw17950592674960740447:=0
def tw12724387475627762914:=0
def tw2493356045608858139:=0
def tw7588274563925680503:=0
def tw28108845390437944:=0
def tw13046938385907118592:=0
def tw14732513015987230725:=0
def tw1959177524427890998:=0
def tw7978105694962053724:=0
def tw673782717862003588:=0
def tw8709068274178932227:=0
def tw10827097001892142344:=0
def tw8965327281216206654:=0
def tw1650507727616593552:=0
def tw3331089877878085598:=0
def tw17078813978221030984:=0
def tw3432871171650015663:=0
def tw10847364364532677096:=0
def tw11297868955565086373:=0
def tw14847698343820781594:=0
def tw15835610237103966198:=0
def tw5565230350975618542:=0
def tw1502107094684905995:=0
def tw17098087715220951972:=0
def tw7887041852654993298:=0
def tw10385275771017335421:=0
def tw2932590393966931231:=0
def tw3185816916583088868:=0
def tw5318976093238289360:=0
def tw6036996445554282097:=0
def tw1842782697858765540:=0
def tw14110697355808899994:=0
def tw262959594542550470:=0
def tw1328031120023528018:=0
def tw2950456089144762936:=0
def tw1544895705370663768:=0
def tw13962202077434420656:=0
def tw6343535800625131809:=0
def tw535817188323080205:=0
def tw4740923791992527493:=0
def tw16776987115792009681:=0
def tw9645104620571666467:=0
def tw8474079475144462566:=0
def tw14028799684456069799:=0
def tw11444819877765777598:=0
def tw3780381558632365922:=0
def tw18342967813324721730:=0
def tw401106548946359838:=0
def tw14323616986736897275:=0
def tw7000625798555425609:=0
def tw6732475786286155861:=0
def tw810865724813040712:=0
def tw13507855588354361071:=0
def tw14783977623989728931:=0
def tw1864616988034487303:=0
def tw14839228964814271826:=0
def tw6183740426494127104:=0
def tw2995663792511852584:=0
def tw8126705473939615763:=0
def tw15236495749022425658:=0
def tw8610337120002941516:=0
def tw2085626901548577562:=0
def tw10926540906112951428:=0
def tw12351472187117105506:=0
def tw15559197616769583631:=0
def tw15336785677365192922:=0
def tw14272853330220389645:=0
def tw16148785161460649015:=0
def tw6567671289596165633:=0
def tw9776179271230455854:=0
def tw16419855777606093148:=0
def tw8949341951043665176:=0
def tw14018675180312735558:=0
def tw13928191308023258327:=0
def tw9385072373807884610:=0
def tw11265711104418450493:=0
def tw2787556075836406080:=0
def tw1784895225977936456:=0
def tw5905908838575079676:=0
def tw15121143801298827818:=0
def tw6820061516805745525:=0
def tw10006995252239864502:=0
def tw12910266114503205255:=0
def tw4458682730648984477:=0
def tw5048126849630305722:=0
def tw8154357387895984098:=0
def tw2545353474148626311:=0
def tw18059139261537858308:=0
def tw13842207026974303836:=0
def tw15378880270637608874:=0
def tw3341205790096290852:=0
def tw16644085170771468950:=0
def tw11787307258822920513:=0
def tw1261532640132143044:=0
def tw76288048994633635:=0
def tw809861981802666528:=0
def tw3677565768923220698:=0
def tw13310932560641560137:=0
def tw12055233523604958500:=0
def tw923824310232045161:=0
def tw8325033916005586090:=0
def tw2290182648235475346:=0
def tw13454435084354017577:=0
def tw3404381338175162304:=0
def tw6369999113419069338:=0
def tw12893391335949018908:=0
def tw16233598193720838376:=0
def tw10273017801903984255:=0
def tw6724163790467027040:=0
def tw18008441617306095580:=0
def tw12199929835188954383:=0
def tw12738166232753608207:=0
def tw1483695083223308695:=0
def tw5044008354649901543:=0
def tw15896165477698725732:=0
def tw8882963913139378609:=0
def tw13227522889974005177:=0
def tw18284493858880854071:=0
def tw9122487495409291805:=0
def tw1336178573741702972:=0
def tw2513653230312547860:=0
def tw14175640864607994917:=0
def tw17170021758150528673:=0
def tw8627547853789052016:=0
def tw9376745969809683862:=0
def tw7387811428483182018:=0
def tw3984664427920112430:=0
def tw5629667977032981795:=0
def tw12241212002491934173:=0
def tw13147404264582301705:=0
def tw5765500513520695160:=0
def tw11347338535652625370:=0
def tw3563906390491407551:=0
def tw16765275576675471943:=0
def tw12512785868019608698:=0
def tw5969236421591159753:=0
def tw8087160649715224671:=0
def tw12245148434657696380:=0
def tw7300362459146704968:=0
def tw5764391743402537816:=0
def tw16202045285804987846:=0
def tw10447916583446346722:=0
def tw11302766798563987260:=0
def tw17282063797576536874:=0
def tw2487827247083741250:=0
def tw359084624885342970:=0
def tw18260950487289244473:=0
def tw12302739107111905624:=0
def tw10896515309427627927:=0
def tw12121974582595978200:=0
def tw1551587323488556412:=0
def tw4362923850381393556:=0
def tw12682067174928146541:=0
def tw14968347504753949815:=0
def tw14246986724957042711:=0
def tw424481949574386869:=0
def tw592257751478084012:=0
def tw2941256411543103401:=0
def tw5816811474579710234:=0
def tw17952972918795723623:=0
def tw8868473726422572201:=0
def tw8625478830931074687:=0
def tw7320824317926003322:=0
def tw2120320201895598947:=0
def tw3452870889126710947:=0
def tw2548580026571144532:=0
def tw6307700156596899646:=0
def tw11784428470672551325:=0
def tw7086100843788692912:=0
def tw3190723135602879742:=0
def tw13479643568057213776:=0
def tw1724943105540066750:=0
def tw8366854037583411302:=0
def tw2960579742639915784:=0
def tw16410898016965741766:=0
def tw4403031181195032692:=0
def tw18021768571286628913:=0
def tw11694368619640294424:=0
def tw15868985978269339277:=0
def tw8080136600351879382:=0
def tw5722854094415454919:=0
def tw12191454899190828225:=0
def tw257191211005039638:=0
def tw7744545424960535342:=0
def tw10697674864998566115:=0
def tw6037372070214777111:=0
def tw9225525963645745248:=0
def tw14470644428428469563:=0
def tw561584537846822292:=0
def tw15899345688191552679:=0
def tw13724546575915971691:=0
def tw9916019370882785180:=0
def tw1260085574271723762:=0
def tw16802082457104003276:=0
def tw4293951118654404608:=0
def tw6234234084738869715:=0
def tw12835900897691019030:=0
def tw9776606711841829063:=0
def tw17937308854664834903:=0
def tw15834216265298656639:=0
def tw14053300725630253258:=0
def tw477139515523691714:=0
def tw15370328885069944959:=0
def tw16120485683866548330:=0
def tw15651665416290615757:=0
def tw4307804798575396820:=0
def tw17711062155926685988:=0
def tw1938371578003502220:=0
def tw6527322510635853317:=0
def tw10083815276879933874:=0
def tw1819827340101246225:=0
def tw1461776416016857244:=0
def tw289097936060376662:=0
def tw9658407814745302398:=0
def tw15770621384153034397:=0
def tw127630686459693514:=0
def tw10035471527385741428:=0
def tw17167136393306060002:=0
def tw3031149719601137672:=0
def tw10721701039214732865:=0
def tw12472998775510563601:=0
def tw13936604796099501099:=0
def tw3526209472155322281:=0
def tw9675376098176466683:=0
def tw10410862732067834913:=0
def tw2492130299020659622:=0
def tw2639053085304346194:=0
def tw1477859584287772785:=0
def tw17856466394982345001:=0
def tw9811657597745766596:=0
def tw9517227154238734989:=0
def tw6185401081150910992:=0
def tw5541214757618834537:=0
def tw12945722326729643895:=0
def tw3316228296051552254:=0
def tw4484705101608317955:=0
def tw5887635574213078522:=0
def tw16237666962295024109:=0
def tw13288258447875975357:=0
def tw18327179407582794678:=0
def tw12591082734045159803:=0
def tw17538168471805535407:=0
def tw12037232503247238215:=0
def tw440588664355327627:=0
def tw11106031709239036307:=0
def tw12629730691005094881:=0
def tw8694285346078760779:=0
def tw16301496659943632231:=0
def tw6216986162078897029:=0
def tw12461642868231793087:=0
def tw7112521308059154418:=0
def tw359494172404835468:=0
def tw15768719415486691531:=0
def tw8573111877601125603:=0
def tw6831989237443075997:=0
def tw3864351005450105661:=0
def tw14979154783143474356:=0
def tw8440620153238562416:=0
def tw13896313843836782538:=0
def tw6591694615520748657:=0
def tw13527333455171899010:=0
def tw9616412046380544624:=0
def tw15104251937098801945:=0
def tw10462698790243125318:=0
def tw6168029818370643037:=0
def tw6411819482761932901:=0
def tw12491310111173770762:=0
def tw2047469498135809084:=0
def tw14866903176445724842:=0
def tw15960226643989663710:=0
def tw17071539332291918904:=0
def tw15390799990669287724:=0
def tw14192127805644995574:=0
def tw10743345240407385300:=0
def tw13366988421012259352:=0
def tw5855560238056748094:=0
def tw14426075428550500469:=0
def tw17856777518596311245:=0
def tw12278143400147691193:=0
def tw10206032825259581292:=0
def tw1106993035193263593:=0
def tw7916282950121693770:=0
def tw4708619759984823616:=0
def tw15077547435662929127:=0
def tw7097954752385402625:=0
def tw17166704592831220675:=0
def tw10603914455465926159:=0
def tw18093093859373438100:=0
def tw11644565691740366075:=0
def tw7282917800710214335:=0
def tw693116859595363650:=0
def tw13953713468759339215:=0
def tw5437269062866824847:=0
def tw4328143591354247031:=0
def tw14686840076028730613:=0
def tw6876947451926613969:=0
def tw18258595211632394072:=0
def tw3970301841147910146:=0
def tw10691614032887500744:=0
def tw1736079873224646768:=0
def tw536095304480552713:=0
def tw8179560325324186702:=0
def tw15116056229540890678:=0
def tw1912451721398323636:=0
def tw11599580062829134625:=0
def tw600995659188686687:=0
def tw434753838132508236:=0
def tw5034749449761131441:=0
def tw1412999980022657610:=0
def tw9081144889452274159:=0
def tw4875954024100401223:=0
def tw15889183032100143694:=0
def tw15542142823605872890:=0
def tw14395022203966968452:=0
def tw2212751359405540150:=0
def tw14808058803731420366:=0
def tw13087319116317792664:=0
def tw12782765156285115558:=0
def tw15956880202642345434:=0
def tw4871192017374941686:=0
def tw6412418737823307202:=0
def tw10462121613026009792:=0
def tw6420749271887084893:=0
def tw13448022479451068049:=0
def tw13865198643355109110:=0
def tw11650172974669160292:=0
def tw10385989904330861430:=0
def tw14954933118885307666:=0
def tw8546896440400281628:=0
def tw9291492174865808367:=0
def tw4909875588969346020:=0
def tw15216436693655701957:=0
def tw3609977177048839747:=0
def tw5885767218145274260:=0
def tw3404370972298809528:=0
def tw1788796852145403752:=0
def tw14963217186209898079:=0
def tw9154343417214100892:=0
def tw5259851395935445664:=0
def tw12249018917260137688:=0
def tw10370938051424571811:=0
def tw1880697051240369961:=0
def tw16814228321350820916:=0
def tw271729968066970573:=0
def tw617482127342005903:=0
def tw11368568575667258348:=0
def tw12425645984594790363:=0
def tw322906128314439149:=0
def tw13459085039750357689:=0
def tw2966737418649422311:=0
def tw11604203272768320206:=0
def tw2875529977199629199:=0
def tw8365621402274312416:=0
def tw8644471309043342922:=0
def tw1338547679942073920:=0
def tw1359515308843194534:=0
def tw2772180255480318453:=0
def tw1672407075880307717:=0
def tw3298229136237090583:=0
def tw2902224553404290990:=0
def tw15456700896198260247:=0
def tw8069524452691992745:=0
def tw11909764797972122339:=0
def tw9568556711162366717:=0
def tw15366411267036797957:=0
def tw4260730799836304984:=0
def tw10507736605940230587:=0
def tw9796090617392602034:=0
def tw10612602045550204611:=0
def tw16028295968019798459:=0
def tw11413759771816754669:=0
def tw8358602384917805324:=0
def tw6240552462714188121:=0
def tw13124018467674708984:=0
def tw5581101870873053460:=0
def tw5118619550772667374:=0
def tw4377490998588715884:=0
def tw8673164030281405432:=0
def tw1026663365782796637:=0
def tw13888179971095881915:=0
def tw7949539691819295157:=0
def tw16939495117771924079:=0
def tw8614282477731665880:=0
def tw494275373617481241:=0
def tw1112168135470941434:=0
def tw5772413661667086538:=0
def tw13609053023578595813:=0
def tw15354842925972773978:=0
def tw1700436428389735783:=0
def tw17955920353016738731:=0
def tw15594884899577075585:=0
def tw15770901910427428113:=0
def tw9104376876604349836:=0
def tw509317585520369428:=0
def tw15843414836924694940:=0
def tw8035787213258668307:=0
def tw17542402841673089146:=0
def tw13790474874464838863:=0
def tw15688829861118532212:=0
def tw14780361023778809082:=0
def tw13316865922472266763:=0
def tw12732069545183005516:=0
def tw350688958588090273:=0
def tw12901737577658027012:=0
def tw11996808806011563473:=0
def tw10179080381176106331:=0
def tw13860468126421929775:=0
def tw15998981177933500645:=0
def tw4753777184496705531:=0
def tw15344142870418042239:=0
def tw7239308681878842514:=0
def tw11564558684545504085:=0
def tw17946245727517913508:=0
def tw6788848727947605068:=0
def tw5263273129504233728:=0
def tw8676570688072624030:=0
def tw8230802514724197188:=0
def tw18189738334316911972:=0
def tw3690358508933186802:=0
def tw4337593917458621271:=0
def tw13443556478318013535:=0
def tw13958144061924588436:=0
def tw5268174612161646834:=0
def tw12047063668763061406:=0
def tw15925580527103826432:=0
def tw10127888701601677763:=0
def tw16321187520109490696:=0
def tw1592901493674660532:=0
def tw6389690772780899002:=0
def tw14161770843630033212:=0
def tw8549995660223380550:=0
def tw10751946449561031335:=0
def tw11394654772084364903:=0
def tw2911712878314536377:=0
def tw1326740392028871422:=0
def tw7583398063128456615:=0
def tw10179273169524587643:=0
def tw2260069778954266521:=0
def tw2240714035069294003:=0
def tw9346336295724107565:=0
def tw9357327013587062505:=0
def tw10585400414021866069:=0
def tw8814895411279088450:=0
def tw1146511944758923310:=0
def tw6325437216781802526:=0
def tw3780504488668848365:=0
def tw17208525308440726350:=0
def tw8554181202873393552:=0
def tw17839111194387288489:=0
def tw12111218748630889501:=0
def tw14215785384969708362:=0
def tw15887818317685287968:=0
def tw14053054494302261455:=0
def tw1550372597242776255:=0
def tw9212484604628525923:=0
def tw7804481688959586713:=0
def tw17686409623651789701:=0
def tw5491344113396574472:=0
def tw12717520813778778631:=0
def tw10609478419043271179:=0
def tw14777472506833747784:=0
def tw14334035024730259782:=0
def tw6341933991066918994:=0
def tw134997167310919457:=0
def tw10341591811988609080:=0
def tw17448677898966164989:=0
def tw1576145899952622958:=0
def tw2483929849713623435:=0
def tw13541939369433042755:=0
def tw16172817414671269350:=0
def tw12857246027301791215:=0
def tw5940319052441246177:=0
def tw9822193634580581236:=0
def tw10230142962215445117:=0
def tw587797992038868934:=0
def tw7831821425415397105:=0
def tw14563787713623222230:=0
def tw3030081254794949764:=0
def tw17658647576459829638:=0
def tw12716769851681322458:=0
def tw14553158179020027694:=0
def tw15511755231692853372:=0
def tw17489935131763579074:=0
def tw1018270184304875801:=0
def tw17540452371969707171:=0
def tw13953367250074050312:=0
def tw18322346263584293904:=0
def tw5289692118888395535:=0
def tw2941555617332337302:=0
def tw16066029071104754214:=0
def tw15537525319825013038:=0
def tw16692660946651529771:=0
def tw3829957120478418373:=0
def tw13853022059806766519:=0
def tw10220372606599692127:=0
def tw17020268538831629203:=0
def tw7603450122372275471:=0
def tw4648869997247910058:=0
def tw7746591099941411001:=0
def tw961095578567798137:=0
def tw13892469138180501373:=0
def tw16948887170387032149:=0
def tw4941226073954647886:=0
def tw8059881112522613911:=0
def tw12067185904293878086:=0
def tw9886862679141227721:=0
def tw17103928631667625455:=0
def tw14571603315199702400:=0
def tw6938007439818241852:=0
def tw16846469237083141073:=0
def tw14848418662081220150:=0
def tw12756831234572272815:=0
def tw10877517729404936475:=0
def tw3498266930902130458:=0
def tw4319032264419569533:=0
def tw4450779163534466425:=0
def tw13213284901709173007:=0
def tw12287235603991387792:=0
def tw9539327085216540921:=0
def tw12710329452792678918:=0
def tw11062085443229491722:=0
def tw9078823971790078296:=0
def tw2893841004373004061:=0
def tw5813333545698575320:=0
def tw4966434884111395516:=0
def tw15066720846399984201:=0
def tw576689253685724262:=0
def tw273881408858386029:=0
def tw2016294436608922385:=0
def tw5932204204371469969:=0
def tw9309260702524049267:=0
def tw12987803747745044065:=0
def tw7071323619974192517:=0
def tw17342496122305859804:=0
def tw5060033591480509588:=0
def tw6366348735370510583:=0
def tw9235354919126967840:=0
def tw17618172137524848130:=0
def tw3955190022246838337:=0
def tw9804158478816821929:=0
def tw6109604853174737332:=0
def tw14050834436137413689:=0
def tw1353940978628797829:=0
def tw8234149423716743547:=0
def tw7408287497016947237:=0
def tw3257340562640185235:=0
def tw287831158163205549:=0
def tw12682251123919733831:=0
def tw926987556268280352:=0
def tw15146786691366651435:=0
def tw2169309173198990603:=0
def tw3749340834124498141:=0
def tw337218761402550098:=0
def tw1899443649363513676:=0
def tw15803053303583172880:=0
def tw15522876772679847050:=0
def tw1269717099434675438:=0
def tw4867252211365637054:=0
def tw5764259329118251897:=0
def tw11470859503689129371:=0
def tw6056299310804556985:=0
def tw2833916076213951547:=0
def tw7190249190725771634:=0
def tw15319525708818216267:=0
def tw10989294181388140832:=0
def tw16419255510172454892:=0
def tw15301179028348942575:=0
def tw218933887300052608:=0
def tw817910650312489695:=0
def tw1361551595902322171:=0
def tw2299046501844225065:=0
def tw666218556048634853:=0
def tw522497443135952458:=0
def tw14851708844514876179:=0
def tw11408557230480704648:=0
def tw15420480988628581482:=0
def tw14054590830193333509:=0
def tw13650952116391532938:=0
def tw3303360466577577137:=0
def tw11085345212220295313:=0
def tw13008767280270483318:=0
def tw17864548782046191245:=0
def tw5223692807613215594:=0
def tw5962452393392006325:=0
def tw12248473725860740195:=0
def tw12854904577657633859:=0
def tw8119126733271024403:=0
def tw406398214014147392:=0
def tw3715382621379514712:=0
def tw8552790110857826597:=0
def tw6736874752761631022:=0
def tw7973281292220165283:=0
def tw5113852547231727694:=0
def tw15536254597076871165:=0
def tw10432633253792768291:=0
def tw4206593324000932510:=0
def tw8025574384557910494:=0
def tw281185016270265313:=0
def tw15409647500936978148:=0
def tw12170911083529192136:=0
def tw5422248602049356943:=0
def tw8775411015095896463:=0
def tw10105074328869640601:=0
def tw7954565428101377066:=0
def tw9922975564812719105:=0
def tw6716936927819732930:=0
def tw8275876067611992718:=0
def tw14834980567693915978:=0
def tw891811155086440261:=0
def tw15005017666364665974:=0
def tw1151982362175411157:=0
def tw12587838634780438239:=0
def tw4015316144341015342:=0
def tw2133625897961549640:=0
def tw7390827975087682061:=0
def tw3719409586132698516:=0
def tw8278904532461066063:=0
def tw240488864928683163:=0
def tw8626351794665795812:=0
def tw17430341988491211914:=0
def tw11108577834814915144:=0
def tw16030380281249987777:=0
def tw14522820982907543214:=0
def tw10401806657522541820:=0
def tw10221719666280551031:=0
def tw15186008633950743975:=0
def tw14989275680506209339:=0
def tw8065524598370730635:=0
def tw3798442129358229701:=0
def tw2199230519287854181:=0
def tw6452566736508284631:=0
def tw451866836197628288:=0
def tw14793228443296540455:=0
def tw10720849130447363967:=0
def tw1609105040266198952:=0
def tw615942997491917289:=0
def tw14118609753988320640:=0
def tw17275382720699909014:=0
def tw2443512284767503081:=0
def tw1761085568281946658:=0
def tw3431465620364838058:=0
def tw13476114861137630869:=0
def tw15867602844283349977:=0
def tw18024532094399275715:=0
def tw12636950356153395293:=0
def tw10456839726288907646:=0
def tw10604370587806156319:=0
def tw5730485821755540077:=0
def tw2428901848187902184:=0
def tw1702986518995099497:=0
def tw3652527888045792824:=0
def tw1560095545679849086:=0
def tw1963498295218828090:=0
def tw18164443453231924283:=0
def tw14244541917574953618:=0
def tw2212912815638886670:=0
def tw17237223902660804885:=0
def tw5255964909423957598:=0
def tw16817511829242293567:=0
def tw12003784038370450200:=0
def tw1924710272387260505:=0
def tw11241623170289692905:=0
def tw12161170871889850472:=0
def tw16520785037456495703:=0
def tw9281225668702584015:=0
def tw13904548082099944358:=0
def tw10615467855645954051:=0
def tw7456058699379192019:=0
def tw4926779080131018805:=0
def tw3561742919771823612:=0
def tw13603653645921766875:=0
def tw5153859046143890649:=0
def tw5589236323538734645:=0
def tw111637582522629253:=0
def tw4693452716024559781:=0
def tw15835582888560139661:=0
def tw14931071076498838062:=0
def tw10040940033811437812:=0
def tw5782194829765078248:=0
def tw4886698708698809277:=0
def tw14995809639557220018:=0
def tw13913753322342596662:=0
def tw10353002433613877551:=0
def tw9294357050922168822:=0
def tw6238971841079061653:=0
def tw18350943861888685060:=0
def tw16554890246745433063:=0
def tw652407660091309054:=0
def tw8286414189375562196:=0
def tw17300890273585110878:=0
def tw13940340361238616382:=0
def tw11145046898754170347:=0
def tw7665625492316890607:=0
def tw10283888694964377594:=0
def tw4014880833960784209:=0
def tw17704416442943710545:=0
def tw6472583465481156546:=0
def tw9545193185658664196:=0
def tw4866974249137387397:=0
def tw885296192650758042:=0
def tw5890572932914054218:=0
def tw4995729277255433611:=0
def tw9269079876891315491:=0
def tw3591739013646348922:=0
def tw77198044915529176:=0
def tw8775469281277543731:=0
def tw7815044316634414516:=0
def tw7805593166467107032:=0
def tw3804007629700545615:=0
def tw2493568327322633106:=0
def tw2696377663558700647:=0
def tw5937901049497246351:=0
def tw18416128332805038682:=0
def tw5395256253852858510:=0
def tw4111375342838894809:=0
def tw8405522624896210638:=0
def tw2727928527020026388:=0
def tw4350507038229813742:=0
def tw17460834714954192189:=0
def tw10753818837531204934:=0
def tw14969982345740709407:=0
def tw11261516439258846967:=0
def tw4619807511070338315:=0
def tw2824424792793260230:=0
def tw15070522198634369565:=0
def tw5410371519569279824:=0
def tw17472673949944265527:=0
def tw8601314486252841160:=0
def tw15221418444653037936:=0
def tw9594450435040566329:=0
def tw13070862856457128016:=0
def tw9411249046083913897:=0
def tw2819481492056811872:=0
def tw593328180724630935:=0
def tw16261399044344321935:=0
def tw4833791915732864090:=0
def tw17347170399765621411:=0
def tw4872746933097337366:=0
def tw2699066355854223258:=0
def tw9157250748698027224:=0
def tw9572105541604329050:=0
def tw13146333396074248903:=0
def tw2312632384790555923:=0
def tw16702903748002132307:=0
def tw4963263209911451146:=0
end PySem.W.Fast
open PySem PySem.W PyProof.Rows
set_option maxRecDepth 100000 in
set_option maxHeartbeats 0 in
theorem PySem.Challenge.cw_guessroom_k57_say_asker_refuses_holds : PySem.Challenge.rw_guessroom_k57_say_asker_refuses.Holds := by
  w_on; o_law; k_head; (case hw => w_witness2)
  k_fill
  refine Mine.walk (l := PySem.Challenge.rw_guessroom_k57_say_asker_refuses) rfl rfl (fun w h Y => PySem.W.kIn_of Y) ?F
  case F =>
    intro w mg fa h KX G hmg
    refine' Mine.all_mk KX G hmg ?aC_j7 ?pg_j7 ?hd_j7 ?po_j7 ?sa_j7 ?mk_j7 ?kc_j7 ?n_letters_Book ?n_marks_Book ?aC_j9 ?aC_jj ?aC_ja ?aC_j1 ?pg_j1 ?hd_j1 ?po_j1 ?sa_j1 ?mk_j1 ?kc_j1 ?n_book_SayHunt ?n_ends_SayHunt ?n_gaps_SayHunt ?n_guess_SayHunt ?n_letters_SayHunt ?n_most_SayHunt ?n_ways_SayHunt ?n_wish_SayHunt ?n_wrong_SayHunt ?aC_j4 ?pg_j4 ?hd_j4 ?po_j4 ?sa_j4 ?mk_j4 ?kc_j4 ?n_hunt_SayAsker ?n_letters_SayAsker ?q_j28 ?a_j11 ?i_j11 ?l_j11 ?c_j11 ?k_j11 ?a_jq ?i_jq ?l_jq ?c_jq ?k_jq ?a_j1s ?l_j1s ?c_j1s ?k_j1s ?a_j21 ?l_j21 ?c_j21 ?k_j21 ?a_j1o ?l_j1o ?c_j1o ?k_j1o ?a_j22 ?l_j22 ?c_j22 ?k_j22 ?a_j1p ?l_j1p ?c_j1p ?k_j1p ?a_j17 ?i_j17 ?l_j17 ?c_j17 ?k_j17 ?a_j1n ?i_j1n ?l_j1n ?c_j1n ?k_j1n ?a_ji ?i_ji ?l_ji ?c_ji ?k_ji ?a_j25 ?l_j25 ?c_j25 ?k_j25 ?a_j1j ?i_j1j ?l_j1j ?c_j1j ?k_j1j ?a_j24 ?l_j24 ?c_j24 ?k_j24 ?a_jx ?i_jx ?l_jx ?c_jx ?k_jx ?a_j23 ?l_j23 ?c_j23 ?k_j23 ?a_j26 ?l_j26 ?c_j26 ?k_j26 ?a_jc ?i_jc ?l_jc ?c_jc ?k_jc ?a_j10 ?l_j10 ?c_j10 ?k_j10 ?a_j27 ?l_j27 ?c_j27 ?k_j27 ?a_j1r ?l_j1r ?c_j1r ?k_j1r ?a_jp ?i_jp ?l_jp ?c_jp ?k_jp ?a_j14 ?i_j14 ?l_j14 ?c_j14 ?k_j14 ?a_j1x ?l_j1x ?c_j1x ?k_j1x ?a_j1f ?l_j1f ?c_j1f ?k_j1f ?a_j1c ?l_j1c ?c_j1c ?k_j1c ?a_jg ?i_jg ?l_jg ?c_jg ?k_jg ?a_j18 ?i_j18 ?l_j18 ?c_j18 ?k_j18 ?a_j1g ?l_j1g ?c_j1g ?k_j1g ?a_jh ?i_jh ?l_jh ?c_jh ?k_jh ?a_je ?i_je ?l_je ?c_je ?k_je ?a_j1y ?l_j1y ?c_j1y ?k_j1y ?a_jd ?i_jd ?l_jd ?c_jd ?k_jd ?a_jo ?i_jo ?l_jo ?c_jo ?k_jo ?a_j12 ?i_j12 ?l_j12 ?c_j12 ?k_j12 ?a_jk ?i_jk ?l_jk ?c_jk ?k_jk ?a_j1b ?i_j1b ?l_j1b ?c_j1b ?k_j1b ?a_jt ?i_jt ?l_jt ?c_jt ?k_jt ?a_j16 ?l_j16 ?c_j16 ?k_j16 ?a_j1q ?l_j1q ?c_j1q ?k_j1q ?a_j19 ?i_j19 ?l_j19 ?c_j19 ?k_j19 ?a_jr ?i_jr ?l_jr ?c_jr ?k_jr ?a_j1l ?l_j1l ?c_j1l ?k_j1l ?a_jb ?i_jb ?l_jb ?c_jb ?k_jb ?a_jy ?i_jy ?l_jy ?c_jy ?k_jy ?a_jm ?i_jm ?l_jm ?c_jm ?k_jm ?a_j1h ?l_j1h ?c_j1h ?k_j1h ?a_j1k ?i_j1k ?l_j1k ?c_j1k ?k_j1k ?sg_jz ?rd_jz ?a_jz ?l_jz ?c_jz ?k_jz ?sg_j15 ?rd_j15 ?a_j15 ?l_j15 ?c_j15 ?k_j15 ?a_jf ?i_jf ?l_jf ?c_jf ?k_jf ?a_j1e ?i_j1e ?l_j1e ?c_j1e ?k_j1e ?a_jv ?i_jv ?l_jv ?c_jv ?k_jv ?a_j1a ?i_j1a ?l_j1a ?c_j1a ?k_j1a ?a_js ?i_js ?l_js ?c_js ?k_js ?a_j1z ?l_j1z ?c_j1z ?k_j1z ?a_j1t ?l_j1t ?c_j1t ?k_j1t ?a_j1u ?l_j1u ?c_j1u ?k_j1u ?a_j1v ?l_j1v ?c_j1v ?k_j1v ?a_j1d ?l_j1d ?c_j1d ?k_j1d ?a_j1w ?l_j1w ?c_j1w ?k_j1w ?a_j1m ?l_j1m ?c_j1m ?k_j1m ?a_j13 ?i_j13 ?l_j13 ?c_j13 ?k_j13 ?a_jn ?i_jn ?l_jn ?c_jn ?k_jn ?a_jw ?i_jw ?l_jw ?c_jw ?k_jw ?a_jl ?i_jl ?l_jl ?c_jl ?k_jl ?a_j20 ?l_j20 ?c_j20 ?k_j20 ?a_j1i ?l_j1i ?c_j1i ?k_j1i ?a_ju ?l_ju ?c_ju ?k_ju ?a_j29 ?l_j29 ?c_j29 ?k_j29 ?z_ValueError ?z_all ?z_enumerate ?z_isinstance ?z_len ?z_list ?z_max ?z_range ?z_tuple ?z_zip ?m_j8 ?m_j5 ?m_j6 ?m_j3 ?m_j2 ?m_j0 ?x_j5 ?ga_j5 ?hk_j5 ?cl_j5 ?ca_j5 ?mo_j5 ?mb_j5 ?e_j5 ?v_j5 ?ee_j5 ?k_j5_j8 ?k_j5_j5 ?k_j5_j6 ?k_j5_j3 ?k_j5_j2 ?k_j5_j0 ?x_j6 ?ga_j6 ?hk_j6 ?cl_j6 ?ca_j6 ?mo_j6 ?mb_j6 ?e_j6 ?v_j6 ?ee_j6 ?k_j6_j8 ?k_j6_j5 ?k_j6_j6 ?k_j6_j3 ?k_j6_j2 ?k_j6_j0 ?x_j3 ?ga_j3 ?hk_j3 ?cl_j3 ?ca_j3 ?mo_j3 ?mb_j3 ?e_j3 ?v_j3 ?ee_j3 ?k_j3_j8 ?k_j3_j5 ?k_j3_j6 ?k_j3_j3 ?k_j3_j2 ?k_j3_j0 ?x_j2 ?ga_j2 ?hk_j2 ?cl_j2 ?ca_j2 ?mo_j2 ?mb_j2 ?e_j2 ?v_j2 ?ee_j2 ?k_j2_j8 ?k_j2_j5 ?k_j2_j6 ?k_j2_j3 ?k_j2_j2 ?k_j2_j0 ?x_j0 ?ga_j0 ?hk_j0 ?cl_j0 ?ca_j0 ?mo_j0 ?mb_j0 ?e_j0 ?v_j0 ?ee_j0 ?k_j0_j8 ?k_j0_j5 ?k_j0_j6 ?k_j0_j3 ?k_j0_j2 ?k_j0_j0 ?kk_SayAsker_Asker ?ka_SayAsker ?ko_SayAsker ?gs ?tk
    (case aC_j7 => k_is)
    (case pg_j7 => k_is)
    (case hd_j7 => k_is)
    (case po_j7 => k_is)
    (case sa_j7 => k_is)
    (case mk_j7 => k_is)
    (case kc_j7 => k_is)
    (case n_letters_Book => k_is)
    (case n_marks_Book => k_is)
    (case aC_j9 => k_is)
    (case aC_jj => k_is)
    (case aC_ja => k_is)
    (case aC_j1 => k_is)
    (case pg_j1 => k_is)
    (case hd_j1 => k_is)
    (case po_j1 => k_is)
    (case sa_j1 => k_is)
    (case mk_j1 => k_is)
    (case kc_j1 => k_is)
    (case n_book_SayHunt => k_is)
    (case n_ends_SayHunt => k_is)
    (case n_gaps_SayHunt => k_is)
    (case n_guess_SayHunt => k_is)
    (case n_letters_SayHunt => k_is)
    (case n_most_SayHunt => k_is)
    (case n_ways_SayHunt => k_is)
    (case n_wish_SayHunt => k_is)
    (case n_wrong_SayHunt => k_is)
    (case aC_j4 => k_is)
    (case pg_j4 => k_is)
    (case hd_j4 => k_is)
    (case po_j4 => k_is)
    (case sa_j4 => k_is)
    (case mk_j4 => k_is)
    (case kc_j4 => k_is)
    (case n_hunt_SayAsker => k_is)
    (case n_letters_SayAsker => k_is)
    (case q_j28 => k_is)
    (case a_j11 => k_is)
    (case i_j11 => k_is)
    (case l_j11 => k_is)
    (case c_j11 => k_is)
    (case k_j11 => k_is)
    (case a_jq => k_is)
    (case i_jq => k_is)
    (case l_jq => k_is)
    (case c_jq => k_is)
    (case k_jq => k_is)
    (case a_j1s => k_is)
    (case l_j1s => k_is)
    (case c_j1s => k_is)
    (case k_j1s => k_is)
    (case a_j21 => k_is)
    (case l_j21 => k_is)
    (case c_j21 => k_is)
    (case k_j21 => k_is)
    (case a_j1o => k_is)
    (case l_j1o => k_is)
    (case c_j1o => k_is)
    (case k_j1o => k_is)
    (case a_j22 => k_is)
    (case l_j22 => k_is)
    (case c_j22 => k_is)
    (case k_j22 => k_is)
    (case a_j1p => k_is)
    (case l_j1p => k_is)
    (case c_j1p => k_is)
    (case k_j1p => k_is)
    (case a_j17 => k_is)
    (case i_j17 => k_is)
    (case l_j17 => k_is)
    (case c_j17 => k_is)
    (case k_j17 => k_is)
    (case a_j1n => k_is)
    (case i_j1n => k_is)
    (case l_j1n => k_is)
    (case c_j1n => k_is)
    (case k_j1n => k_is)
    (case a_ji => k_is)
    (case i_ji => k_is)
    (case l_ji => k_is)
    (case c_ji => k_is)
    (case k_ji => k_is)
    (case a_j25 => k_is)
    (case l_j25 => k_is)
    (case c_j25 => k_is)
    (case k_j25 => k_is)
    (case a_j1j => k_is)
    (case i_j1j => k_is)
    (case l_j1j => k_is)
    (case c_j1j => k_is)
    (case k_j1j => k_is)
    (case a_j24 => k_is)
    (case l_j24 => k_is)
    (case c_j24 => k_is)
    (case k_j24 => k_is)
    (case a_jx => k_is)
    (case i_jx => k_is)
    (case l_jx => k_is)
    (case c_jx => k_is)
    (case k_jx => k_is)
    (case a_j23 => k_is)
    (case l_j23 => k_is)
    (case c_j23 => k_is)
    (case k_j23 => k_is)
    (case a_j26 => k_is)
    (case l_j26 => k_is)
    (case c_j26 => k_is)
    (case k_j26 => k_is)
    (case a_jc => k_is)
    (case i_jc => k_is)
    (case l_jc => k_is)
    (case c_jc => k_is)
    (case k_jc => k_is)
    (case a_j10 => k_is)
    (case l_j10 => k_is)
    (case c_j10 => k_is)
    (case k_j10 => k_is)
    (case a_j27 => k_is)
    (case l_j27 => k_is)
    (case c_j27 => k_is)
    (case k_j27 => k_is)
    (case a_j1r => k_is)
    (case l_j1r => k_is)
    (case c_j1r => k_is)
    (case k_j1r => k_is)
    (case a_jp => k_is)
    (case i_jp => k_is)
    (case l_jp => k_is)
    (case c_jp => k_is)
    (case k_jp => k_is)
    (case a_j14 => k_is)
    (case i_j14 => k_is)
    (case l_j14 => k_is)
    (case c_j14 => k_is)
    (case k_j14 => k_is)
    (case a_j1x => k_is)
    (case l_j1x => k_is)
    (case c_j1x => k_is)
    (case k_j1x => k_is)
    (case a_j1f => k_is)
    (case l_j1f => k_is)
    (case c_j1f => k_is)
    (case k_j1f => k_is)
    (case a_j1c => k_is)
    (case l_j1c => k_is)
    (case c_j1c => k_is)
    (case k_j1c => k_is)
    (case a_jg => k_is)
    (case i_jg => k_is)
    (case l_jg => k_is)
    (case c_jg => k_is)
    (case k_jg => k_is)
    (case a_j18 => k_is)
    (case i_j18 => k_is)
    (case l_j18 => k_is)
    (case c_j18 => k_is)
    (case k_j18 => k_is)
    (case a_j1g => k_is)
    (case l_j1g => k_is)
    (case c_j1g => k_is)
    (case k_j1g => k_is)
    (case a_jh => k_is)
    (case i_jh => k_is)
    (case l_jh => k_is)
    (case c_jh => k_is)
    (case k_jh => k_is)
    (case a_je => k_is)
    (case i_je => k_is)
    (case l_je => k_is)
    (case c_je => k_is)
    (case k_je => k_is)
    (case a_j1y => k_is)
    (case l_j1y => k_is)
    (case c_j1y => k_is)
    (case k_j1y => k_is)
    (case a_jd => k_is)
    (case i_jd => k_is)
    (case l_jd => k_is)
    (case c_jd => k_is)
    (case k_jd => k_is)
    (case a_jo => k_is)
    (case i_jo => k_is)
    (case l_jo => k_is)
    (case c_jo => k_is)
    (case k_jo => k_is)
    (case a_j12 => k_is)
    (case i_j12 => k_is)
    (case l_j12 => k_is)
    (case c_j12 => k_is)
    (case k_j12 => k_is)
    (case a_jk => k_is)
    (case i_jk => k_is)
    (case l_jk => k_is)
    (case c_jk => k_is)
    (case k_jk => k_is)
    (case a_j1b => k_is)
    (case i_j1b => k_is)
    (case l_j1b => k_is)
    (case c_j1b => k_is)
    (case k_j1b => k_is)
    (case a_jt => k_is)
    (case i_jt => k_is)
    (case l_jt => k_is)
    (case c_jt => k_is)
    (case k_jt => k_is)
    (case a_j16 => k_is)
    (case l_j16 => k_is)
    (case c_j16 => k_is)
    (case k_j16 => k_is)
    (case a_j1q => k_is)
    (case l_j1q => k_is)
    (case c_j1q => k_is)
    (case k_j1q => k_is)
    (case a_j19 => k_is)
    (case i_j19 => k_is)
    (case l_j19 => k_is)
    (case c_j19 => k_is)
    (case k_j19 => k_is)
    (case a_jr => k_is)
    (case i_jr => k_is)
    (case l_jr => k_is)
    (case c_jr => k_is)
    (case k_jr => k_is)
    (case a_j1l => k_is)
    (case l_j1l => k_is)
    (case c_j1l => k_is)
    (case k_j1l => k_is)
    (case a_jb => k_is)
    (case i_jb => k_is)
    (case l_jb => k_is)
    (case c_jb => k_is)
    (case k_jb => k_is)
    (case a_jy => k_is)
    (case i_jy => k_is)
    (case l_jy => k_is)
    (case c_jy => k_is)
    (case k_jy => k_is)
    (case a_jm => k_is)
    (case i_jm => k_is)
    (case l_jm => k_is)
    (case c_jm => k_is)
    (case k_jm => k_is)
    (case a_j1h => k_is)
    (case l_j1h => k_is)
    (case c_j1h => k_is)
    (case k_j1h => k_is)
    (case a_j1k => k_is)
    (case i_j1k => k_is)
    (case l_j1k => k_is)
    (case c_j1k => k_is)
    (case k_j1k => k_is)
    (case sg_jz => k_is)
    (case rd_jz => k_is)
    (case a_jz => k_is)
    (case l_jz => k_is)
    (case c_jz => k_is)
    (case k_jz => k_is)
    (case sg_j15 => k_is)
    (case rd_j15 => k_is)
    (case a_j15 => k_is)
    (case l_j15 => k_is)
    (case c_j15 => k_is)
    (case k_j15 => k_is)
    (case a_jf => k_is)
    (case i_jf => k_is)
    (case l_jf => k_is)
    (case c_jf => k_is)
    (case k_jf => k_is)
    (case a_j1e => k_is)
    (case i_j1e => k_is)
    (case l_j1e => k_is)
    (case c_j1e => k_is)
    (case k_j1e => k_is)
    (case a_jv => k_is)
    (case i_jv => k_is)
    (case l_jv => k_is)
    (case c_jv => k_is)
    (case k_jv => k_is)
    (case a_j1a => k_is)
    (case i_j1a => k_is)
    (case l_j1a => k_is)
    (case c_j1a => k_is)
    (case k_j1a => k_is)
    (case a_js => k_is)
    (case i_js => k_is)
    (case l_js => k_is)
    (case c_js => k_is)
    (case k_js => k_is)
    (case a_j1z => k_is)
    (case l_j1z => k_is)
    (case c_j1z => k_is)
    (case k_j1z => k_is)
    (case a_j1t => k_is)
    (case l_j1t => k_is)
    (case c_j1t => k_is)
    (case k_j1t => k_is)
    (case a_j1u => k_is)
    (case l_j1u => k_is)
    (case c_j1u => k_is)
    (case k_j1u => k_is)
    (case a_j1v => k_is)
    (case l_j1v => k_is)
    (case c_j1v => k_is)
    (case k_j1v => k_is)
    (case a_j1d => k_is)
    (case l_j1d => k_is)
    (case c_j1d => k_is)
    (case k_j1d => k_is)
    (case a_j1w => k_is)
    (case l_j1w => k_is)
    (case c_j1w => k_is)
    (case k_j1w => k_is)
    (case a_j1m => k_is)
    (case l_j1m => k_is)
    (case c_j1m => k_is)
    (case k_j1m => k_is)
    (case a_j13 => k_is)
    (case i_j13 => k_is)
    (case l_j13 => k_is)
    (case c_j13 => k_is)
    (case k_j13 => k_is)
    (case a_jn => k_is)
    (case i_jn => k_is)
    (case l_jn => k_is)
    (case c_jn => k_is)
    (case k_jn => k_is)
    (case a_jw => k_is)
    (case i_jw => k_is)
    (case l_jw => k_is)
    (case c_jw => k_is)
    (case k_jw => k_is)
    (case a_jl => k_is)
    (case i_jl => k_is)
    (case l_jl => k_is)
    (case c_jl => k_is)
    (case k_jl => k_is)
    (case a_j20 => k_is)
    (case l_j20 => k_is)
    (case c_j20 => k_is)
    (case k_j20 => k_is)
    (case a_j1i => k_is)
    (case l_j1i => k_is)
    (case c_j1i => k_is)
    (case k_j1i => k_is)
    (case a_ju => k_is)
    (case l_ju => k_is)
    (case c_ju => k_is)
    (case k_ju => k_is)
    (case a_j29 => k_is)
    (case l_j29 => k_is)
    (case c_j29 => k_is)
    (case k_j29 => k_is)
    (case z_ValueError => k_is)
    (case z_all => k_is)
    (case z_enumerate => k_is)
    (case z_isinstance => k_is)
    (case z_len => k_is)
    (case z_list => k_is)
    (case z_max => k_is)
    (case z_range => k_is)
    (case z_tuple => k_is)
    (case z_zip => k_is)
    (case m_j8 => k_is)
    (case m_j5 => k_is)
    (case m_j6 => k_is)
    (case m_j3 => k_is)
    (case m_j2 => k_is)
    (case m_j0 => k_is)
    (case x_j5 => k_exc)
    (case ga_j5 => k_is)
    (case hk_j5 => k_is)
    (case cl_j5 => k_is)
    (case ca_j5 => k_is)
    (case mo_j5 => k_is)
    (case mb_j5 => k_is)
    (case e_j5 => kts_exm)
    (case v_j5 => kit_is)
    (case ee_j5 => kts_exm)
    (case k_j5_j8 => kit_is)
    (case k_j5_j5 => kit_is)
    (case k_j5_j6 => kit_is)
    (case k_j5_j3 => kit_is)
    (case k_j5_j2 => kit_is)
    (case k_j5_j0 => kit_is)
    (case x_j6 => k_exc)
    (case ga_j6 => k_is)
    (case hk_j6 => k_is)
    (case cl_j6 => k_is)
    (case ca_j6 => k_is)
    (case mo_j6 => k_is)
    (case mb_j6 => k_is)
    (case e_j6 => kts_exm)
    (case v_j6 => kit_is)
    (case ee_j6 => kts_exm)
    (case k_j6_j8 => kit_is)
    (case k_j6_j5 => kit_is)
    (case k_j6_j6 => kit_is)
    (case k_j6_j3 => kit_is)
    (case k_j6_j2 => kit_is)
    (case k_j6_j0 => kit_is)
    (case x_j3 => k_exc)
    (case ga_j3 => k_is)
    (case hk_j3 => k_is)
    (case cl_j3 => k_is)
    (case ca_j3 => k_is)
    (case mo_j3 => k_is)
    (case mb_j3 => k_is)
    (case e_j3 => kts_exm)
    (case v_j3 => kit_is)
    (case ee_j3 => kts_exm)
    (case k_j3_j8 => kit_is)
    (case k_j3_j5 => kit_is)
    (case k_j3_j6 => kit_is)
    (case k_j3_j3 => kit_is)
    (case k_j3_j2 => kit_is)
    (case k_j3_j0 => kit_is)
    (case x_j2 => k_exc)
    (case ga_j2 => k_is)
    (case hk_j2 => k_is)
    (case cl_j2 => k_is)
    (case ca_j2 => k_is)
    (case mo_j2 => k_is)
    (case mb_j2 => k_is)
    (case e_j2 => kts_exm)
    (case v_j2 => kit_is)
    (case ee_j2 => kts_exm)
    (case k_j2_j8 => kit_is)
    (case k_j2_j5 => kit_is)
    (case k_j2_j6 => kit_is)
    (case k_j2_j3 => kit_is)
    (case k_j2_j2 => kit_is)
    (case k_j2_j0 => kit_is)
    (case x_j0 => k_exc)
    (case ga_j0 => k_is)
    (case hk_j0 => k_is)
    (case cl_j0 => k_is)
    (case ca_j0 => k_is)
    (case mo_j0 => k_is)
    (case mb_j0 => k_is)
    (case e_j0 => kts_exm)
    (case v_j0 => kit_is)
    (case ee_j0 => kts_exm)
    (case k_j0_j8 => kit_is)
    (case k_j0_j5 => kit_is)
    (case k_j0_j6 => kit_is)
    (case k_j0_j3 => kit_is)
    (case k_j0_j2 => kit_is)
    (case k_j0_j0 => kit_is)
    (case kk_SayAsker_Asker => kit_is)
    (case ka_SayAsker => k_is)
    (case ko_SayAsker => k_is)
    (case gs => k_is)
    (case tk => k_is)
